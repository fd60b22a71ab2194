import PyProof.Rows.All
import Wide.All
import OpenK.AllK
import Wide.FinOn
import PyProof.EqAt
import PyProof.EqKinds
import PyProof.TupleCall
import PyProof.ReprRoads
import HandS.ForMost
import HandS.ForExc
import HandS.ExcInit
import HandS.ExcValue
import HandS.ExcIs
import HandS.IsInst
import HandS.Wide
import HandS.Ends
import HandS.TupSets
import HandS.SetFor
import HandS.SetTxt0
import KE.SortData
import HandS.Strs
import KE.GoesEnum
import KE.GoesMore
import HandS.Iter
import KE.DataCmp
import HandS.WordsExc
import HandS.Property
import HandS.Lambda
import HandS.RaiseMore
import HandS.EndTab
import HandS.NestedK
import PyProof.NeKinds
import HandS.Nested
import HandS.DictComp
import HandS.More
import HandS.Style
import HandS.TupAny
import HandS.OwnEq
import PyProof.InstNe
import HandS.ExcOwn
import PyProof.StrLawsRepr
import KE.DataMinMax
import HandS.SortKw
import HandS.Conv
import HandS.Deep
import HandS.SortInts
import HandS.SortOrd
import KE.KEqDict
import PyProof.DictFindH
import HandS.Dict
import HandS.List
import KE.KEqNest
import KE.GoesRaise
import HandS.Exc
import HandS.Comp
import PyProof.WalksMore
import HandS.SetTxtIn
import HandS.Zip
import HandS.GenList
import HandS.ListItems
import KE.KDictZip
import KE.KItemsList
import PyProof.TupleIter
import HandS.Walk
import HandS.Text
import PyProof.ReprLen
import HandS.FStrTup
import HandS.Small
import HandS.Steps
import PySem.Challenge.RW_quietturns_k40_rows_refused
set_option Elab.async false
set_option linter.all false
set_option maxRecDepth 100000
set_option maxHeartbeats 4000000
/-! Rules of our own over the hand layer: powers, calls where no display is under way, exceptions as values, repr of data. -/
namespace Q
open PySem PySem.Spec PyProof.Rows L2

/-! ### powers of greater numbers -/
def CPw (i j : Int) : Prop :=
  0 ≤ j ∧ ∃ m : Nat, i.natAbs < 2 ^ m ∧ (m : Int) * j ≤ 134217728
theorem op_pw {X : Cx} : OpR X (binaryOp .Pow) (rI CPw fun i j => .int (i ^ j.toNat)) :=
  opI fun i j _ _ _ _ _ hc q => by
    obtain ⟨h0, m, hm, hj⟩ := hc
    refine pow_int h0 ?_ q
    have b : Builtin.Int.intBits i ≤ m := PyProof.Rows.intBits_le hm
    have c : (Builtin.Int.intBits i : Int) * j ≤ (m : Int) * j :=
      Int.mul_le_mul_of_nonneg_right (by omega) h0
    exact Int.le_trans c hj

/-! ### defs that are called while no display is under way -/
structure FnG (P : Program) (w : World) (K : PySem.W.Frag) (mg : Str → Option Value)
    (base : Heap) (CX : CXT) (k : Nat) (f : Addr) (fd : FuncData) (ps : List Str) (sp : Sp) : Prop where
  len : ∀ vs H Q E, sp vs H Q E → vs.length = ps.length
  go : ∀ (A : Around) (outer : List Env) (s : Shared) (H : Hp) (args : Args) (us : List Value)
    (vs : List V) (Q : VK) (E : XK), A.guards = some [] → Room k A →
    Env0 P w K mg base A outer s H → BindsTo s fd args (ps.zip us) → Vals vs us → sp vs H Q E →
    codeAny (model P w) A (.call (.ref f) args) (CR CX outer P w H s Q E) s
section
variable {P : Program} {w : World} {K : PySem.W.Frag} {mg : Str → Option Value}
  {base : Heap} {CX : CXT} {k : Nat} {f : Addr} {fd : FuncData} {ps : List Str} {sp : Sp}
theorem FnG.of (F : FnOk P w K mg base CX k f fd ps sp) : FnG P w K mg base CX k f fd ps sp :=
  ⟨F.len, fun A o s H a us vs Q E _ => F.run A o s H a us vs Q E⟩
theorem FnG.mono {j : Nat} (F : FnG P w K mg base CX j f fd ps sp) (h : j ≤ k) :
    FnG P w K mg base CX k f fd ps sp :=
  ⟨F.len, fun A o s H a us vs Q E hg hr => F.go A o s H a us vs Q E hg (hr.mono h)⟩

/-- the rule for a def by its body, as fn_of, with the guards known -/
theorem fng_of {name qual : Str} {params : Arguments} {body : List Stmt} {scope : Scope}
    {dV kV doc pm cdv ct oc : Value} {an od : Option Addr} {osl : Array (Option Value)} {N : List Str}
    (lk : K.lookup f = some ⟨oc, od,
      .func (PySem.W.fnOf name qual params body scope dV kV doc pm an cdv ct), osl⟩)
    (hcd : PySem.W.codeIn K cdv qual = true) (S : FnScope N ps scope)
    (len : ∀ vs H Q E, sp vs H Q E → vs.length = ps.length)
    (hbody : ∀ (A : Around) (outer : List Env) (s : Shared) (H : Hp) (vs : List V) (Q : VK) (E : XK),
      A.guards = some [] → Room k (A.deeper (envOfC qual scope s.heap.objs.size f cdv)) → sp vs H Q E →
      ∃ t, PSs (cxOf CX P w K mg base N qual scope f cdv A outer s H E) body t ∧
        t { nx := fun _ H' => Q .non H', rt := Q } (start N vs) H) :
    FnG P w K mg base CX (k + 1) f
      (PySem.W.fnOf name qual params body scope dV kV doc pm an cdv ct) ps sp := by
  refine ⟨len, ?_⟩
  intro A outer s H args us vs Q E hgd hr e0 hb rv hsp
  have hlen := len _ _ _ _ hsp
  have inB : ∀ b o, base.get? b = some o → s.heap.get? b = some o := fun b o e => (e0.bs b o e).1
  have KX : K.In s.heap := e0.mod.kin.keeps inB
  have kinds : ∀ y ∈ ps.zip us, scope.names.lookup y.1 = some .local ∨
      (scope.names.lookup y.1 = some .cell ∧
        ((cellsFrom (s.heap.objs.size + 1) scope.names []).lookup y.1).isSome = true) := by
    rintro ⟨n, v⟩ hy
    cases S.par n (List.of_mem_zip hy).1 with
    | inl q => exact .inl q
    | inr q => exact .inr ⟨q, PySem.W.cellsFrom_some _ _ _ (.inl q)⟩
  refine codeAny_call_function hr.depth (KX _ _ lk) rfl S.co S.gen rfl
    (PySem.W.codeRec_of KX hcd) (hb _ _ _ _ ?_)
  refine wpAny_newFunctionEnv_cells S.kind kinds ?_
  intro env he s1 x
  subst he
  refine ⟨(e0.mod.nolimit.keeps inB).keeps x.toInCall.keep, codeAny_func ?_⟩
  obtain ⟨t, ht, hq⟩ := hbody A outer s H vs Q E hgd (hr.deeper _) hsp
  have I := inv_start (CX := CX) (E := E) S hr.hd e0 hlen rv x
  refine wpAny_mono (ht.run [] s1 (start N vs) H _ I hq) ?_ (fun _ _ z => z)
  intro fl s' hs
  cases fl with
  | ret u =>
    obtain ⟨v, σ', H', J, r', q⟩ := hs
    exact ⟨v, H', J.os, J.bare, J.base, J.hok, r', q⟩
  | next =>
    obtain ⟨σ', H', J, q⟩ := hs
    exact ⟨.non, H', J.os, J.bare, J.base, J.hok, rfl, q⟩
  | brk => exact hs.elim fun _ z => z.elim fun _ z => z.2.elim
  | cont => exact hs.elim fun _ z => z.elim fun _ z => z.2.elim

/-- as Fun.ok -/
theorem okG {x qual : Str} {st : Stmt} {N : List Str} (F : Fun K x qual st f fd)
    (S : FnScope N ps (defScope st)) (len : ∀ vs H Q E, sp vs H Q E → vs.length = ps.length)
    (hbody : ∀ (cdv : Value) (A : Around) (outer : List Env) (s : Shared) (H : Hp) (vs : List V)
      (Q : VK) (E : XK), A.guards = some [] →
      Room k (A.deeper (envOfC qual (defScope st) s.heap.objs.size f cdv)) → sp vs H Q E →
      ∃ t, PSs (cxOf CX0 P w K mg base N qual (defScope st) f cdv A outer s H E).nox (defBody st) t ∧
        t { nx := fun _ H' => Q .non H', rt := Q } (start N vs) H) :
    FnG P w K mg base CX0 (k + 1) f fd ps sp := by
  obtain ⟨oc, od, kV, doc, pm, an, cdv, ct, osl, rfl, lk, hcd⟩ := F.ex
  refine fng_of lk hcd S len ?_
  intro A outer s H vs Q E hgd hr hsp
  obtain ⟨t, h, q⟩ := hbody cdv A outer s H vs Q E hgd hr hsp
  exact ⟨t, h.nox, q⟩
end

section
variable {X : Cx} {CX : CXT} {k : Nat} {f : Addr} {fd : FuncData} {ps : List Str} {sp : Sp}
  {dvs : List V} {ds : List Value} {E : XK} {x : Str} {p pos : Pos} {e : Expr} {es : List Expr} {t : TA}
theorem run_g {pins : List (Addr × Obj)} {σ : L2.St} {H : Hp} {s : Shared} {Q : VK} {us : List Value}
    {vs : List V} (F : FnG X.prog X.w X.K X.mg X.base CX k f fd ps sp) (hgd : X.A.guards = some [])
    (hr : Room k X.A) (hb : Binds X.K fd ps ds) (hd : Vals dvs ds) (hx : Passes CX X E)
    (I : Inv X pins σ H s) (r : Vals vs us) (h : sp (vs ++ dvs) H Q E) :
    wpAny (model X.prog X.w) X.A (call (.ref f) us) (EP X pins σ Q) X.xe s := by
  have r2 := r.append hd
  have hl : (us ++ ds).length = ps.length := r2.length.symm.trans (F.len _ _ _ _ h)
  have c := F.go X.A X.stack s H ⟨us, []⟩ (us ++ ds) (vs ++ dvs) Q E hgd hr I.env0 (hb s us I.kIn hl) r2 h
  refine wpAny_call (codeAny_mono c ?_)
  intro r s' hq
  match r, hq with
  | .error er, hq => exact hx pins σ H s er s' I hq
  | .ok (.ret u), hq => exact I.after hq
/-- f(e, ..) -/
theorem pe_callG (F : FnG X.prog X.w X.K X.mg X.base CX k f fd ps sp) (hgd : X.A.guards = some [])
    (hr : Room k X.A) (hg : Gl X x) (hm : X.mg x = some (.ref f))
    (hk : PySem.W.keepIn X.K (.ref f) = true) (hb : Binds X.K fd ps ds) (hd : Vals dvs ds)
    (hx : Passes CX X E) (ha : PA X (e :: es) t) (hdb : (x == ("__debug__" : Str)) = false := by decide)
    (he : starEach (e :: es) X.env = (false, eval e X.env) :: starEach es X.env := by rfl)
    (hpl : (backTo pos (starEach es X.env)).any (·.1) = false := by rfl) :
    PE X (.Call (.Name x p) (e :: es) [] pos) (tCall sp dvs E t) := by
  constructor
  intro pins s σ H Q I h
  refine wpAny_Call_Name_kw (ld_glob I hg hm ?_ hdb)
  refine PySem.W.callWith_K (h₀ := X.base) I.ok.mod.kin hk ?_ he hpl
  refine thn (ha.run pos pins s σ H _ I h) ?_
  rintro us s1 ⟨vs, H1, I1, r, q⟩
  exact ⟨I1.kIn, run_g F hgd hr hb hd hx I1 r q⟩
end
end Q
set_option Elab.async false
set_option linter.all false
set_option maxRecDepth 100000
set_option maxHeartbeats 4000000
namespace Q
open PySem PySem.Spec PyProof.Rows L2

/-! ### the law's call, its promise under known guards -/
section
variable {P : Program} {w : World} {K : PySem.W.Frag} {mg mb : Str → Option Value} {k : Nat}
  {fa a : Addr} {fd : FuncData} {x : Str} {sp : Sp} {s₁ : Shared} {vs : List Value} {ns : List Int}
abbrev LawEnd (s₁ : Shared) : Result → Shared → Prop := fun r s' =>
  r = .ok (.ret (.bool true)) ∧ OldK s₁.heap s'.heap ∧ s'.os = s₁.os ∧ AllBare s'.gens
theorem law_core (KX : K.In s₁.heap) (hns : s₁.heap.Ns mainGlobals mg) (hb : s₁.heap.Ns builtinsNs mb)
    (hbb : ∀ x : Str, x ≠ "__name__" → mb x = bootBuiltins x) (hlim : s₁.heap.NoLimit)
    (hg : s₁.gens = #[])
    (ha : s₁.heap.get? a = some { cls := .type "list", data := .seq vs.toArray }) (hr : Room k callerA)
    (F : ∀ base : Heap, K.In base → base.Ns mainGlobals mg → FnG P w K mg base CX0 k fa fd [x] sp)
    (hbind : ∀ (s : Shared) (u : Value), BindsTo s fd ⟨[u], []⟩ [(x, u)])
    (H : Hp) (hO : Only H) (hS : sp [.ref a] H (fun v _ => v = .bl true) fun _ _ _ => False)
    (hok : HOk P w H s₁.heap) (hA : ∀ b, H b ≠ none → b = a) (hK : H a ≠ none → K.lookup a = none) :
    codeAny (model P w) callerA (.call (.ref fa) ⟨[.ref a], []⟩) (LawEnd s₁) s₁ := by
  have only_a : ∀ {b : Addr}, b ≠ a → H b = none := fun {b} ne => by
    cases q : H b with
    | none => rfl
    | some u => exact absurd (hA b (by rw [q]; exact nofun)) ne
  have dict_free : ∀ {b o es ep}, s₁.heap.get? b = some o → o.data = Data.dict es ep → H b = none := by
    intro b o es ep e d
    refine only_a ?_
    rintro rfl
    rw [ha] at e
    cases e
    cases d
  have ns_free : ∀ {b m}, s₁.heap.Ns b m → (hidT s₁.heap H).Ns b m := by
    rintro b m ⟨o, es, ep, e, d, r⟩
    exact ⟨o, es, ep, hidT_get e (dict_free e d), d, r⟩
  have k_free : ∀ {b o}, K.lookup b = some o → H b = none := by
    intro b o e
    cases q : H b with
    | none => rfl
    | some u =>
      have nn : H b ≠ none := by rw [q]; exact nofun
      cases hA b nn
      rw [hK nn] at e
      cases e
  have kin : K.In (hidT s₁.heap H) := fun b o e => hidT_get (KX b o e) (k_free e)
  obtain ⟨mc, l1, l2⟩ := hlim
  have md : Mod K mg (hidT s₁.heap H) :=
    { kin := kin, glob := ns_free hns, blt := ⟨mb, ns_free hb, hbb⟩, nolimit := ⟨mc, ns_free l1, l2⟩ }
  have e0 : Env0 P w K mg (hidT s₁.heap H) callerA [] s₁ H :=
    ⟨rfl, md, fun b o e => of_hidT e, Nat.le_of_eq (hidT_size _ _), trivial,
      fun b z => absurd (show b ∈ ([] : List Addr) from z) List.not_mem_nil, hok, .of_eq hg⟩
  have run := (F _ kin (ns_free hns)).go callerA [] s₁ H ⟨[.ref a], []⟩ [.ref a] [.ref a] _ _ rfl hr e0
    (hbind s₁ (.ref a)) (.cons rfl .nil) hS
  refine codeAny_mono run ?_
  intro r s' h
  match r, h with
  | .error e, h => exact False.elim h
  | .ok (.ret u), ⟨v, H', os, bare, un, hok', r', q⟩ =>
    subst q
    obtain rfl : u = Value.bool true := r'
    refine ⟨rfl, OldK.of_keep ?_, os, bare⟩
    intro b o e
    cases q : H b with
    | none =>
      refine un.keep b o e q (fun z => ?_) List.not_mem_nil
      exact absurd (show b ∈ ([] : List Addr) from z) List.not_mem_nil
    | some u =>
      cases hO b with
      | inl z => rw [q] at z; cases z
      | inr z =>
        obtain ⟨ob, xs, z⟩ := z
        have e2 := (hok' b _ (un.frzs b ob _ z)).1
        have e1 := (hok b _ z).1
        rw [e] at e1
        cases e1
        exact e2

theorem law_callG (KX : K.In s₁.heap) (hns : s₁.heap.Ns mainGlobals mg) (hb : s₁.heap.Ns builtinsNs mb)
    (hbb : ∀ x : Str, x ≠ "__name__" → mb x = bootBuiltins x) (hlim : s₁.heap.NoLimit)
    (hg : s₁.gens = #[])
    (ha : s₁.heap.get? a = some { cls := .type "list", data := .seq vs.toArray }) (hi : IntsAre vs ns)
    (hl : ns.length ≤ sizeLine) (hr : Room k callerA)
    (F : ∀ base : Heap, K.In base → base.Ns mainGlobals mg → FnG P w K mg base CX0 k fa fd [x] sp)
    (hbind : ∀ (s : Shared) (u : Value), BindsTo s fd ⟨[u], []⟩ [(x, u)])
    (hsp : ∀ H : Hp, Only H → SqL K H a (ns.map V.int) →
      sp [.ref a] H (fun v _ => v = .bl true) fun _ _ _ => False) :
    codeAny (model P w) callerA (.call (.ref fa) ⟨[.ref a], []⟩) (LawEnd s₁) s₁ := by
  have rv := vals_ints hi
  have lenV := hi.length
  cases hk : K.lookup a with
  | some o =>
    have e := KX a o hk
    rw [ha] at e
    cases e
    have hN : Only (fun _ => none) := fun _ => .inl rfl
    have hS : SqL K (fun _ => none) a (ns.map V.int) := by
      refine .inr ⟨_, vs.toArray, _, hk, rfl, rfl, rfl, ?_, by simpa using rv⟩
      rw [List.size_toArray, lenV]
      exact hl
    exact law_core KX hns hb hbb hlim hg ha hr F hbind _ hN (hsp _ hN hS) (fun _ _ z => nomatch z)
      (fun _ z => absurd rfl z) (fun z => absurd rfl z)
  | none =>
    let ob : Obj := { cls := .type "list", data := .seq vs.toArray }
    let H : Hp := fun b => if b = a then some (.frz ob (.lst (ns.map V.int))) else none
    have at_a : H a = some (.frz ob (.lst (ns.map V.int))) := if_pos rfl
    have off : ∀ b, b ≠ a → H b = none := fun b z => if_neg z
    have hN : Only H := fun b => by
      by_cases z : b = a
      · rw [z]; exact .inr ⟨_, _, at_a⟩
      · exact .inl (off b z)
    have hok : HOk P w H s₁.heap := fun b u e => by
      by_cases z : b = a
      · rw [z, at_a] at e
        cases e
        rw [z]
        exact ⟨ha, by rw [List.length_map]; exact hl, vs, _, rv, ha⟩
      · rw [off b z] at e
        cases e
    refine law_core KX hns hb hbb hlim hg ha hr F hbind H hN (hsp H hN (.inl (.inr ⟨ob, at_a⟩))) hok ?_ ?_
    · intro b z
      by_cases q : b = a
      · exact q
      · exact absurd (off b q) z
    · exact fun _ => hk
end

/-- the goal that the head leaves, from the law's promise -/
theorem walkG {l : PySem.W.OpenLaw} {n k : Nat} {q : Program} {loose : List Str}
    {XP : (Str → Option Value) → Heap → Prop} {YP : World → Heap → Prop} {d : DefRec}
    {K : Params → PySem.W.Frag} {sp : PySem.W.Frag → Sp} {x : Str} (hn : l.most = some n)
    (hn2 : n ≤ sizeLine) (hdf : d.params.defaults = []) (hr : Room k callerA)
    (hY : ∀ (w : World) (h : Heap), YP w h → (K w.params).In h)
    (F : ∀ (w : World) (mg : Str → Option Value) (fa : Addr) (h : Heap), (K w.params).In h →
      h.Ns mainGlobals mg → mg d.name = some (.ref fa) →
      ∃ fd : FuncData, (∀ (s : Shared) (u : Value), BindsTo s fd ⟨[u], []⟩ [(x, u)]) ∧
        ∀ base : Heap, (K w.params).In base → base.Ns mainGlobals mg →
          FnG l.prog w (K w.params) mg base CX0 k fa fd [x] (sp (K w.params)))
    (hsp : ∀ (K : PySem.W.Frag) (H : Hp) (a : Addr) (ns : List Int), ns.length ≤ n → Only H →
      SqL K H a (ns.map V.int) → sp K [.ref a] H (fun v _ => v = .bl true) fun _ _ _ => False) :
    PySem.W.WalkO q loose XP YP l.row.toRowW d [] (fun f vs => PySem.call f vs) := by
  refine Att.attach_call hn hdf ?_
  intro w s₀ s₁ mg mb fa o pm cd doc a vs ns G Y ho hd hcd hmg hobj hints hlen hg
  have KX := hY w _ Y
  obtain ⟨fd, hb, hF⟩ := F w mg fa _ KX G.T.g hmg
  exact law_callG KX G.T.g G.T.b G.T.builtins G.T.nolimit hg hobj hints (Nat.le_trans hlen hn2) hr hF hb
    (fun H hO hS => hsp _ H a ns hlen hO hS)
end Q
set_option Elab.async false
set_option linter.all false
set_option maxRecDepth 100000
set_option maxHeartbeats 4000000
namespace Q
open PySem PySem.Spec PyProof.Rows L2

/-! ### exceptions as values -/
/-- an exception of the class C at a, its own dict at d; raised or not -/
def exv (a C : Addr) (d : Option Addr) : HO :=
  .ext fun h => ∃ oe : Obj, h.get? a = some oe ∧ Zc (.ref C) d oe ∧ ∃ vs, oe.data = .fields vs
theorem exv_ok {P : Program} {w : World} {H : Hp} {h : Heap} {a C : Addr} {d : Option Addr} {oe : Obj}
    (e : h.get? a = some oe) (z : Zc (.ref C) d oe) (f : ∃ vs, oe.data = .fields vs) :
    ObjOk P w H h a (exv a C d) :=
  ⟨⟨oe, e, z, f⟩, ⟨oe, e⟩, fun _ _ ⟨o, q, r⟩ k => ⟨o, k o q, r⟩⟩
/-- the object -/
def ErrO (H : Hp) (a C : Addr) (d : Option Addr) : Prop := H a = some (exo a C d) ∨ H a = some (exv a C d)
/-- its dict -/
def ErrD (H : Hp) (d : Addr) (fs : List (Str × V)) : Prop := H d = some (exd d fs) ∨ H d = some (.xd fs)
/-- an exception of C with these attributes -/
def ErrAt (H : Hp) (a C : Addr) (fs : List (Str × V)) : Prop := ∃ d, ErrO H a C (some d) ∧ ErrD H d fs

section
variable {X : Cx} {pins : List (Addr × Obj)} {σ : L2.St} {H : Hp} {s : Shared} {a C d : Addr}
theorem ErrO.get {d : Option Addr} (I : Inv X pins σ H s) (e : ErrO H a C d) :
    ∃ oe : Obj, s.heap.get? a = some oe ∧ Zc (.ref C) d oe ∧ ∃ vs, oe.data = .fields vs := by
  rcases e with e | e
  · obtain ⟨t1, q⟩ := exo_at I.hok e
    exact ⟨_, q, ⟨rfl, rfl⟩, _, rfl⟩
  · exact (I.hok a _ e).1
theorem ErrD.get {fs : List (Str × V)} (I : Inv X pins σ H s) (e : ErrD H d fs) :
    ∃ mA, s.heap.Ns1 d mA ∧ ∀ f, RelO (fs.lookup f) (mA f) := by
  rcases e with e | e
  · exact exd_at I.hok e
  · exact I.hok d _ e
end

/-- isinstance asks an exception's class rightly, whatever its own dict -/
theorem kitx_err {K : PySem.W.Frag} {x D : Addr} {ox : Obj} {od : Option Obj} (c : ExcC K D) :
    PySem.W.KitX K (.ref x) (.ref D) (fun h => PySem.W.InstAt h x ox D od) := by
  have c1 := PySem.W.handS_kitx_exc (x := x) (ox := ox) c.hg c.hk c.hs c.hd c.ha c.hn c.ht c.hm
  refine ⟨fun _ _ _ I => I.type, ?_, ?_, ?_⟩
  · intro M h KX _
    obtain ⟨cdD, hcD, _⟩ := PySem.W.any_some c.hd
    unfold PySem.W.clsIn at hcD
    split at hcD
    · rename_i ho
      intro A' Q' E' s' k q
      unfold isType loadHead
      exact wpAny_bind (wpAny_loadPart (k _ _ (KX _ _ ho)) (wpAny_pure q))
    · cases hcD
  · intro h tp dd its n sl KX htp
    refine beq_eq_false_iff_ne.mpr fun q => ?_
    cases q
    obtain ⟨cdD, hcD, _⟩ := PySem.W.any_some c.hd
    unfold PySem.W.clsIn at hcD
    split at hcD
    · rename_i ho
      cases (KX _ _ ho).symm.trans htp
    · cases hcD
  · intro prog w A E Q s KX I h
    have isC : (PySem.W.clsIn K D).isSome = true := by
      obtain ⟨cd, hc, _⟩ := PySem.W.any_some c.hd
      rw [hc]
      rfl
    have hf : PySem.W.findObj K D od "__class__" =
        some (.bind (.builtin "getset_descriptor.__get__") (.builtin "object.__class__")) := by
      cases od with
      | none => exact PySem.W.findObj_dataN isC c.ha c.hn c.ht
      | some od => exact PySem.W.findObj_data isC c.ha c.hn c.ht
    obtain ⟨hp, g, d, t, os⟩ := s
    have L0 := I.type (M := model prog w)
    have LA := PySem.W.looks_findIn (M := model prog w) KX c.hg
    have LB := PySem.W.looks_findIn (M := model prog w) KX c.hk
    have LC := PySem.W.looks_find (M := model prog w) KX I hf
    have sub : PySem.W.Looks (model prog w) hp (isInstance (.ref x) (.type "BaseException")) true :=
      L0.andThen (PySem.W.looks_subIn KX c.hs)
    have hx0 : (false && onTheHeap (Value.builtin "BaseException.__getattribute__")) = false := rfl
    have hx2 : (Value.builtin "BaseException.__getattribute__" ==
        Value.builtin "object.__getattribute__") = false := by decide +kernel
    unfold getAttr? getAttrBy? getAttrBy
    refine wpAny_bind (wpAny_mkText (wpAny_bind (wpAny_attempt (wpAny_holding (wpAny_bind
      (L0.at (wpAny_bind (LA.at ?_))))))))
    refine PySem.W.KFB.if_not (by rw [hx2]; exact Bool.and_false _) ?_
    unfold getAttrByItsOwn hookBefore
    refine wpAny_bind ?_
    rw [if_pos (show onTheHeap (Value.ref D) = true from rfl)]
    refine LB.at (wpAny_bind (wpAny_attempt (wpAny_holding ?_)))
    unfold callGetattribute
    rw [hx0, if_neg Bool.false_ne_true]
    unfold boundAndCalled
    rw [PySem.F.excAttr_ValueError.ga.bind (.ref x)]
    refine wpAny_bind (wpAny_pure (wpAny_call (codeAny_call_builtin PySem.F.excAttr_ValueError.ga.plain
      PySem.F.entry_bexc_ga ?_)))
    refine @PySem.W.check_slot (model prog w) _ _ ⟨hp, g, d, t + 1, os⟩
      "BaseException.__getattribute__" "BaseException" "__getattribute__" (.ref x)
      [.str "__class__" t] [] _ (by decide +kernel) (by decide +kernel) sub
      (PySem.F.args_bexc_ga (.ref x) (.str "__class__" t)) ?_
    unfold Builtin.«object.__getattribute__»
    refine wpAny_bind (wpAny_of_eq (a := ((Value.ref x : Value), [Value.str "__class__" t]))
      (by first | rfl | (simp only [slotArgs]; rfl)) ?_)
    refine wpAny_bind (wpAny_pure (wpAny_bind (L0.at (wpAny_bind (LC.at (wpAny_bind (wpAny_holding
      (wpAny_call (PySem.W.class_get (s := ⟨hp, g, d, t + 1, os⟩) (ox := ox) (od := od) KX I c.hm ?_)))))))))
    refine wpAny_pure ?_
    show wpAny _ _ (handedOut (.ref D)) _ _ _
    rw [PySem.W.handedOut_of (v := .ref D) rfl]
    first
      | exact wpAny_pure (wpAny_pure h)
      | exact wpAny_pure h
      | exact wpAny_pure (wpAny_bind (wpAny_pure (wpAny_pure h)))
end Q
set_option Elab.async false
set_option linter.all false
set_option maxRecDepth 100000
set_option maxHeartbeats 4000000
namespace Q
open PySem PySem.Spec PyProof.Rows L2

/-- an exception of C, with a dict of its own or none -/
def ErrI (H : Hp) (a C : Addr) : Prop := ErrO H a C none ∨ ∃ fs, ErrAt H a C fs
theorem ErrAt.i {H : Hp} {a C : Addr} {fs : List (Str × V)} (e : ErrAt H a C fs) : ErrI H a C := .inr ⟨_, e⟩
theorem ErrO.mono {H H' : Hp} {a C : Addr} {d : Option Addr} (s : Same H H') (e : ErrO H a C d) : ErrO H' a C d :=
  e.imp (s _ _) (s _ _)
theorem ErrD.mono {H H' : Hp} {d : Addr} {fs : List (Str × V)} (s : Same H H') (e : ErrD H d fs) : ErrD H' d fs :=
  e.imp (s _ _) (s _ _)
theorem ErrAt.mono {H H' : Hp} {a C : Addr} {fs : List (Str × V)} (s : Same H H') (e : ErrAt H a C fs) :
    ErrAt H' a C fs := let ⟨d, o, q⟩ := e; ⟨d, o.mono s, q.mono s⟩
theorem ErrI.mono {H H' : Hp} {a C : Addr} (s : Same H H') (e : ErrI H a C) : ErrI H' a C :=
  e.imp (fun z => z.mono s) fun ⟨fs, z⟩ => ⟨fs, z.mono s⟩

section
variable {X : Cx} {pins : List (Addr × Obj)} {σ : L2.St} {H : Hp} {s : Shared} {a C : Addr}
theorem ErrI.inst (I : Inv X pins σ H s) (e : ErrI H a C) : ∃ oe od, PySem.W.InstAt s.heap a oe C od := by
  have nc : ∀ oe : Obj, (∃ vs, oe.data = .fields vs) → PySem.W.notCls oe = true := fun oe ⟨vs, hv⟩ => by
    unfold PySem.W.notCls
    rw [hv]
  rcases e with e | ⟨fs, d, e, ed⟩
  · obtain ⟨oe, ho, hz, hv⟩ := e.get I
    exact ⟨oe, none, ho, hz.1, nc oe hv, by rw [hz.2]; trivial⟩
  · obtain ⟨oe, ho, hz, hv⟩ := e.get I
    obtain ⟨mA, hn, _⟩ := ed.get I
    obtain ⟨od, hd, _⟩ := lookIn_ns hn
    exact ⟨oe, some od, ho, hz.1, nc oe hv, by rw [hz.2]; exact hd⟩
end

section
variable {X : Cx}
/-- isinstance of an exception -/
def rIsE (K : PySem.W.Frag) : List V → Hp → VK → Prop := fun xs H Q =>
  ∃ (a C : Addr) (c : V) (u : Value) (b : Bool), xs = [.ref a, c] ∧ ClsV c u ∧
    ErrI H a C ∧ ExcC K C ∧ PySem.W.kitOne K (.ref C) u = some b ∧ Q (.bl b) H
theorem call_isE : CallR X (.builtin "isinstance") (rIsE X.K) := by
  intro pins s σ H xs us Q I r h
  obtain ⟨a, C, c, u, b, rfl, k, eo, ec, e, q⟩ := h
  obtain ⟨u1, u2, rfl, r1, r2⟩ := vals2 r
  cases k.eq r2
  obtain rfl : u1 = Value.ref a := r1
  obtain ⟨oe, od, J⟩ := eo.inst I
  exact PySem.W.kia_one (kitx_err (ox := oe) (od := od) ec) I.kIn J e (fun z => nomatch z)
    (fun tk => ⟨.bl b, H, I.tok tk, rfl, q⟩)
/-- of any value -/
def rIsA (K : PySem.W.Frag) : List V → Hp → VK → Prop := fun xs H Q => rIsi K xs H Q ∨ rIsE K xs H Q
theorem call_isA : CallR X (.builtin "isinstance") (rIsA X.K) := by
  intro pins s σ H xs us Q I r h
  cases h with
  | inl h => exact call_isi pins s σ H xs us Q I r h
  | inr h => exact call_isE pins s σ H xs us Q I r h

/-- e.f of an exception -/
def tErrF (K : PySem.W.Frag) (f : Str) (te : TE) : TE := fun σ H Q => te σ H fun x H1 =>
  ∃ (a C : Addr) (fs : List (Str × V)) (v : V), x = .ref a ∧ ErrAt H1 a C fs ∧ ExcC K C ∧
    PySem.W.findIn K (.ref C) f = some none ∧ fs.lookup f = some v ∧ Q v H1
theorem pe_errf {e : Expr} {te : TE} {f : Str} {pos : Pos} (he : PE X e te)
    (hb : attributeBase e f X.env (eval e X.env) = eval e X.env := by rfl) :
    PE X (.Attribute e f pos) (tErrF X.K f te) := by
  constructor
  intro pins s σ H Q I h
  refine attr_of hb (thn (he.run pins s σ H _ I h) ?_)
  rintro u s1 ⟨x, H1, I1, rx, a, C, fs, v, rfl, ⟨d, eo, ed⟩, ec, hno, l, q⟩
  obtain rfl : u = Value.ref a := rx
  obtain ⟨oe, ho, hz, vs, hv⟩ := eo.get I1
  obtain ⟨mA, hns, hr⟩ := ed.get I1
  obtain ⟨od, hod, hl⟩ := lookIn_ns hns
  have hrf := hr f
  rw [l] at hrf
  obtain ⟨u, hu, ru⟩ := RelO.some_of hrf
  have J : PySem.W.InstAt s1.heap a oe C (some od) :=
    ⟨ho, hz.1, by unfold PySem.W.notCls; rw [hv], by rw [hz.2]; exact hod⟩
  have hf : PySem.W.findObj X.K C (some od) f = some (.value u) :=
    PySem.W.findObj_own ec.hd hno rfl (by rw [hl, hu])
  exact HandSPX.exc_get I1.kIn J ec.hg ec.hk ec.hs hf (handed_of ru) ⟨v, H1, I1.tok _, ru, q⟩

/-- C(e, ..), an own exception class with its own __init__, as a value -/
def tMkV (C : Addr) (sp : Sp) (dvs : List V) (ta : TA) : TE := fun σ H Q => ta σ H fun vs H1 =>
  vs.length ≤ 1000 ∧ ∀ a, H1 a = none → sp (.ref a :: (vs ++ dvs)) (upd H1 a (exo a C none))
    (fun v H2 => v = .non ∧ Q (.ref a) H2) (fun _ _ _ => False)
theorem pe_mkv {CX : CXT} {x : Str} {C fI : Addr} {k : Nat} {fd : FuncData} {ps : List Str} {sp : Sp}
    {ds : List Value} {dvs : List V} {e : Expr} {es : List Expr} {ta : TA} {p pos : Pos}
    (T : OexC X.K C) (iC : PySem.W.findIn X.K (.ref C) "__init__" = some (some (.ref fI)))
    (tI : PySem.W.typeIn X.K (.ref fI) = some (.type "function"))
    (F : FnOk X.prog X.w X.K X.mg X.base CX k fI fd ps sp) (hr : Room (k + 1) X.A)
    (hb : Binds X.K fd ps ds) (hd : Vals dvs ds) (hx : Passes CX X (fun _ _ _ => False))
    (hg : Gl X x) (hm : X.mg x = some (.ref C)) (ha : PA X (e :: es) ta)
    (hdb : (x == ("__debug__" : Str)) = false := by decide)
    (he : starEach (e :: es) X.env = (false, eval e X.env) :: starEach es X.env := by rfl)
    (hpl : (backTo pos (starEach es X.env)).any (·.1) = false := by rfl) :
    PE X (.Call (.Name x p) (e :: es) [] pos) (tMkV C sp dvs ta) := by
  constructor
  intro pins s σ H Q I h
  obtain ⟨nm, q, N, bs, bm, sn, sub, ab, col, dd, k0, k1, k2, k3, k5, hC, hbm⟩ := T.cls
  refine wpAny_Call_Name_kw (ld_glob I hg hm ?_ hdb)
  refine PySem.W.callWith_K (h₀ := X.base) I.ok.mod.kin T.kC ?_ he hpl
  refine thn (ha.run pos pins s σ H _ I h) ?_
  rintro us s1 ⟨vs, H1, I1, r1, hz, q1⟩
  refine ⟨I1.kIn, ?_⟩
  show wpAny _ _ (call (.ref C) us) _ _ _
  obtain ⟨hp, g, dr, tk, os⟩ := s1
  let a := hp.objs.size + 1
  let h2 : Heap := (hp.push (PySem.W.kdv_tup us)).push (PySem.HandSPX.excO C hp.objs.size)
  have hn : H1 a = none := I1.hok.fresh (Nat.le_succ _)
  have kk : ∀ b o, hp.get? b = some o → h2.get? b = some o := fun b o e =>
    Heap.get?_push_of_some _ (Heap.get?_push_of_some _ e)
  have hget : h2.get? a = some (PySem.HandSPX.excO C hp.objs.size) := by
    show ((hp.push _).push _).get? (hp.objs.size + 1) = _
    heap_get
  have I2 : Inv X pins σ (upd H1 a (exo a C none)) ⟨h2, g, dr, tk, os⟩ :=
    I1.laid (t' := tk) (a := a) (o := exo a C none) (h' := h2) kk (Nat.le_succ _) (exo_ok hget)
  have r2 : Vals (V.ref a :: (vs ++ dvs)) (Value.ref a :: (us ++ ds)) := .cons rfl (r1.append hd)
  have hq := q1 a hn
  have hl : (Value.ref a :: us ++ ds).length = ps.length := r2.length.symm.trans (F.len _ _ _ _ hq)
  have hus : us.length ≤ sizeLine := by
    rw [← Paired.length r1, sizeLine_eq]
    omega
  have run := F.run _ X.stack _ _ ⟨Value.ref a :: us, []⟩ (Value.ref a :: (us ++ ds)) _ _
    (fun _ _ _ => False) (hr.make C us []) (I2.env0.make C us [])
    (hb _ (Value.ref a :: us) I2.kIn hl) r2 hq
  refine wpAny_call (PySem.HandSPX.call_own PySem.F.excBase_ValueError
    (fun Y => PySem.HandSPX.refsVE_contains Y bm hbm) (I1.kIn _ _ hC)
    (PySem.W.looks_findIn I1.kIn iC) (fun self => PySem.W.bind_fn I1.kIn self tI) hus
    (codeAny_mono run ?_))
  intro r s' hq'
  match r, hq' with
  | .error er, hq' => exact hx pins σ _ _ er s' I2 hq'
  | .ok (.ret u), hq' =>
    obtain ⟨v, H2, J, rv, ev, q2⟩ := I2.after hq'
    subst ev
    exact ⟨rv, .ref a, H2, J, rfl, q2⟩
/-- C(), a class without its own __init__ -/
def tMk0 (C : Addr) : TE := fun _ H Q => ∀ a, H a = none → Q (.ref a) (upd H a (exv a C none))
theorem pe_mk0 {C : Addr} {bmB : List Value} {B newId initId : String} {x : Str} {p pos : Pos}
    (F : ExcBaseFacts B newId initId bmB) (q : PySem.W.excIn X.K C bmB newId = true)
    (gC : X.mg x = some (.ref C)) (kC : PySem.W.keepIn X.K (.ref C) = true) (hg : Gl X x)
    (hdb : (x == ("__debug__" : Str)) = false := by decide) :
    PE X (.Call (.Name x p) [] [] pos) (tMk0 C) := by
  constructor
  intro pins s σ H Q I h
  refine wpAny_Call_Name_kw (ld_glob I hg gC ?_ hdb)
  refine PySem.W.callWith_K0 I.kIn kC ?_
  show wpAny _ _ (call (.ref C) []) _ _ _
  obtain ⟨bm, N, nm, qn, bs, hdct, sn, sub, ab, col, dd, k0, k1, k2, k3, k5, mN, hC, hN, hni, T⟩ :=
    exc_obj I.kIn q
  refine wpAny_call_exc_subT F T hC hN hni ?_ (Nat.zero_le _)
  intro h' a hm
  have hn : H a = none := I.hok.gone hm.new
  obtain ⟨t, ht, _, _⟩ := hm.there
  exact ⟨.ref a, upd H a (exv a C none), I.laidN hm.keeps hm.new hn
    (exv_ok ht ⟨rfl, rfl⟩ ⟨_, rfl⟩), rfl, h a hn⟩
end
end Q
set_option Elab.async false
set_option linter.all false
set_option maxRecDepth 100000
set_option maxHeartbeats 4000000
namespace Q
open PySem PySem.Spec PyProof.Rows L2

/-! ### data in the heap, with dicts, and how repr writes it -/
mutual
inductive Rk (h : Heap) : Value → PyData → Prop
  | none : Rk h .none .none
  | bool (b : Bool) : Rk h (.bool b) (.bool b)
  | int (i : Int) (t : Tok) : Rk h (.int i t) (.int i)
  | str (x : Str) (t : Tok) : Rk h (.str x t) (.str x)
  | list {a : Addr} {o : Obj} {vs : Array Value} {n : Nat} {xs : List PyData} : h.get? a = some o →
      o.cls = .type "list" → o.data = .seq vs n → RkAll h vs.toList xs → Rk h (.ref a) (.list xs)
  | tuple {a : Addr} {o : Obj} {vs : Array Value} {n : Nat} {xs : List PyData} : h.get? a = some o →
      o.cls = .type "tuple" → o.data = .seq vs n → RkAll h vs.toList xs → Rk h (.ref a) (.tuple xs)
  | dict {a : Addr} {o : Obj} {es : Array DictEntry} {n : Nat} {kvs : List (PyData × PyData)} :
      h.get? a = some o → o.cls = .type "dict" → o.data = .dict es n → (a == sysModules) = false →
      RkAll h (es.toList.map (·.key)) (kvs.map (·.1)) → RkAll h (es.toList.map (·.val)) (kvs.map (·.2)) →
      Rk h (.ref a) (.dict kvs)
inductive RkAll (h : Heap) : List Value → List PyData → Prop
  | nil : RkAll h [] []
  | cons {v : Value} {vs : List Value} {d : PyData} {ds : List PyData} : Rk h v d → RkAll h vs ds →
      RkAll h (v :: vs) (d :: ds)
end
mutual
theorem Rk.reads {h : Heap} : ∀ {v : Value} {d : PyData}, Rk h v d → ∃ as, Reads h v d as
  | _, _, .none => ⟨_, .none⟩
  | _, _, .bool b => ⟨_, .bool b⟩
  | _, _, .int i t => ⟨_, .int i t⟩
  | _, _, .str x t => ⟨_, .str x t⟩
  | _, _, .list h1 h2 h3 h4 => let ⟨_, r⟩ := RkAll.reads h4; ⟨_, .list h1 h2 h3 r⟩
  | _, _, .tuple h1 h2 h3 h4 => let ⟨_, r⟩ := RkAll.reads h4; ⟨_, .tuple h1 h2 h3 r⟩
  | _, _, .dict h1 h2 h3 _ h4 h5 =>
    let ⟨_, r⟩ := RkAll.reads h4
    let ⟨_, q⟩ := RkAll.reads h5
    ⟨_, .dict h1 h2 h3 r q⟩
theorem RkAll.reads {h : Heap} : ∀ {v : List Value} {d : List PyData}, RkAll h v d → ∃ as, ReadsAll h v d as
  | _, _, .nil => ⟨_, .nil⟩
  | _, _, .cons a b =>
    let ⟨_, r⟩ := Rk.reads a
    let ⟨_, q⟩ := RkAll.reads b
    ⟨_, .cons r q⟩
end

section
variable {prog : Program} {w : World} {h₀ : Heap}
abbrev LenOk (x : Str) : Prop := x.length ≤ sizeLine
theorem lt_depth {n m : Nat} (e : m = n + 1) : n < m := by omega
mutual
theorem rk_shown : ∀ {v : Value} {d : PyData}, Rk h₀ v d → d.showable = true → LenOk d.shown →
    ∃ bs, ReadAtMost h₀ d.depth bs ∧ ReprK prog w bs h₀ d.depth v d.shown
  | _, _, .none, _, _ => ⟨[], nofun, by simp only [PyData.shown]; exact .of_is ReprIs.none _ _ _⟩
  | _, _, .bool b, _, _ => ⟨[], nofun, by simp only [PyData.shown]; exact .of_is (ReprIs.bool b) _ _ _⟩
  | _, _, .int i t, hs, _ => by
    have z : i.natAbs.log2 < 1920 := by simpa [PyData.showable] using hs
    exact ⟨[], nofun, by simp only [PyData.shown]; exact .of_is (ReprIs.int t z) _ _ _⟩
  | _, _, .str x t, _, hz => by
    simp only [PyData.shown] at hz ⊢
    exact ⟨[], nofun, .of_is (ReprIs.str x t hz) _ _ _⟩
  | _, _, .list (a := a) (vs := vs) (xs := xs) h1 h2 h3 h4, hs, hz => by
    have r : Rk h₀ (.ref a) (.list xs) := .list h1 h2 h3 h4
    obtain ⟨as, r⟩ := r.reads
    simp only [PyData.shown, PyData.showable] at hz hs
    obtain ⟨bs, hb, hk⟩ := rk_all h4 hs (fun t m => Nat.le_trans (listText_mem_le m) hz)
    have hna : a ∉ bs := not_mem_of_deeper r (lt_depth (by simp only [PyData.depth])) hb
    refine ⟨a :: bs, ReadAtMost.cons r (by simp only [PyData.depth]; omega) hb, ?_⟩
    simp only [PyData.depth, PyData.shown]
    obtain ⟨l⟩ := vs
    match l, h3, h4, hk with
    | [], h3, h4, _ =>
      cases (show RkAll h₀ [] xs from h4)
      simp only [PyData.shownAll, listText_nil]
      exact ReprK.listEmpty h1 h2 h3
    | x :: l, h3, h4, hk =>
      exact ReprK.list h1 h2 h3 hna (by simpa using hk.length_eq) (fun i y e => hk.item i y (by simpa using e))
  | _, _, .tuple (a := a) (xs := xs) h1 h2 h3 h4, hs, hz => by
    have r : Rk h₀ (.ref a) (.tuple xs) := .tuple h1 h2 h3 h4
    obtain ⟨as, r⟩ := r.reads
    simp only [PyData.shown, PyData.showable] at hz hs
    obtain ⟨bs, hb, hk⟩ := rk_all h4 hs (fun t m => Nat.le_trans (tupleText_mem_le m) hz)
    have hna : a ∉ bs := not_mem_of_deeper r (lt_depth (by simp only [PyData.depth])) hb
    refine ⟨a :: bs, ReadAtMost.cons r (by simp only [PyData.depth]; omega) hb, ?_⟩
    simp only [PyData.depth, PyData.shown]
    exact ReprK.tuple h1 h2 h3 hna hk
  | _, _, .dict (a := a) (es := es) (kvs := kvs) h1 h2 h3 hm h4 h5, hs, hz => by
    have r : Rk h₀ (.ref a) (.dict kvs) := .dict h1 h2 h3 hm h4 h5
    obtain ⟨as, r⟩ := r.reads
    simp only [PyData.shown, PyData.showable] at hz hs
    obtain ⟨s1, s2⟩ := PyData.showableKv_split kvs hs
    have le : ∀ p ∈ PyData.shownKv kvs, p.length ≤ sizeLine := fun p m => Nat.le_trans (dictText_mem_le m) hz
    obtain ⟨b1, hb1, k1⟩ := rk_all h4 s1 (fun t m =>
      let ⟨p, hp, hl⟩ := PyData.shownKv_key_le kvs t m; Nat.le_trans hl (le p hp))
    obtain ⟨b2, hb2, k2⟩ := rk_all h5 s2 (fun t m =>
      let ⟨p, hp, hl⟩ := PyData.shownKv_val_le kvs t m; Nat.le_trans hl (le p hp))
    have hb := (hb1.mono (PyData.depthAll_keys_le kvs)).append (hb2.mono (PyData.depthAll_vals_le kvs))
    have hna : a ∉ b1 ++ b2 := not_mem_of_deeper r (lt_depth (by simp only [PyData.depth])) hb
    refine ⟨a :: (b1 ++ b2), ReadAtMost.cons r (by simp only [PyData.depth]; omega) hb, ?_⟩
    simp only [PyData.depth, PyData.shown, PyData.shownKv_eq]
    have e1 := k1.more_le (fun b hb => List.mem_append_left b2 hb) (PyData.depthAll_keys_le kvs)
    have e2 := k2.more_le (fun b hb => List.mem_append_right b1 hb) (PyData.depthAll_vals_le kvs)
    exact ReprK.dict h1 h2 h3 hm hna (ReprEntriesK.of_two es.toList _ _ e1 e2)
theorem rk_all : ∀ {vs : List Value} {ds : List PyData}, RkAll h₀ vs ds → PyData.showableAll ds = true →
    (∀ t ∈ PyData.shownAll ds, LenOk t) → ∃ bs, ReadAtMost h₀ (PyData.depthAll ds) bs ∧
      ReprAllK prog w bs h₀ (PyData.depthAll ds) vs (PyData.shownAll ds)
  | _, _, .nil, _, _ => ⟨[], nofun, by simp only [PyData.shownAll]; exact .nil⟩
  | _, _, .cons (d := d) (ds := ds) r rs, hs, hz => by
    simp only [PyData.showableAll, Bool.and_eq_true] at hs
    simp only [PyData.shownAll] at hz ⊢
    obtain ⟨b1, hb1, k1⟩ := rk_shown r hs.1 (hz _ (List.mem_cons_self ..))
    obtain ⟨b2, hb2, k2⟩ := rk_all rs hs.2 (fun t m => hz t (List.mem_cons_of_mem _ m))
    simp only [PyData.depthAll]
    refine ⟨b1 ++ b2, (hb1.mono (Nat.le_max_left _ _)).append (hb2.mono (Nat.le_max_right _ _)), ?_⟩
    have e1 := (k1.more fun b hb => List.mem_append_left b2 hb).level_le (Nat.le_max_left d.depth (PyData.depthAll ds))
    exact .cons e1 (k2.more_le (fun b hb => List.mem_append_right b1 hb) (Nat.le_max_right _ _))
end

/-- repr(v) of data, no display under way -/
theorem repr_rk {A : Around} {E : Value → Shared → Prop} {s : Shared} {Q : Value → Shared → Prop} {v : Value}
    {d : PyData} (r : Rk s.heap v d) (hs : d.showable = true) (hz : LenOk d.shown) (hg : A.guards = some [])
    (hu : A.units + (d.depth + 1) < cLine)
    (hQ : ∀ h' u tk, (∀ b o, s.heap.get? b = some o → h'.get? b = some o) →
      Q (.str d.shown u) { s with heap := h', toks := tk }) :
    wpAny (model prog w) A (call (.builtin "repr") [v]) Q E s := by
  have same : ∀ u tk, Q (.str d.shown u) { s with toks := tk } := fun u tk => hQ s.heap u tk fun _ _ e => e
  have in1 : A.in1.guards = some [] := hg
  have un1 : ∀ n, A.units + (n + 1 + 1) < cLine → A.in1.units + (n + 1) < cLine := fun n z => by
    show A.units + 1 + (n + 1) < cLine
    omega
  cases r with
  | none =>
    simp only [PyData.shown] at same
    exact PySem.P.repr_of_none (same _ _)
  | bool b =>
    simp only [PyData.shown] at same
    exact PySem.P.repr_of_bool (same _ _)
  | int i t =>
    simp only [PyData.shown] at same
    exact PySem.P.repr_of_int (by simpa [PyData.showable] using hs) (same _ _)
  | str x t =>
    simp only [PyData.shown] at same hz
    exact PySem.P.repr_of_str (same _ _) hz
  | list h1 h2 h3 h4 =>
    rename_i a o vs n xs
    simp only [PyData.shown, PyData.showable, PyData.depth] at hz hs hu hQ same
    obtain ⟨as, rr⟩ := (Rk.list h1 h2 h3 h4).reads
    obtain ⟨bs, hb, hk⟩ := rk_all (prog := prog) (w := w) h4 hs (fun t m => Nat.le_trans (listText_mem_le m) hz)
    have hna : a ∉ bs := not_mem_of_deeper rr (lt_depth (by simp only [PyData.depth])) hb
    refine call_repr_slot (by omega) ⟨o, h1, h2⟩ PySem.F.slot_list_repr.toG ?_
    obtain ⟨l⟩ := vs
    match l, h3, h4, hk with
    | [], h3, h4, _ =>
      cases (show RkAll s.heap [] xs from h4)
      simp only [PyData.shownAll, listText_nil] at same
      exact call_list_repr_empty ⟨o, h1, h2⟩ h1 h3 ⟨_, _, rfl, same _ _⟩
    | x :: l, h3, h4, hk =>
      exact call_list_reprK h1 h2 h3 hna (by simpa using hk.length_eq)
        (fun i y e => hk.item i y (by simpa using e)) in1 (fun b _ => Clear.nil b) (un1 _ hu) (fun _ _ e => e)
        (fun h' u tk k => ⟨_, _, rfl, hQ h' u tk k⟩) hz
  | tuple h1 h2 h3 h4 =>
    rename_i a o vs n xs
    simp only [PyData.shown, PyData.showable, PyData.depth] at hz hs hu hQ same
    obtain ⟨as, rr⟩ := (Rk.tuple h1 h2 h3 h4).reads
    obtain ⟨bs, hb, hk⟩ := rk_all (prog := prog) (w := w) h4 hs (fun t m => Nat.le_trans (tupleText_mem_le m) hz)
    have hna : a ∉ bs := not_mem_of_deeper rr (lt_depth (by simp only [PyData.depth])) hb
    refine call_repr_slot (by omega) ⟨o, h1, h2⟩ PySem.F.slot_tuple_repr ?_
    exact call_tuple_reprK h1 h2 h3 hna hk in1 (fun b _ => Clear.nil b) (un1 _ hu) (fun _ _ e => e)
      (fun h' u tk k => ⟨_, _, rfl, hQ h' u tk k⟩) hz
  | dict h1 h2 h3 hm h4 h5 =>
    rename_i a o es n kvs
    simp only [PyData.shown, PyData.showable, PyData.depth] at hz hs hu hQ same
    obtain ⟨as, rr⟩ := (Rk.dict h1 h2 h3 hm h4 h5).reads
    obtain ⟨s1, s2⟩ := PyData.showableKv_split kvs hs
    have le : ∀ p ∈ PyData.shownKv kvs, p.length ≤ sizeLine := fun p m => Nat.le_trans (dictText_mem_le m) hz
    obtain ⟨b1, hb1, k1⟩ := rk_all (prog := prog) (w := w) h4 s1 (fun t m =>
      let ⟨p, hp, hl⟩ := PyData.shownKv_key_le kvs t m; Nat.le_trans hl (le p hp))
    obtain ⟨b2, hb2, k2⟩ := rk_all (prog := prog) (w := w) h5 s2 (fun t m =>
      let ⟨p, hp, hl⟩ := PyData.shownKv_val_le kvs t m; Nat.le_trans hl (le p hp))
    have hb := (hb1.mono (PyData.depthAll_keys_le kvs)).append (hb2.mono (PyData.depthAll_vals_le kvs))
    have hna : a ∉ b1 ++ b2 := not_mem_of_deeper rr (lt_depth (by simp only [PyData.depth])) hb
    have e1 := k1.more_le (fun b hb => List.mem_append_left b2 hb) (PyData.depthAll_keys_le kvs)
    have e2 := k2.more_le (fun b hb => List.mem_append_right b1 hb) (PyData.depthAll_vals_le kvs)
    refine call_repr_slot (by omega) ⟨o, h1, h2⟩ PySem.F.slot_dict_repr ?_
    rw [PyData.shownKv_eq] at hz
    simp only [PyData.shownKv_eq] at hQ
    exact call_dict_reprK h1 h2 h3 hm hna (ReprEntriesK.of_two es.toList _ _ e1 e2) in1
      (fun b _ => Clear.nil b) (un1 _ hu) (fun _ _ e => e) (fun h' u tk k => ⟨_, _, rfl, hQ h' u tk k⟩) hz
end

/-! ### the same over the abstract heap -/
def keyD : Key → PyData
  | .inl i => .int i
  | .inr x => .str x
mutual
inductive Dd (K : PySem.W.Frag) (H : Hp) : V → PyData → Prop
  | non : Dd K H .non .none
  | bl (b : Bool) : Dd K H (.bl b) (.bool b)
  | int (i : Int) : Dd K H (.int i) (.int i)
  | str (x : Str) : Dd K H (.str x) (.str x)
  | lst {a : Addr} {xs : List V} {ds : List PyData} : SqL K H a xs → DdAll K H xs ds → Dd K H (.ref a) (.list ds)
  | tup {a : Addr} {xs : List V} {ds : List PyData} : SqT K H a xs → DdAll K H xs ds → Dd K H (.ref a) (.tuple ds)
  | dic {a : Addr} {kvs : List (Key × V)} {ps : List (PyData × PyData)} : H a = some (.dK kvs) →
      ps.map (·.1) = kvs.map (fun p => keyD p.1) → DdAll K H (kvs.map (·.2)) (ps.map (·.2)) → Dd K H (.ref a) (.dict ps)
inductive DdAll (K : PySem.W.Frag) (H : Hp) : List V → List PyData → Prop
  | nil : DdAll K H [] []
  | cons {v : V} {vs : List V} {d : PyData} {ds : List PyData} : Dd K H v d → DdAll K H vs ds →
      DdAll K H (v :: vs) (d :: ds)
end
section
variable {X : Cx} {pins : List (Addr × Obj)} {σ : L2.St} {H : Hp} {s : Shared}
theorem keys_rk {h : Heap} : ∀ {kvs : List (Key × V)} {vs : List (Key × Value)} {es : List DictEntry},
    KV kvs vs → Pairs (mixKind X.prog X.w) es vs → RkAll h (es.map (·.key)) (kvs.map fun p => keyD p.1)
  | _, _, _, .nil, .nil => .nil
  | (k, _) :: _, (k', _) :: _, e :: _, .cons hk r, .cons he _ q => by
    obtain ⟨e1, _⟩ := hk
    dsimp only at e1
    subst e1
    refine .cons ?_ (keys_rk r q)
    rcases keyIs_shape he with ⟨i, t, rfl, e2⟩ | ⟨x, t, rfl, e2⟩
    · show Rk h e.key (.int i)
      rw [e2]; exact .int i t
    · show Rk h e.key (.str x)
      rw [e2]; exact .str x t
theorem vals_of {kvs : List (Key × V)} : ∀ {vs : List (Key × Value)} {es : List DictEntry},
    KV kvs vs → Pairs (mixKind X.prog X.w) es vs → Vals (kvs.map (·.2)) (es.map (·.val)) := by
  induction kvs with
  | nil =>
    intro vs es r q
    cases r
    cases q
    exact .nil
  | cons p kvs ih =>
    intro vs es r q
    cases r with
    | cons hk r =>
      cases q with
      | cons _ hv q => exact .cons (by dsimp only; rw [hv]; exact hk.2) (ih r q)
mutual
theorem Dd.rk (I : Inv X pins σ H s) : ∀ {d : PyData} {v : V} {u : Value}, Dd X.K H v d → RelV v u → Rk s.heap u d
  | .none, _, _, .non, r => by cases r; exact .none
  | .bool b, _, _, .bl _, r => by cases r; exact .bool b
  | .int i, _, _, .int _, r => by obtain ⟨t, rfl⟩ := r; exact .int i t
  | .str x, _, _, .str _, r => by obtain ⟨t, rfl⟩ := r; exact .str x t
  | .list ds, _, _, .lst hs ha, r => by
    cases r
    obtain ⟨its, rv, ⟨o, n, ho, hc, _, hd⟩, _⟩ := I.list hs
    exact .list ho hc hd (DdAll.rk I ha rv)
  | .tuple ds, _, _, .tup hs ha, r => by
    cases r
    obtain ⟨its, rv, ⟨o, ho, hc, n, hd⟩, _⟩ := I.tuple hs
    exact .tuple ho hc hd (DdAll.rk I ha rv)
  | .dict ps, _, _, .dic hs hk ha, r => by
    cases r
    obtain ⟨_, hm, vs, kv, o, es, ep, ho, hx, hd, _, hp, _⟩ := I.hok _ _ hs
    refine .dict ho hx.1 hd hm ?_ ?_
    · rw [hk]
      exact keys_rk (X := X) kv hp
    · exact DdAll.rk I ha (vals_of (X := X) kv hp)
theorem DdAll.rk (I : Inv X pins σ H s) : ∀ {ds : List PyData} {vs : List V} {us : List Value},
    DdAll X.K H vs ds → Vals vs us → RkAll s.heap us ds
  | [], _, _, .nil, r => by cases r; exact .nil
  | _ :: _, _, _, .cons h1 h2, r => by
    cases r with
    | cons r1 r2 => exact .cons (Dd.rk I h1 r1) (DdAll.rk I h2 r2)
end
/-- data stays where nothing tracked is changed -/
theorem SqT.same {K : PySem.W.Frag} {H H' : Hp} {a : Addr} {xs : List V} (s : Same H H') (h : SqT K H a xs) :
    SqT K H' a xs := by
  rcases h with (h | ⟨o, h⟩) | h
  · exact .inl (.inl (s _ _ h))
  · exact .inl (.inr ⟨o, s _ _ h⟩)
  · exact .inr h
mutual
theorem Dd.same {K : PySem.W.Frag} {H H' : Hp} (s : Same H H') : ∀ {d : PyData} {v : V}, Dd K H v d → Dd K H' v d
  | _, _, .non => .non
  | _, _, .bl b => .bl b
  | _, _, .int i => .int i
  | _, _, .str x => .str x
  | _, _, .lst h a => .lst (s.seq h) (DdAll.same s a)
  | _, _, .tup h a => .tup (SqT.same s h) (DdAll.same s a)
  | _, _, .dic h k a => .dic (s _ _ h) k (DdAll.same s a)
theorem DdAll.same {K : PySem.W.Frag} {H H' : Hp} (s : Same H H') : ∀ {d : List PyData} {v : List V},
    DdAll K H v d → DdAll K H' v d
  | _, _, .nil => .nil
  | _, _, .cons a b => .cons (Dd.same s a) (DdAll.same s b)
end
/-- what repr can write here -/
structure Shows (d : PyData) : Prop where
  ok : d.showable = true
  len : d.shown.length ≤ sizeLine
  dp : d.depth ≤ 100
/-- repr(x), x data -/
def rRepr (K : PySem.W.Frag) : List V → Hp → VK → Prop := fun xs H Q =>
  ∃ (x : V) (d : PyData), xs = [x] ∧ Dd K H x d ∧ Shows d ∧ Q (.str d.shown) H
theorem call_repr {k : Nat} (hg : X.A.guards = some []) (hr : Room k X.A) :
    CallR X (.builtin "repr") (rRepr X.K) := by
  intro pins s σ H xs us Q I r h
  obtain ⟨x, d, rfl, hd, ⟨h1, h2, h3⟩, q⟩ := h
  obtain ⟨u, rfl, ru⟩ := vals1 r
  have hu : X.A.units + (d.depth + 1) < cLine := by
    have := hr.un
    omega
  exact repr_rk (hd.rk I ru) h1 h2 hg hu fun h' u tk k => ⟨.str d.shown, H, I.kept k, ⟨u, rfl⟩, q⟩
end
end Q
set_option Elab.async false
set_option linter.all false
set_option maxRecDepth 100000
set_option maxHeartbeats 4000000
namespace Q
open PySem PySem.Spec PyProof.Rows L2

section
variable {X : Cx} {pins : List (Addr × Obj)} {σ : L2.St} {H : Hp} {s : Shared} {a : Addr} {o : HO}
/-- an object of this def's own making, so far untracked, is tracked from here on -/
theorem Inv.track (I : Inv X pins σ H s) (n : H a = none) (n0 : X.s_0.heap.get? a = none)
    (nL : a ≠ X.env.locals) (nC : ∀ x c, X.env.cells.lookup x = some c → c ≠ a)
    (nP : ∀ p ∈ X.pn ++ pins, p.1 ≠ a) (new : ObjOk X.prog X.w (upd H a o) s.heap a o) :
    Inv X pins σ (upd H a o) s := by
  have ne0 : ∀ {b ob}, X.s_0.heap.get? b = some ob → b ≠ a := fun e z => by rw [z, n0] at e; cases e
  have neH : ∀ {b u}, H b = some u → b ≠ a := fun e => ne_of_none e n
  obtain ⟨k1, k2, k3, k4, k5, k6, k7⟩ := I.base
  refine ⟨I.ok, I.os, I.bare, ⟨k1, k2, ?_, k4, ?_, ?_, ?_⟩, I.loc, I.cell, ?_, ?_, ?_, ?_, I.len⟩
  · intro b ob e z hx
    rw [upd_ne (ne0 e)]
    exact k3 b ob e z hx
  · intro b xs e
    rw [upd_ne (neH (k5 b xs e))]
    exact k5 b xs e
  · intro b ob u e
    rw [upd_ne (neH (k6 b ob u e))]
    exact k6 b ob u e
  · intro b ps e
    obtain ⟨more, q⟩ := k7 b ps e
    exact ⟨more, by rw [upd_ne (neH q)]; exact q⟩
  · rw [upd_ne (Ne.symm nL)]
    exact I.free
  · intro x c e
    rw [upd_ne (nC x c e)]
    exact I.freeC x c e
  · intro p hp
    obtain ⟨q1, q2, q3⟩ := I.pin p hp
    exact ⟨q1, by rw [upd_ne (nP p hp)]; exact q2, q3⟩
  · intro b u e
    by_cases z : b = a
    · subst z
      rw [upd_same] at e
      cases e
      exact new
    · rw [upd_ne z] at e
      refine (I.hok b u e).stay (fun _ _ _ q => q) (fun c q => ?_) (fun c xs q => ?_)
      · rw [upd_ne (neH q)]
        exact q
      · rw [upd_ne (neH q)]
        exact q
end

/-- what 'except x as n: ..' wishes, the exception kept behind the suite -/
def wKeep (K : PySem.W.Frag) (c : Value) (i : Nat) (ts : Addr → Value → Option Addr → TS) (Wout : WX)
    (D : Ends) : WX := fun cls d σ H =>
  ∃ b, PySem.W.exmOne K cls c = some b ∧
    (b = true → ∃ C, cls = .ref C ∧ ∀ a, H a = none → ts a cls d
      { nx := fun σ' H' => D.nx (σ'.set i none) (upd H' a (exv a C d)),
        rt := fun v H' => D.rt v (upd H' a (exv a C d)) } (σ.set i (some (.ref a))) H) ∧
    (b = false → Wout cls d σ H)
section
variable {X : Cx} {x n : Str} {c : Value} {i : Nat} {body suite : List Stmt} {b₀ : Stmt}
  {np pos pos' : Pos} {tb : WX → TS} {ts : Addr → Value → Option Addr → TS} {Wout : WX}
theorem ps_try_keep (hs : X.stack = X.env :: X.outer) (hf : X.env.frame = some X.env.locals)
    (hex : X.ex = []) (hN : X.N.Nodup) (hi : X.N[i]? = some n) (hln : X.env.kindOf n = some .local)
    (hc : Names X x c) (tk : Takes X Wout)
    (hb : ∀ (W : WX) (pn : List (Addr × Obj)) (xe : Value → Shared → Prop), Takes (X.tr pn xe) W →
      PassesOwn (model X.prog X.w) X.A X.env xe → PSs (X.tr pn xe) body (tb W))
    (hsu : ∀ (a : Addr) (oe : Obj) (cls : Value) (d : Option Addr) (pn : List (Addr × Obj)),
      Zc cls d oe → (∃ vs, oe.data = .fields vs) → PSs (X.suite a ((a, oe) :: pn)) (b₀ :: suite) (ts a cls d)) :
    PS X (.Try body [.ExceptHandler (some (.Name x np)) (some n) (b₀ :: suite) pos'] [] [] pos)
      (fun D σ H => tb (wKeep X.K c i ts Wout D) D σ H) := by
  constructor
  intro pins s σ H D I h
  have ok := I.ok
  have hfr : X.A.frames = some (X.env :: X.outer) := ok.frames.trans (by rw [hs])
  refine wpAny_Try_except ?_
  have run := (hb (wKeep X.K c i ts Wout D) (X.pn ++ pins)
    (fun e s₁ => wpAny (model X.prog X.w) X.A (noteFrame e X.env)
      (fun _ s₂ => wpAny (model X.prog X.w) X.A (setFlight e none)
        (fun _ s₃ => wpAny (model X.prog X.w) X.A
          (handleBy e X.env [.ExceptHandler (some (.Name x np)) (some n) (b₀ :: suite) pos'])
          (SP X pins D) X.xe s₃) X.xe s₂) X.xe s₁) ?caught PassesOwn.looking).run [] s σ H D (I.toTry _) h
  case caught =>
    rintro u s' ⟨a, B, sI, pins', σ', H', cls, d, rfl, J', nb, up, sky, na, os, ag, b, hb1, hyes, hno⟩
    have J : Inv X pins σ' H' sI := J'.ofTry ok
    rw [show (X.tr (X.pn ++ pins) _).stack = X.env :: X.outer from hs] at sky
    show wpAny (model X.prog X.w) X.A (noteFrame (.ref a) X.env) _ _ _
    refine Sky.land Zc.steady hfr hf sky ?_
    intro h3 fl3 up3
    have J3 : Inv X pins σ' H' { s' with heap := h3 } := J.landed nb fl3.1 (up.trans up3) os ag
    obtain ⟨oe3, vs3, he3, hz3, hd3⟩ := fl3.there
    have nfr : a ∉ frs (X.env :: X.outer) := by
      intro hm
      obtain ⟨_, ob, e', hnf⟩ := fl3.2.2.1.mem hm
      rw [he3] at e'
      cases e'
      exact hnf _ hd3
    have nL : a ≠ X.env.locals := fun z => nfr (List.mem_filterMap.mpr ⟨X.env, List.mem_cons_self, hf.trans (by rw [z])⟩)
    have nF : a ∉ X.fs := by
      intro hm
      obtain ⟨e, he, q⟩ := List.mem_filterMap.mp hm
      exact nfr (List.mem_filterMap.mpr ⟨e, List.mem_cons_of_mem _ he, q⟩)
    -- the exception was not there before
    have nB : B.get? a = none := by
      have z := fl3
      exact z.2.1
    have inI : ∀ {e ob}, sI.heap.get? e = some ob → e ∉ frs (X.env :: X.outer) → e ≠ a := by
      rintro e ob q nq rfl
      have q2 := nb e ob q (by show e ∉ frs X.stack; rw [hs]; exact nq)
      rw [nB] at q2
      cases q2
    have n0 : X.s_0.heap.get? a = none := by
      cases q : X.s_0.heap.get? a with
      | none => rfl
      | some ob =>
        obtain ⟨ob2, q2⟩ := J.base.there a ob q (by rw [hex]; exact List.not_mem_nil)
        exact absurd rfl (inI q2 nfr)
    have nP : ∀ p ∈ X.pn ++ pins, p.1 ≠ a := by
      intro p hp
      obtain ⟨q1, _, q3, q4, _⟩ := J.pin p hp
      refine inI q1 ?_
      intro hm
      obtain ⟨e, he, q⟩ := List.mem_filterMap.mp hm
      rcases List.mem_cons.mp he with z | z
      · rw [z, hf] at q
        exact q3 (Option.some.inj q).symm
      · exact q4 (List.mem_filterMap.mpr ⟨e, z, q⟩)
    have S3 := J3.suite he3 hd3 na nL nF
    refine wpAny_handleBy_cons (codeAny_handlers_test ?_) nofun
    have LT : PySem.W.Looks (model X.prog X.w) h3 (typeOf (.ref a)) cls :=
      fun A Q E s k q => wpAny_typeOf_ref (k _ _ he3) (by rw [hz3.1]; exact q)
    have LM := PySem.W.exm_one (M := model X.prog X.w) (J3.kIn) LT hb1
    have test : ∀ {Q : Value → Shared → Prop} {E : Value → Shared → Prop}, Q c { s' with heap := h3 } →
        wpAny (model X.prog X.w) (X.A.mark (some (.ref a))) (eval (.Name x np) X.env) Q E { s' with heap := h3 } := by
      intro Q E q
      obtain ⟨hg, hdbg, hm⟩ := hc
      rcases hm with hm | ⟨hm, hv, hnn⟩
      · exact ld_glob (X := X.suite a ((a, oe3) :: (X.pn ++ pins))) S3 hg hm q hdbg
      · exact ld_blt (X := X.suite a ((a, oe3) :: (X.pn ++ pins))) S3 hg hm hv q hnn hdbg
    refine test (LM.here ?_)
    cases b with
    | true =>
      obtain ⟨C, ec, hyes⟩ := hyes rfl
      subst ec
      refine codeAny_handlers_suite_as (HandSPX.lands_againZ fl3 ?_)
      intro h4 fl4 up4
      have J4 : Inv X pins σ' H' { s' with heap := h4 } := J.landed nb fl4.1 ((up.trans up3).trans up4) os ag
      obtain ⟨oe4, vs4, he4, hz4, hd4⟩ := fl4.there
      have S4 := J4.suite he4 hd4 na nL nF
      refine store_ok (X := X.suite a ((a, oe4) :: (X.pn ++ pins))) (v := .ref a) S4 hN hi (.inl hln) rfl ?_ (.inr hln)
      intro s5 S5
      have suiteRun := (hsu a oe4 (.ref C) d (X.pn ++ pins) hz4 ⟨_, hd4⟩).run [] s5 _ H' _ S5 (hyes a na)
      refine wpAny_mono suiteRun ?_ (fun _ _ z => False.elim z)
      intro f s6 hsp
      have fin : ∀ {σ6 : L2.St} {H6 : Hp} {Q : Shared → Prop},
          Inv (X.suite a ((a, oe4) :: (X.pn ++ pins))) [] σ6 H6 s6 →
          (∀ s7, Inv X pins (σ6.set i none) (upd H6 a (exv a C d)) s7 → Q s7) →
          wpAny (model X.prog X.w) X.A (do bindName X.env n .none; unbindBehindTheSuite X.env n pos')
            (fun _ s7 => Q s7) X.xe s6 := by
        intro σ6 H6 Q S6 hq
        obtain ⟨g1, g2, _⟩ := S6.pin (a, oe4) (List.mem_append.mpr (.inl List.mem_cons_self))
        have U := S6.unsuite ok
        have nC : ∀ y e, X.env.cells.lookup y = some e → e ≠ a := by
          rintro y e q rfl
          obtain ⟨v, ob, q1, q2⟩ := U.cell y e q
          have g1' : s6.heap.get? e = some oe4 := g1
          rw [q1] at g1'
          cases g1'
          rw [hd4] at q2
          cases q2
        have V := Inv.track (o := exv a C d) U g2 n0 nL nC nP (exv_ok g1 hz4 ⟨_, hd4⟩)
        exact gone_ok V hN hi hln hq
      match f, hsp with
      | .next, ⟨σ6, H6, S6, q6⟩ => exact fin S6 fun s7 J7 => ⟨_, _, J7, q6⟩
      | .brk, ⟨σ6, H6, S6, q6⟩ => exact False.elim q6
      | .cont, ⟨σ6, H6, S6, q6⟩ => exact False.elim q6
      | .ret u, ⟨v6, σ6, H6, S6, r6, q6⟩ => exact fin S6 fun s7 J7 => ⟨_, _, _, J7, r6, q6⟩
    | false =>
      show wpAny _ X.A (handleBy (.ref a) X.env []) _ _ _
      refine wpAny_handleBy_nil ?_
      obtain ⟨k1, k2, k3, oe, vs, TT, oT, ts', he, hz, hd, h1, hr⟩ := id fl3
      unfold PySem.passOn
      refine wpAny_bind (wpAny_field he hd h1 ?_)
      rw [if_neg (show ¬ ((Value.ref TT == Value.none) = true) from by simp)]
      have out : wpAny (model X.prog X.w) X.A (setFlight (.ref a) X.env.frame)
          (fun _ s4 => wpAny (model X.prog X.w) X.A (throw (.ref a) : Sem Flow) (SP X pins D) X.xe s4)
          X.xe { s' with heap := h3 } := by
        rw [hf]
        refine HandSPX.setFlight_upZ fl3 ?_
        intro h4 hh4 up4
        refine wpAny_throw (tk _ _ ?_)
        have sky4 : Sky B X.stack a (Zc cls d) X.env.locals h4 := .inr (.inr (by rw [hs]; exact hh4))
        exact ⟨a, B, sI, pins, σ', H', cls, d, rfl, J, nb, (up.trans up3).trans up4, sky4, na, os, ag, hno rfl⟩
      first
        | exact wpAny_bind (wpAny_pure (wpAny_bind out))
        | exact wpAny_bind out
  refine wpAny_mono run ?_ (fun e s1 he => he)
  intro f s1 hsp
  match f, hsp with
  | .next, ⟨σ', H', J', q⟩ => exact wpAny_execs_nil ⟨σ', H', J'.ofTry ok, q⟩
  | .brk, ⟨σ', H', J', q⟩ => exact ⟨σ', H', J'.ofTry ok, q⟩
  | .cont, ⟨σ', H', J', q⟩ => exact ⟨σ', H', J'.ofTry ok, q⟩
  | .ret u, ⟨v, σ', H', J', r, q⟩ => exact ⟨v, σ', H', J'.ofTry ok, r, q⟩
end
/-- repr(e) -/
theorem pe_repr {X : Cx} {k : Nat} {e : Expr} {te : TE} {p pos : Pos} (hgd : X.A.guards = some [])
    (hr : Room k X.A) (hm : X.mg "repr" = none) (ha : PE X e te) (hg : Gl X "repr" := by rfl)
    (h1 : starEach [e] X.env = (false, eval e X.env) :: starEach [] X.env := by rfl)
    (h2 : (backTo pos (starEach [] X.env)).any (·.1) = false := by rfl) :
    PE X (.Call (.Name "repr" p) [e] [] pos) (tCB (rRepr X.K) (tCons te tNil)) :=
  pe_callB (call_repr hgd hr) hg hm (by decide +kernel) (pa_cons ha pa_nil h1) (by decide) (by decide) h1 h2
end Q
set_option Elab.async false
set_option linter.all false
set_option maxRecDepth 100000
set_option maxHeartbeats 4000000
namespace Q
open PySem PySem.Spec PyProof.Rows L2

/-! sets made from lists, whatever the items are: the shell -/
def noneYet (w : World) : Obj :=
  { cls := .type "set"
    dict := none
    data := .set #[] 0 (.fresh 0 0 (!w.params.followText "set-order")) }
def walker (l : Addr) : Obj :=
  { cls := .type "list_iterator"
    data := .fields #[.ref l, .int 0 0] }
/-- the heap at which the items begin to come -/
def laidTwo (w : World) (h : Heap) (l : Addr) : Heap := (h.push (noneYet w)).push (walker l)

section
variable {P : Program} {w : World} {A : Around} {E : Value → Shared → Prop} {s : Shared}

theorem laid_set (h : Heap) (l : Addr) : (laidTwo w h l).get? h.objs.size = some (noneYet w) :=
  Heap.get?_push_of_some _ (Heap.get?_push_size _ rfl)
theorem laid_old {h : Heap} {l b : Addr} {o : Obj} (e : h.get? b = some o) : (laidTwo w h l).get? b = some o :=
  Heap.get?_push_of_some _ (Heap.get?_push_of_some _ e)

set_option maxRecDepth 100000 in
set_option maxHeartbeats 3200000 in
theorem set_shell {l : Addr} {items : Array Value} {Q : Value → Shared → Prop} (Post : Heap → Prop) (hl : s.heap.IsList l items)
    (loop : codeAny (model P w) A.in1.in1 (.builtin "set.update.loop" ⟨[.ref s.heap.objs.size, .ref (s.heap.push (noneYet w)).objs.size], []⟩)
      (fun r z => r = .ok (.ret .none) ∧ z.gens = s.gens ∧ z.drawn = s.drawn ∧ z.os = s.os ∧ Post z.heap) { s with heap := laidTwo w s.heap l })
    (next : ∀ (h' : Heap) (tk : Nat), Post h' → Q (.ref s.heap.objs.size) { s with heap := h', toks := tk }) :
    wpAny (model P w) A (call (.type "set") [.ref l]) Q E s := by
  obtain ⟨mroHead, mroTail, ofMro⟩ := F.called_set.mro
  have g1 := F.called_set.made
  have g2 := F.called_set.sub
  refine wpAny_call (codeAny_of_tree ?_)
  show wpAny _ _ (callAny (.type "set") _) _ _ _
  refine wpAny_pure ⟨Code.quiet_builtin _ (by decide +kernel), codeAny_builtin F.entry_type_call ?_⟩
  rw [Around.under_plain (weight_type_call_type "set" [.ref l] []) rfl]
  have g3 := F.called_set.notType
  have g4 := F.called_set.canCreate
  have g5 := F.typeCall_set_1 (.ref l)
  repeat (any_goals (first | assumption | wp_step))
  refine codeAny_mono (code_set_led1 (.ref l) (E := E) (Q₁ := fun v z => v = .ref s.heap.objs.size ∧ z = { s with heap := s.heap.push (noneYet w) }) ⟨rfl, rfl⟩) fun r z hz => ?_
  cases r with
  | error e => exact hz
  | ok fl =>
    cases fl with
    | ret v =>
      obtain ⟨rfl, rfl⟩ := hz
      have at1 : (s.heap.push (noneYet w)).get? s.heap.objs.size = some (noneYet w) := Heap.get?_push_size _ rfl
      have isSet : Shared.TypeIs { s with heap := s.heap.push (noneYet w) } (.ref s.heap.objs.size) "set" := ⟨_, at1, rfl⟩
      have g6 := F.called_set.init.lookup
      have g7 := F.called_set.init.bind (.ref s.heap.objs.size)
      repeat (any_goals (first | assumption | wp_step))
      refine codeAny_mono (codeAny_call_builtin (R := wants (fun r z => r = .none ∧ ∃ h' tk, z = { s with heap := h', toks := tk } ∧ Post h') E)
        F.called_set.init.plain F.entry_set_init (check_set_init_1 isSet ?_)) fun r z hz => ?_
      · obtain ⟨⟨lcls, ldict, ldata, lslots⟩, lat, lc, ln, ld⟩ := hl
        simp only at lc ld
        subst lc
        subst ld
        have lat1 : (s.heap.push (noneYet w)).get? l = some { cls := .type "list", dict := ldict, data := .seq items ln, slots := lslots } := Heap.get?_push_of_some _ lat
        have lis1 : (s.heap.push (noneYet w)).IsList l items := ⟨_, lat1, rfl, ln, rfl⟩
        have g8 := F.sub_list_set
        have g9 := F.sub_list_frozenset
        have g10 : (Value.type "list" == Value.type "dict") = false := by decide
        unfold Builtin.«set.__init__» noKeywords Builtin.Frozenset.updateFrom
        generalize hold : pyIter = PI
        wp_walk
        subst hold
        refine wpAny_pyIter_list lis1 ?_
        refine wpAny_bind (wpAny_runValue ?_)
        refine codeAny_mono loop fun r z hz => ?_
        obtain ⟨rfl, e1, e2, e3, hp⟩ := hz
        obtain ⟨zh, zg, zd, zt, zo⟩ := z
        dsimp only at e1 e2 e3 hp
        subst e1; subst e2; subst e3
        show wpAny _ _ _ _ _ _
        refine wpAny_pure ?_
        show wpAny _ _ (ret Value.none) _ _ _
        exact wpAny_pure ⟨rfl, zh, zt, rfl, hp⟩
      · cases r with
        | error e => exact hz
        | ok fl =>
          cases fl with
          | ret v =>
            obtain ⟨rfl, h', tk, rfl, hp⟩ := hz
            repeat (any_goals (first | assumption | wp_step))
            exact next _ _ hp
          | _ => exact hz.elim
    | _ => exact hz.elim
end
end Q
set_option Elab.async false
set_option linter.all false
set_option maxRecDepth 100000
set_option maxHeartbeats 4000000
namespace Q
open PySem PySem.Spec PyProof.Rows L2 PySem.W

/-! sorted(..) of a set whose members read as data -/
theorem each_perm {β : Type} {R : Value → β → Prop} {us vs : List Value} (p : vs.Perm us) : ∀ {bs : List β}, EachIs R us bs → ∃ cs : List β, cs.Perm bs ∧ EachIs R vs cs := by
  induction p with
  | nil => intro bs e; cases e; exact ⟨[], .nil, .nil⟩
  | cons x _ ih =>
    intro bs e
    cases e with
    | cons h t =>
      obtain ⟨cs, q, r⟩ := ih t
      exact ⟨_ :: cs, .cons _ q, .cons h r⟩
  | swap x y l =>
    intro bs e
    cases e with
    | cons h t =>
      cases t with
      | cons h2 t2 => exact ⟨_, .swap _ _ _, .cons h2 (.cons h t2)⟩
  | trans _ _ ih1 ih2 =>
    intro bs e
    obtain ⟨cs, q, r⟩ := ih2 e
    obtain ⟨ds, q2, r2⟩ := ih1 r
    exact ⟨ds, q2.trans q, r2⟩

/-- the set at a: its members are, in some order, the values us -/
def Members (w : World) (h : Heap) (a : Addr) (us : List Value) : Prop :=
  ∃ es ep t, SetAt h a es ep t ∧ (es.toList.map (·.2)).Perm us ∧ t.fits es.size = true ∧ es.size < scanBound ∧ Ris t.place.toList ∧
    (w.params.followText "set-order" = true ∨ t.led = true)
theorem Members.at {w : World} {h h' : Heap} {a : Addr} {us : List Value} (m : Members w h a us) (k : ∀ o, h.get? a = some o → h'.get? a = some o) : Members w h' a us := by
  obtain ⟨es, ep, t, sa, r⟩ := m
  exact ⟨es, ep, t, sa.at k, r⟩
theorem Members.ob {w : World} {h : Heap} {a : Addr} {us : List Value} (m : Members w h a us) : ∃ o, h.get? a = some o := by
  obtain ⟨es, ep, t, ⟨o, e, _⟩, _⟩ := m
  exact ⟨o, e⟩

section
variable {P : Program} {w : World} {A : Around} {E : Value → Shared → Prop} {s : Shared}
theorem sorted_members {β : Type} {R : Value → β → Prop} {enc : β → PyData} {a : Addr} {us : List Value} {bs : List β} {Q : Value → Shared → Prop}
    (m : Members w s.heap a us) (hh : A.handled = none) (e : EachIs (fun v b => R v b ∧ Reads s.heap v (enc b) []) us bs)
    (hal : ∀ cs : List β, cs.Perm bs → AllAlike (cs.map enc)) (hk : ∀ cs : List β, cs.Perm bs → Sortable (cs.map enc))
    (hu : ∀ b, b ∈ bs → A.units + 2 + (enc b).depth < cLine)
    (next : ∀ z p (out : Array Value) (c : Nat) (cs : List β), (∀ b o, s.heap.get? b = some o → z.heap.get? b = some o) → z.gens = s.gens → z.os = s.os → s.heap.objs.size ≤ p →
      z.heap.get? p = some (seqObj "list" out c) → cs.Perm bs → EachIs R out.toList (cs.mergeSort (dataLe false enc)) → Q (.ref p) z) :
    wpAny (model P w) A (call (.builtin "sorted") [.ref a]) Q E s := by
  obtain ⟨es, ep, t, sa, pm, hf, hb, hr, hl⟩ := m
  have lu : us.length = bs.length := e.length
  have le : us.length < scanBound := by
    rw [← pm.length_eq, List.length_map, Array.length_toList]
    exact hb
  refine Calls.call_function_entry kind_sorted plain_sorted entry_sorted (args_sorted1 _) ?_
  unfold Builtin.«sorted»
  refine wpAny_bind (m := checkCount "sorted" 1 1 _) (wpAny_pure ?_)
  refine wpAny_bind (collect_set (A := A.in1) hh sa hf hb hr hl fun s1 vs k1 hz g1 o1 q1 => ?_)
  have pv : vs.Perm us := q1.trans pm
  obtain ⟨cs, pc, ec⟩ := each_perm pv e
  have lv : vs.length = us.length := pv.length_eq
  have big : scanBound ≤ sizeLine := Nat.le_of_lt_succ (by rw [sizeLine_eq]; decide)
  refine wpAny_bind (wpAny_newList ?_ (by omega))
  have fresh : (s1.heap.push (seqObj "list" vs.toArray 0)).get? s1.heap.objs.size = some (seqObj "list" vs.toArray 0) := Heap.get?_push_size _ rfl
  have kept : ∀ b o, s.heap.get? b = some o → (s1.heap.push (seqObj "list" vs.toArray 0)).get? b = some o := fun b o q => Heap.get?_push_of_some _ (k1 b o q)
  refine wpAny_bind (wpAny_holding (list_sort_data (A := A.in1) (s := { s1 with heap := s1.heap.push (seqObj "list" vs.toArray 0) }) (vs := vs) (bs := cs) (enc := enc) (R := R) fresh
    (ec.mono fun _ _ q => q.1) (ec.mono fun _ _ q => ⟨[], PyProof.Rows.Reads.keeps kept q.2, by simp⟩) (hal cs pc) (hk cs pc) ?_ (fun b hb => ?_) fun out lo eo => ?_))
  · rw [pc.length_eq]
    omega
  · have q := hu b (pc.mem_iff.mp hb)
    show (A.units + 1) + 1 + (enc b).depth < cLine
    omega
  · obtain ⟨c, hc⟩ := sortedHeap_at (vs := vs) (out := out.toArray) fresh
    refine wpAny_pure ⟨_, rfl, next _ s1.heap.objs.size out.toArray c cs (fun b o q => ?_) g1 o1 hz hc pc (by simpa using eo)⟩
    have q2 := k1 b o q
    have lt := Heap.lt_size q2
    show (sortedHeap (s1.heap.push (seqObj "list" vs.toArray 0)) s1.heap.objs.size vs out.toArray).get? b = some o
    rw [sortedHeap_old (Nat.ne_of_lt lt) (by rw [size_push']; exact Nat.lt_succ_of_lt lt)]
    exact Heap.get?_push_of_some _ q2
end
end Q
set_option Elab.async false
set_option linter.all false
set_option maxRecDepth 100000
set_option maxHeartbeats 4000000
namespace Q
open PySem PySem.Spec PyProof.Rows L2

/-! sets of tuples whose items are texts and whole numbers; only new members come -/
theorem range_back {α : Type} : ∀ l : List α, (List.range l.length).filterMap (fun i => l[i]?) = l
  | [] => rfl
  | x :: l => by
    have ih := range_back l
    rw [List.length_cons, List.range_succ_eq_map, List.filterMap_cons_some (b := x) (by rfl), List.filterMap_map]
    congr 1
theorem reorder {α : Type} (es : Array α) (order : Array Nat) (f : α → Int) (p : order.toList.Perm (List.range es.size)) :
    ((order.filterMap (es[·]?)).toList).Perm es.toList ∧ (order.filterMap (es[·]?)).toList.map f = order.toList.map fun i => (es.map f).getD i 0 := by
  have e0 : (order.filterMap (es[·]?)).toList = order.toList.filterMap fun i => es.toList[i]? := by simp
  rw [e0]
  constructor
  · have q := p.filterMap fun i => es.toList[i]?
    have q2 := range_back es.toList
    rw [Array.length_toList] at q2
    rw [q2] at q
    exact q
  · have inside : ∀ i ∈ order.toList, i < es.size := fun i hi => List.mem_range.mp (p.mem_iff.mp hi)
    clear p e0
    generalize order.toList = l at inside
    induction l with
    | nil => rfl
    | cons i l ih =>
      have hi : i < es.size := inside i List.mem_cons_self
      have e1 : es.toList[i]? = some es[i] := by simp [hi]
      rw [List.filterMap_cons_some (f := fun i => es.toList[i]?) e1, List.map_cons, List.map_cons, ih fun j hj => inside j (List.mem_cons_of_mem _ hj)]
      congr 1
      simp [Array.getD_eq_getD_getElem?, hi]

abbrev tkh (P : Program) (w : World) (k : List Key) : Int := tupleKeyHash (mixKind P w) k
abbrev TupAt (P : Program) (w : World) (h : Heap) (k : List Key) (b : Addr) : Prop := IsTupleKey (mixKind P w) h k b
abbrev spot (m : Nat) (x : Int) (c : Nat) : SetTable.Probe := nth m (runAt m (SetTable.bits x % (m + 1)) (SetTable.bits x)) c

theorem TupAt.mono {P : Program} {w : World} {h h' : Heap} {k : List Key} {b : Addr} (x : TupAt P w h k b) (kp : ∀ o, h.get? b = some o → h'.get? b = some o) : TupAt P w h' k b := by
  obtain ⟨o, its, n, q, r⟩ := x
  exact ⟨o, its, n, kp o q, r⟩
theorem TupAt.notSet {P : Program} {w : World} {h : Heap} {k : List Key} {a b : Addr} {o : Obj} {es : Array (Int × Value)} {ep : Nat} {t : SetTable} (x : TupAt P w h k b) (q : h.get? a = some o) (d : o.data = .set es ep t) : b ≠ a := by
  rintro rfl
  obtain ⟨o2, its, n, q2, _, d2, _⟩ := x
  rw [q] at q2
  cases q2
  rw [d] at d2
  cases d2

/-- the set at a with its table; the members are tuples that stand in the heap -/
structure Bag (P : Program) (w : World) (h : Heap) (a : Addr) (es : Array (Int × Value)) (ep : Nat) (t : SetTable) : Prop where
  ob : ∃ o, h.get? a = some o ∧ o.ExactSet ∧ o.data = .set es ep t
  tab : TabOk t (es.toList.map (·.1))
  el : ∀ e ∈ es.toList, ∃ b k, e = (tkh P w k, Value.ref b) ∧ TupAt P w h k b
  led : w.params.followText "set-order" = true ∨ t.led = true
  room : es.size * 5 < t.mask * 3
  few : es.size < 64

section
variable {P : Program} {w : World} {A : Around} {E : Value → Shared → Prop} {s : Shared} {a : Addr} {es : Array (Int × Value)} {ep : Nat} {t : SetTable}

theorem tab_fits (T : TabOk t (es.toList.map (·.1))) (hr : es.size ≤ t.mask) : t.fits es.size = true := by
  have h1 := T.sz
  rw [List.length_map, Array.length_toList] at h1
  unfold SetTable.fits SetTable.fill
  rw [T.dm, Bool.and_eq_true, beq_iff_eq, decide_eq_true_eq]
  refine ⟨h1, ?_⟩
  show t.place.size + 0 ≤ t.mask
  omega
theorem Bag.fits (R : Bag P w s.heap a es ep t) : t.fits es.size = true := tab_fits R.tab (by have := R.room; omega)

/-! what the model asks of the items -/
theorem key_class (n : Nat) {k : Key} {v : Value} (h : (mixKind P w).is k v = true) : ofAClassStatement n v = pure false := by
  rcases keyIs_shape h with ⟨i, u, rfl, rfl⟩ | ⟨x, u, rfl, rfl⟩ <;> cases n <;> rfl
theorem items_shape {ks : List Key} {vs : List Value} (h : ItemsAre (mixKind P w) ks vs) : ∀ v ∈ vs, ∃ k, (mixKind P w).is k v = true := by
  induction h with
  | nil => intro v hv; cases hv
  | cons h1 _ ih =>
    intro v hv
    rcases List.mem_cons.mp hv with rfl | hv
    · exact ⟨_, h1⟩
    · exact ih v hv
theorem key_hashBy (n : Nat) {k : Key} {v : Value} (h : (mixKind P w).is k v = true) : ∃ b, hashByValue n v = pure b := by
  rcases keyIs_shape h with ⟨i, u, rfl, rfl⟩ | ⟨x, u, rfl, rfl⟩
  · exact ⟨true, by cases n <;> rfl⟩
  · exact ⟨false, by cases n <;> rfl⟩

theorem tup_class {k : List Key} {b : Addr} {Q : Bool → Shared → Prop} (x : TupAt P w s.heap k b) (h : Q false s) : wpAny (model P w) A (ofAClassStatement 8 (.ref b)) Q E s := by
  have ty := x.typeIs
  obtain ⟨o, its, n, q, _, d, r⟩ := x
  unfold ofAClassStatement
  refine wpAny_bind (wpAny_typeOf ty ?_)
  dsimp only
  simp only [show (("tuple" : String) == "tuple") = true by decide, if_true, Bool.not_true, Bool.false_eq_true, if_false]
  try refine wpAny_bind (wpAny_pure ?_)
  try simp only [Bool.not_true, Bool.false_eq_true, if_false]
  show wpAny _ _ (seqItems? (.ref b) >>= _) _ _ s
  refine wpAny_bind (wpAny_seqItems q d ?_)
  dsimp only
  refine wpAny_bind ?_
  show wpAny _ _ (forIn its _ _) _ _ s
  rw [← Array.forIn_toList]
  refine wpAny_forIn_list _ (fun left r z => r.1 = none ∧ z = s ∧ ∀ v ∈ left, ∃ k, (mixKind P w).is k v = true) _ ?_ ?_ _ _ ⟨rfl, rfl, items_shape r⟩
  · rintro v left r z ⟨_, rfl, all⟩
    obtain ⟨k1, h1⟩ := all v List.mem_cons_self
    rw [key_class _ h1]
    refine wpAny_bind (wpAny_pure ?_)
    simp only [Bool.false_eq_true, if_false]
    exact wpAny_pure ⟨rfl, rfl, fun u hu => all u (List.mem_cons_of_mem _ hu)⟩
  · rintro ⟨r1, r2⟩ z ⟨hr, rfl, _⟩
    simp only at hr
    subst hr
    exact wpAny_pure h
theorem tup_hashBy {k : List Key} {b : Addr} {Q : Bool → Shared → Prop} (x : TupAt P w s.heap k b) (h : ∀ y, Q y s) : wpAny (model P w) A (hashByValue 8 (.ref b)) Q E s := by
  have ty := x.typeIs
  obtain ⟨o, its, n, q, _, d, r⟩ := x
  unfold hashByValue
  refine wpAny_bind (wpAny_specialOf ty F.slot_tuple_hash.lookup ?_)
  show wpAny _ _ (seqItems? (.ref b) >>= _) _ _ s
  refine wpAny_bind (wpAny_seqItems q d ?_)
  refine wpAny_bind ?_
  show wpAny _ _ (forIn its _ _) _ _ s
  rw [← Array.forIn_toList]
  refine wpAny_forIn_list _ (fun left r z => z = s ∧ (∀ v ∈ left, ∃ k, (mixKind P w).is k v = true)) _ ?_ ?_ _ _ ⟨rfl, items_shape r⟩
  · rintro v left r z ⟨rfl, all⟩
    obtain ⟨k1, h1⟩ := all v List.mem_cons_self
    obtain ⟨y, hy⟩ := key_hashBy (P := P) (w := w) 7 h1
    rw [hy]
    refine wpAny_bind (wpAny_pure ?_)
    cases y
    · simp only [Bool.not_false, if_true]
      exact wpAny_pure (by dsimp only; exact wpAny_pure (h _))
    · simp only [Bool.not_true, Bool.false_eq_true, if_false]
      exact wpAny_pure ⟨rfl, fun u hu => all u (List.mem_cons_of_mem _ hu)⟩
  · rintro ⟨r1, r2⟩ z ⟨rfl, _⟩
    cases r1
    · exact wpAny_pure (h _)
    · exact wpAny_pure (h _)
theorem tup_seen {k : List Key} {b : Addr} {Q : Bool → Shared → Prop} (x : TupAt P w s.heap k b) {ys : List Value} (hy : ∀ y ∈ ys, ∃ c k2, y = Value.ref c ∧ TupAt P w s.heap k2 c) (h : Q false s) :
    wpAny (model P w) A (searchCouldBeSeen (.ref b) ys) Q E s := by
  unfold searchCouldBeSeen
  refine wpAny_bind ?_
  refine wpAny_forIn_list _ (fun left r z => r.1 = none ∧ z = s ∧ ∀ y ∈ left, ∃ c k2, y = Value.ref c ∧ TupAt P w s.heap k2 c) _ ?_ ?_ _ _ ⟨rfl, rfl, hy⟩
  · rintro v left r z ⟨_, rfl, all⟩
    obtain ⟨c, k2, rfl, xc⟩ := all v List.mem_cons_self
    have all2 : ∀ y ∈ left, ∃ c k2, y = Value.ref c ∧ TupAt P w z.heap k2 c := fun u hu => all u (List.mem_cons_of_mem _ hu)
    dsimp only
    by_cases same : (b == c || (carriedByValue (.ref b) && carriedByValue (.ref c))) = true
    · exact wp_if_pos same (wpAny_pure ⟨rfl, rfl, all2⟩)
    · refine wp_if_neg same (wpAny_bind (wpAny_eqIsQuiet_tuple x ?_))
      simp only [Bool.not_true, Bool.false_eq_true, if_false]
      refine wpAny_bind (wpAny_eqIsQuiet_tuple xc ?_)
      simp only [Bool.not_true, Bool.false_eq_true, if_false]
      refine wpAny_bind (tup_class x ?_)
      simp only [Bool.false_eq_true, if_false]
      refine wpAny_bind (tup_class xc ?_)
      simp only [Bool.false_eq_true, if_false]
      exact wpAny_pure ⟨rfl, rfl, all2⟩
  · rintro ⟨r1, r2⟩ z ⟨hr, rfl, _⟩
    simp only at hr
    subst hr
    exact wpAny_pure h
end
end Q
set_option Elab.async false
set_option linter.all false
set_option maxRecDepth 100000
set_option maxHeartbeats 4000000
namespace Q
open PySem PySem.Spec PyProof.Rows L2
section
variable {P : Program} {w : World} {A : Around} {E : Value → Shared → Prop} {s : Shared} {a : Addr} {es : Array (Int × Value)} {ep : Nat} {t : SetTable}

theorem spot_dummy (m : Nat) (x : Int) (c : Nat) : (spot m x c).dummy = none := by
  have main : ∀ (n : Nat) (q : SetTable.Probe), q.dummy = none → (nth m q n).dummy = none := by
    intro n
    induction n with
    | zero => exact fun q h => h
    | succ n ih =>
      refine fun q h => ih (adv m q) ?_
      unfold adv
      split
      · exact h
      · exact h
  exact main c _ rfl
theorem spot_shift (m : Nat) (x : Int) (c d : Nat) : nth m (spot m x c) d = spot m x (c + d) := (nth_add m c _ d).symm

/-- a key that is not there: the search ends at the first empty slot of its way -/
theorem search_new (R : Bag P w s.heap a es ep t) {x : Addr} {k : List Key} (hx : TupAt P w s.heap k x) (hu : A.units < cLine)
    (new : ∀ e ∈ es.toList, ∀ b k2, e = (tkh P w k2, Value.ref b) → TupAt P w s.heap k2 b → k2 ≠ k) {K : Nat} (hK1 : K < 10 * SetTable.turns t.mask)
    (hK2 : (spot t.mask (tkh P w k) K).j ∉ t.place.toList) (hK3 : ∀ c, c < K → (spot t.mask (tkh P w k) c).j ∈ t.place.toList)
    {Q : SetFound → Shared → Prop} (next : Q (.free (spot t.mask (tkh P w k) K).j false) s) :
    ∀ (f c : Nat) (stand : Option SetTable.Probe), stand.getD (t.probeStart (tkh P w k)) = spot t.mask (tkh P w k) c → c ≤ K → K - c < f →
      wpAny (model P w) A (setSearchFrom a (.ref x) (tkh P w k) true f stand) Q E s := by
  obtain ⟨o, ho, hex, hd⟩ := R.ob
  intro f
  induction f with
  | zero => exact fun c stand _ _ z => absurd z (Nat.not_lt_zero _)
  | succ f ih =>
    intro c stand st hc hf
    rw [setSearchFrom_succ]
    refine wpAny_bind (wpAny_setState_of ho hd R.fits ?_)
    dsimp only
    refine wp_if_neg (by unfold SetTable.gaveWay; rw [mask_odd R.tab.mok]; decide) ?_
    try refine wpAny_bind (wpAny_pure ?_)
    have spec := go_spec t R.tab.ris R.tab.dm (fun i => (es[i]?.map (·.1)).getD 0) (tkh P w k) (10 * SetTable.turns t.mask) (K - c) (spot t.mask (tkh P w k) c) (spot_dummy _ _ _) (by omega)
      (fun d hd => by rw [spot_shift]; exact hK3 _ (by omega)) (by rw [spot_shift, Nat.add_sub_cancel' hc]; exact hK2)
    rcases spec with ⟨d, i, hd1, hi, hh, _, pr⟩ | ⟨_, pr⟩
    · rw [spot_shift] at hi
      rw [spot_shift, spot_shift] at pr
      have pr2 : t.probe (fun i => (es[i]?.map (·.1)).getD 0) (tkh P w k) (stand.getD (t.probeStart (tkh P w k))) = some (.candidate (spot t.mask (tkh P w k) (c + d)).j i (spot t.mask (tkh P w k) (c + (d + 1)))) := by
        rw [st]
        exact pr
      rw [pr2]
      dsimp only
      have il : i < es.size := by
        have q1 := (List.getElem?_eq_some_iff.mp hi).1
        have q2 := R.tab.sz
        rw [List.length_map, Array.length_toList] at q2
        rw [Array.length_toList] at q1
        omega
      have ei : es[i]? = some es[i] := Array.getElem?_eq_getElem il
      have em : es[i] ∈ es.toList := Array.getElem_mem_toList il
      obtain ⟨b, k2, e2, xb⟩ := R.el _ em
      have ne : k2 ≠ k := new _ em b k2 e2 xb
      rw [e2] at ei
      have onward : wpAny (model P w) A (searchRest a (.ref x) (tkh P w k) true f es t (spot t.mask (tkh P w k) (c + d)).j i (spot t.mask (tkh P w k) (c + (d + 1)))) Q E s := by
        unfold searchRest
        rw [ei]
        dsimp only
        refine wpAny_bind (wpAny_holding (wpAny_eqBool_tuple hu xb hx ?_))
        refine wpAny_bind (wpAny_setState_of ho hd R.fits ?_)
        dsimp only
        refine wp_if_neg (by simp [ne]) ?_
        try refine wpAny_bind (wpAny_pure ?_)
        rw [sameMem]
        dsimp only
        simp only [if_true, slot_live R.tab.ris hi, ei]
        refine wpAny_bind (wpAny_isSame_ref_self (wpAny_bind (wpAny_pure ?_)))
        simp only [if_true]
        refine wp_if_neg (by simp [ne]) ?_
        exact ih (c + (d + 1)) _ rfl (by omega) (by omega)
      by_cases hl : t.led = true
      · refine wp_if_neg (by simp [hl]) ?_
        try refine wpAny_bind (wpAny_pure ?_)
        exact onward
      · refine wp_if_pos (by simp [hl]) ?_
        refine wpAny_bind (tup_seen hx (fun y hy => ?_) ?_)
        · obtain ⟨e, he, ee⟩ := List.mem_map.mp hy
          have inE : e ∈ es.toList := by
            have z : e ∈ es ∧ e.1 = tkh P w k := by simpa using he
            simpa using z.1
          obtain ⟨b2, k3, e3, x3⟩ := R.el e inE
          exact ⟨b2, k3, by rw [← ee, e3], x3⟩
        · refine wp_if_neg (by decide) ?_
          try refine wpAny_bind (wpAny_pure ?_)
          exact onward
    · rw [spot_shift, Nat.add_sub_cancel' hc] at pr
      have pr2 : t.probe (fun i => (es[i]?.map (·.1)).getD 0) (tkh P w k) (stand.getD (t.probeStart (tkh P w k))) = some (.empty (spot t.mask (tkh P w k) K).j none) := by
        rw [st]
        exact pr
      rw [pr2]
      dsimp only
      exact wpAny_pure next

/-- the table grows -/
theorem relay_bag {o : Obj} (ho : s.heap.get? a = some o) (hex : o.ExactSet) (hd : o.data = .set es ep t) (T : TabOk t (es.toList.map (·.1))) (fit : es.size ≤ t.mask)
    (el : ∀ e ∈ es.toList, ∃ b k, e = (tkh P w k, Value.ref b) ∧ TupAt P w s.heap k b) (ld : w.params.followText "set-order" = true ∨ t.led = true) (few : es.size < 64) {n M : Nat}
    (hn1 : SetTable.sizeAbove n - 1 = M) (hM : MaskOk M) (hn2 : SetTable.sizeAbove n ≤ 128) (hn3 : es.size * 5 < M * 3) {Q : Unit → Shared → Prop}
    (next : ∀ h' es2 ep2 t2, Heap.SameBut a s.heap h' → Bag P w h' a es2 ep2 t2 → es2.toList.Perm es.toList → Q () { s with heap := h' }) : wpAny (model P w) A (setRelay a n) Q E s := by
  obtain ⟨t2, order, e, po, T2, m2, l2, _, _⟩ := relaid_ok t (hs := es.map (·.1)) (wanted := n) hn1 hM (by rw [Array.size_map]; omega)
  rw [Array.size_map] at po
  obtain ⟨r1, r2⟩ := reorder es order (·.1) po
  rw [← r2] at T2
  have z2 : (order.filterMap (es[·]?)).size = es.size := by
    have q := r1.length_eq
    rw [Array.length_toList, Array.length_toList] at q
    exact q
  rw [setRelay_eq]
  refine wpAny_bind (wpAny_setState_of ho hd (tab_fits T fit) ?_)
  dsimp only
  refine wp_if_neg (by rw [sizeLine_eq]; omega) ?_
  try refine wpAny_bind (wpAny_pure ?_)
  rw [e]
  dsimp only
  refine wpAny_bind ?_
  refine wp_if_neg (by rw [z2]; simp) ?_
  try refine wpAny_bind (wpAny_pure ?_)
  refine wpAny_pure ?_
  dsimp only
  refine wpAny_storeSet_of ho hd ?_ (by rw [z2, sizeLine_eq]; omega)
  have sb : Heap.SameBut a s.heap (s.heap.update a (Obj.putSet (order.filterMap (es[·]?)) t2)) := Heap.SameBut.update ..
  refine next _ (order.filterMap (es[·]?)) (ep + 1) t2 sb ⟨⟨_, store_at ho hd, ⟨hex.1, hex.2.1, hex.2.2⟩, rfl⟩, T2, fun e1 he => ?_, by rw [l2]; exact ld, by rw [z2, m2]; exact hn3, by rw [z2]; exact few⟩ r1
  obtain ⟨b, k, e3, x3⟩ := el e1 (r1.mem_iff.mp he)
  exact ⟨b, k, e3, x3.mono fun o2 q => (sb.2 b (x3.notSet ho hd)).trans q⟩

theorem tab_plain {hs : List Int} (T : TabOk t hs) : TabOk { t with plain := false } hs := ⟨T.ris, T.dm, T.sz, T.mok, T.bd, T.reach⟩

/-- a new tuple comes in -/
theorem add_new (R : Bag P w s.heap a es ep t) {x : Addr} {k : List Key} (hx : TupAt P w s.heap k x) (hu : A.units < cLine)
    (new : ∀ e ∈ es.toList, ∀ b k2, e = (tkh P w k2, Value.ref b) → TupAt P w s.heap k2 b → k2 ≠ k) (few : es.size + 1 < 64) {Q : Bool → Shared → Prop}
    (next : ∀ h' es2 ep2 t2, Heap.SameBut a s.heap h' → Bag P w h' a es2 ep2 t2 → es2.toList.Perm ((tkh P w k, Value.ref x) :: es.toList) → Q true { s with heap := h' }) :
    wpAny (model P w) A (setAddHashed a (.ref x) (tkh P w k)) Q E s := by
  obtain ⟨o, ho, hex, hd⟩ := R.ob
  have room := R.room
  have lh : (es.toList.map (·.1)).length = es.size := by rw [List.length_map, Array.length_toList]
  obtain ⟨K, hK1, hK2, hK3⟩ := R.tab.first (by rw [lh]; omega) (tkh P w k)
  have hK4 : K < 100000 := by
    have q : 10 * SetTable.turns t.mask ≤ 1420 := by
      unfold SetTable.turns
      rcases R.tab.mok with e | e | e <;> omega
    omega
  unfold setAddHashed
  refine wpAny_holding ?_
  rw [show (100000 : Nat) = 99999 + 1 from rfl, setAddHashedIn_succ]
  refine wpAny_bind (wpAny_setState_of ho hd R.fits ?_)
  dsimp only
  refine wp_if_neg (by simp [byScan, Value.scannable]) ?_
  try refine wpAny_bind (wpAny_pure ?_)
  unfold setSearch
  refine wpAny_bind (search_new R hx hu new hK1 hK2 hK3 ?_ 100000 0 none rfl (Nat.zero_le _) (by omega))
  dsimp only
  refine wpAny_bind (wpAny_setState_of ho hd R.fits ?_)
  dsimp only
  obtain ⟨q1, q2, q3, q4, q5, q6, q7, q8, q9⟩ := R.tab.put hK2 hK3
  rw [lh] at q2 q9
  generalize hput : t.put (spot t.mask (tkh P w k) K).j = pt at q1 q3 q4 q5 q6 q7 q8 q9 ⊢
  obtain ⟨t1, p⟩ := pt
  dsimp only at q1 q3 q4 q5 q6 q7 q8 q9 ⊢
  subst q1
  have goal2 : ∀ t2 : SetTable, t2 = t1 ∨ t2 = { t1 with plain := false } → wpAny (model P w) A (do
      storeSet a (SetTable.insertAt es (SetTable.below t.place (spot t.mask (tkh P w k) K).j) (tkh P w k, Value.ref x)) t2
      if (!false && t2.tooFull) = true then setRelay a (SetTable.grown (es.size + 1))
      return true) Q E s := fun t2 ht2 => by
    have T2 : TabOk t2 ((es.toList.map (·.1)).take (SetTable.below t.place (spot t.mask (tkh P w k) K).j) ++ tkh P w k :: (es.toList.map (·.1)).drop (SetTable.below t.place (spot t.mask (tkh P w k) K).j)) := by
      rcases ht2 with rfl | rfl
      · exact q3
      · exact tab_plain q3
    have m2 : t2.mask = t.mask := by rcases ht2 with rfl | rfl <;> exact q4
    have l2 : t2.led = t.led := by rcases ht2 with rfl | rfl <;> exact q5
    have f2 : t2.fill = es.size + 1 := by rcases ht2 with rfl | rfl <;> exact q9
    clear q3 q4 q5 q6 q7 q8 q9 ht2 hput
    generalize SetTable.below t.place (spot t.mask (tkh P w k) K).j = p at q2 T2 ⊢
    have i1 : (SetTable.insertAt es p (tkh P w k, Value.ref x)).toList = es.toList.take p ++ (tkh P w k, Value.ref x) :: es.toList.drop p := SetTable.toList_insertAt ..
    have pm : (SetTable.insertAt es p (tkh P w k, Value.ref x)).toList.Perm ((tkh P w k, Value.ref x) :: es.toList) := by
      rw [i1]
      exact put_perm _ _ _
    rw [← List.map_take, ← List.map_drop, ← List.map_cons (f := fun e : Int × Value => e.1) (a := (tkh P w k, Value.ref x)), ← List.map_append, ← i1] at T2
    generalize SetTable.insertAt es p (tkh P w k, Value.ref x) = es1 at pm T2 ⊢
    have z1 : es1.size = es.size + 1 := by
      have q := pm.length_eq
      rw [List.length_cons, Array.length_toList, Array.length_toList] at q
      exact q
    refine wpAny_bind (wpAny_storeSet_of ho hd ?_ (by rw [z1, sizeLine_eq]; omega))
    have sb : Heap.SameBut a s.heap (s.heap.update a (Obj.putSet es1 t2)) := Heap.SameBut.update ..
    have ho1 := store_at (es' := es1) (t' := t2) ho hd
    generalize s.heap.update a (Obj.putSet es1 t2) = h1 at sb ho1 ⊢
    have el1 : ∀ e ∈ es1.toList, ∃ b k, e = (tkh P w k, Value.ref b) ∧ TupAt P w h1 k b := fun e he => by
      rcases List.mem_cons.mp (pm.mem_iff.mp he) with q | q
      · exact ⟨x, k, q, hx.mono fun o2 z => (sb.2 x (hx.notSet ho hd)).trans z⟩
      · obtain ⟨b, k3, e3, x3⟩ := R.el e q
        exact ⟨b, k3, e3, x3.mono fun o2 z => (sb.2 b (x3.notSet ho hd)).trans z⟩
    have ld1 : w.params.followText "set-order" = true ∨ t2.led = true := by rw [l2]; exact R.led
    have full : t2.tooFull = decide ((es.size + 1) * 5 ≥ t.mask * 3) := by
      unfold SetTable.tooFull
      rw [f2, m2]
    by_cases hf : t2.tooFull = true
    · have big : (es.size + 1) * 5 ≥ t.mask * 3 := by
        rw [full, decide_eq_true_eq] at hf
        exact hf
      first
        | (refine wpAny_bind ?_; refine wp_if_pos (by simp [hf]) ?_)
        | (refine wp_if_pos (by simp [hf]) ?_; refine wpAny_bind ?_)
      have two : (t.mask = 7 ∧ es.size = 4) ∨ (t.mask = 31 ∧ es.size = 18) := by
        rcases R.tab.mok with e | e | e <;> rw [e] at big room <;> first | (exact .inl ⟨e, by omega⟩) | (exact .inr ⟨e, by omega⟩) | (exfalso; omega)
      have grow : ∀ M, SetTable.sizeAbove (SetTable.grown (es.size + 1)) - 1 = M → MaskOk M → SetTable.sizeAbove (SetTable.grown (es.size + 1)) ≤ 128 → (es.size + 1) * 5 < M * 3 →
          wpAny (model P w) A (setRelay a (SetTable.grown (es.size + 1))) (fun _ z => wpAny (model P w) A (pure true) Q E z) E { s with heap := h1 } := fun M c1 c2 c3 c4 => by
        refine relay_bag (s := { s with heap := h1 }) ho1 ⟨hex.1, hex.2.1, hex.2.2⟩ rfl T2 (by rw [m2, z1]; rcases two with ⟨e, e2⟩ | ⟨e, e2⟩ <;> omega) el1 ld1 (by rw [z1]; exact few) c1 c2 c3 (by rw [z1]; exact c4) ?_
        intro h2 es2 ep2 t3 sb2 R2 pm2
        exact wpAny_pure (next h2 es2 ep2 t3 (sb.trans sb2) R2 (pm2.trans pm))
      rcases two with ⟨_, e2⟩ | ⟨_, e2⟩
      · exact grow 31 (by rw [e2, size_20]) (.inr (.inl rfl)) (by rw [e2, size_20]; decide) (by omega)
      · exact grow 127 (by rw [e2, size_76]) (.inr (.inr rfl)) (by rw [e2, size_76]; decide) (by omega)
    · first
        | refine wp_if_neg (by simp [hf]) ?_
        | (refine wpAny_bind ?_; refine wp_if_neg (by simp [hf]) ?_; refine wpAny_pure ?_)
      refine wpAny_pure (next h1 es1 (ep + 1) t2 sb ⟨⟨_, ho1, ⟨hex.1, hex.2.1, hex.2.2⟩, rfl⟩, T2, el1, ld1, ?_, by rw [z1]; exact few⟩ pm)
      rw [full, decide_eq_true_eq] at hf
      rw [z1, m2]
      omega
  by_cases hp : t1.plain = true
  · first
      | (refine wpAny_bind ?_; refine wp_if_pos hp ?_; refine tup_hashBy hx fun y => ?_)
      | refine wp_if_pos hp (wpAny_bind (tup_hashBy hx fun y => ?_))
    cases y
    · exact goal2 _ (.inr rfl)
    · exact goal2 _ (.inl rfl)
  · first
      | (refine wpAny_bind ?_; refine wp_if_neg hp ?_; refine wpAny_pure ?_)
      | refine wp_if_neg hp (wpAny_bind (wpAny_pure ?_))
      | refine wp_if_neg hp ?_
    exact goal2 _ (.inl rfl)
end
end Q
set_option Elab.async false
set_option linter.all false
set_option maxRecDepth 100000
set_option maxHeartbeats 4000000
namespace Q
open PySem PySem.Spec PyProof.Rows L2
section
variable {P : Program} {w : World} {A : Around} {E : Value → Shared → Prop} {s : Shared}

/-- the loop that fills a set; J: what holds behind i items -/
theorem fill_loop {I : Addr} {fp wr : List Addr} {G : Array GenState → Array GenState → Prop} {n : Nat} {Pv : Nat → Value → Prop} {St : Nat → Shared → Prop} {R : Result → Shared → Prop}
    (W : WalksS P w A.in1 I fp wr G n Pv St) (S : Addr) (apart : S ∉ fp) (J : Nat → Heap → Prop)
    (moves : ∀ i h h', J i h → (∀ b o, b ∉ wr → h.get? b = some o → h'.get? b = some o) → J i h')
    (step : ∀ (E : Value → Shared → Prop) (i : Nat) (v : Value) (z : Shared) (Q : Bool → Shared → Prop), i < n → Pv i v → J i z.heap →
      (∀ b h' tk, z.toks ≤ tk → Heap.SameBut S z.heap h' → J (i + 1) h' → Q b { z with heap := h', toks := tk }) → wpAny (model P w) A.in1 (setAdd S v) Q E z) :
    ∀ (k i : Nat) (z : Shared), n - i = k → i ≤ n → St i z → J i z.heap → (∀ z', Moved (S :: wr) G z z' → J n z'.heap → R (.ok (.ret .none)) z') →
      codeAny (model P w) A (.builtin "set.update.loop" ⟨[.ref S, .ref I], []⟩) R z := by
  have wide : ∀ b ∈ wr, b ∈ S :: wr := fun _ q => List.mem_cons_of_mem _ q
  intro k
  induction k with
  | zero =>
    intro i z ek hi st j fin
    have ei : i = n := by omega
    subst ei
    refine codeAny_builtin F.entry_set_update_loop ?_
    rw [Around.under_plainId F.plain_set_update_loop _]
    show wpAny _ A.in1 (pyNext (.ref I) >>= _) _ _ z
    refine wpAny_bind (W.done z _ _ st fun z1 mv => ?_)
    show wpAny _ A.in1 (ret Value.none) _ _ z1
    exact wpAny_pure (fin z1 (mv.mono wide) (moves _ _ _ j fun b o nb q => mv.heap b o nb q))
  | succ k ih =>
    intro i z ek hi st j fin
    have lt : i < n := by omega
    refine codeAny_builtin F.entry_set_update_loop ?_
    rw [Around.under_plainId F.plain_set_update_loop _]
    show wpAny _ A.in1 (pyNext (.ref I) >>= _) _ _ z
    refine wpAny_bind (W.item i z _ _ lt st fun v z1 pv st1 mv => ?_)
    have j1 := moves _ _ _ j fun b o nb q => mv.heap b o nb q
    show wpAny _ A.in1 (holding [v] (setAdd S v) >>= _) _ _ z1
    refine wpAny_bind (wpAny_holding ?_)
    refine step _ i v z1 _ lt pv j1 fun b h' tk le sb j2 => ?_
    refine wpAny_pure ⟨plainId_quiet F.plain_set_update_loop _, ih (i + 1) _ (by omega) lt (W.frame _ z1 _ _ st1 le fun c hc o q => ?_) j2 fun z2 mv2 j3 => ?_⟩
    · rw [sb.2 c fun e : c = S => apart (by rw [← e]; exact hc)]
      exact q
    · refine fin z2 (Moved.trans W.gtrans ((mv.mono wide).then_heap le fun c o hc q => ?_) mv2) j3
      rw [sb.2 c fun e : c = S => hc (by rw [e]; exact List.mem_cons_self)]
      exact q

/-- a set of a list, by what each item's coming in does -/
theorem set_filled {l : Addr} {items : Array Value} {Q : Value → Shared → Prop} (J : Nat → Heap → Prop) (hh : A.handled = none) (hl : s.heap.IsList l items)
    (begin_ : J 0 (laidTwo w s.heap l))
    (moves : ∀ i h h', J i h → (∀ b o, b ≠ (s.heap.push (noneYet w)).objs.size → h.get? b = some o → h'.get? b = some o) → J i h')
    (step : ∀ (E : Value → Shared → Prop) (i : Nat) (v : Value) (z : Shared) (Q : Bool → Shared → Prop), i < items.size → items[i]? = some v → J i z.heap →
      (∀ b h' tk, z.toks ≤ tk → Heap.SameBut s.heap.objs.size z.heap h' → J (i + 1) h' → Q b { z with heap := h', toks := tk }) → wpAny (model P w) A.in1.in1.in1 (setAdd s.heap.objs.size v) Q E z)
    (next : ∀ (h' : Heap) (tk : Nat), (∀ b o, s.heap.get? b = some o → h'.get? b = some o) → J items.size h' → Q (.ref s.heap.objs.size) { s with heap := h', toks := tk }) :
    wpAny (model P w) A (call (.type "set") [.ref l]) Q E s := by
  obtain ⟨o, ho, hc, n, hd⟩ := id hl
  have ll : l < s.heap.objs.size := Heap.lt_size ho
  have z1 : (s.heap.push (noneYet w)).objs.size = s.heap.objs.size + 1 := Heap.size_push ..
  have lis1 : (s.heap.push (noneYet w)).IsList l items := ⟨o, Heap.get?_push_of_some _ ho, hc, n, hd⟩
  have h3 : A.in1.in1.in1.handled = none := by simp [hh]
  have nI : l ≠ (s.heap.push (noneYet w)).objs.size := by rw [z1]; exact Nat.ne_of_lt (Nat.lt_succ_of_lt ll)
  have apart : s.heap.objs.size ∉ [(s.heap.push (noneYet w)).objs.size, l] := by
    rw [z1]
    simp only [List.mem_cons, List.mem_singleton, List.not_mem_nil, or_false, not_or]
    exact ⟨Nat.ne_of_lt (Nat.lt_succ_self _), Nat.ne_of_gt ll⟩
  refine set_shell (fun h' => J items.size h' ∧ ∀ b o, s.heap.get? b = some o → h'.get? b = some o) hl ?_ fun h' tk q => next h' tk q.2 q.1
  refine fill_loop (A := A.in1.in1) (n := items.size) (Walks.list h3 (s.heap.push (noneYet w)).objs.size l nI items).toS s.heap.objs.size apart J
    (fun i h h' j k => moves i h h' j fun b o nb q => k b o (by simpa using nb) q) (fun E i v z Q lt pv j k => step E i v z Q lt pv j k)
    (items.size - 0) 0 _ rfl (Nat.zero_le _) ⟨⟨_, Heap.get?_push_size _ rfl, rfl, rfl⟩, lis1.push _⟩ begin_ fun z' mv j => ⟨rfl, mv.gens, mv.drawn, mv.os, j, fun b o q => ?_⟩
  have lb : b < s.heap.objs.size := Heap.lt_size q
  refine mv.heap b o ?_ (laid_old q)
  rw [z1]
  simp only [List.mem_cons, List.mem_singleton, List.not_mem_nil, or_false, not_or]
  exact ⟨Nat.ne_of_lt lb, Nat.ne_of_lt (Nat.lt_succ_of_lt lb)⟩
end
end Q
set_option Elab.async false
set_option linter.all false
set_option maxRecDepth 100000
set_option maxHeartbeats 4000000
namespace Q
open PySem PySem.Spec PyProof.Rows L2 PySem.Froz
section
variable {P : Program} {w : World} {A : Around} {E : Value → Shared → Prop} {s : Shared}

theorem addTx_more {D : SD} {x : Int} {v : Value} (r : Ris D.2.2.place.toList) :
    Ris (addTx x v D).2.2.place.toList ∧ (addTx x v D).2.2.led = D.2.2.led ∧ (addTx x v D).1.toList.Perm ((x, v) :: D.1.toList) := by
  have r1 := layNew_ris D.2.2 D.1 x v r
  have l1 := layNew_led D.2.2 D.1 x v
  have p1 := layNew_perm D.2.2 D.1 x v
  rw [Array.toList_push] at p1
  have p2 := p1.trans (List.perm_append_singleton _ _)
  unfold addTx tailTx
  generalize hT : (if (layNew D.2.2 D.1 x v).2.1.plain = true then { (layNew D.2.2 D.1 x v).2.1 with plain := false } else (layNew D.2.2 D.1 x v).2.1) = T
  have rT : Ris T.place.toList := by rw [← hT]; split <;> exact r1
  have lT : T.led = D.2.2.led := by rw [← hT]; split <;> exact l1
  split
  · exact ⟨relayAll_ris _ _ _, (relayAll_led _ _ _).trans lT, (relayAll_perm _ _ _).trans p2⟩
  · exact ⟨rT, lT, p2⟩

/-- behind i texts -/
def TxtJ (P : Program) (w : World) (S : Addr) (items : List Value) (ys : List Str) (i : Nat) (h : Heap) : Prop :=
  ∃ D : SD, h.get? S = some (sObj "set" D) ∧ TxOk P w D (ys.take i).reverse ∧ Ris D.2.2.place.toList ∧ (w.params.followText "set-order" = true ∨ D.2.2.led = true) ∧
    (D.1.toList.map (·.2)).Perm (items.take i)

theorem strs_get {vs : List Value} {ys : List Str} (r : StrsAre vs ys) : ∀ {i : Nat} {v : Value}, vs[i]? = some v → ∃ y t, ys[i]? = some y ∧ v = .str y t := by
  induction r with
  | nil => intro i v h; simp at h
  | cons y t _ ih =>
    intro i v h
    cases i with
    | zero =>
      simp at h
      exact ⟨y, t, rfl, h.symm⟩
    | succ i =>
      simp only [List.getElem?_cons_succ] at h ⊢
      exact ih h
theorem not_taken {ys : List Str} (nd : ys.Nodup) {i : Nat} {y : Str} (h : ys[i]? = some y) : y ∉ (ys.take i).reverse := by
  rw [List.mem_reverse]
  intro hm
  obtain ⟨j, hj, e⟩ := List.getElem_of_mem hm
  rw [List.length_take] at hj
  rw [List.getElem_take] at e
  obtain ⟨hi, ei⟩ := List.getElem?_eq_some_iff.mp h
  exact List.pairwise_iff_getElem.mp nd j i (by omega) hi (by omega) (by rw [e, ei])

theorem set_texts {l : Addr} {items : Array Value} {ys : List Str} {Q : Value → Shared → Prop} (hh : A.handled = none) (hl : s.heap.IsList l items) (r : StrsAre items.toList ys) (nd : ys.Nodup) (few : ys.length < 4000)
    (next : ∀ (h' : Heap) (tk : Nat), (∀ b o, s.heap.get? b = some o → h'.get? b = some o) → Members w h' s.heap.objs.size items.toList → Q (.ref s.heap.objs.size) { s with heap := h', toks := tk }) :
    wpAny (model P w) A (call (.type "set") [.ref l]) Q E s := by
  have ly : items.size = ys.length := by rw [← StrsAre.len_eq r, Array.length_toList]
  refine set_filled (TxtJ P w s.heap.objs.size items.toList ys) hh hl ?_ (fun i h h' j k => ?_) (fun E i v z Q lt pv j k => ?_) fun h' tk kp j => ?_
  · refine ⟨(#[], 0, .fresh 0 0 (!w.params.followText "set-order")), laid_set _ _, TxOk.nil (by rfl), List.Pairwise.nil, ?_, .nil⟩
    show _ ∨ (!w.params.followText "set-order") = true
    cases w.params.followText "set-order"
    · exact .inr rfl
    · exact .inl rfl
  · obtain ⟨D, e, rest⟩ := j
    refine ⟨D, k _ _ ?_ e, rest⟩
    rw [Heap.size_push]
    exact Nat.ne_of_lt (Nat.lt_succ_self _)
  · obtain ⟨D, e, tx, ri, ld, pm⟩ := j
    obtain ⟨y, t, ey, rfl⟩ := strs_get r (i := i) (v := v) (by rw [Array.getElem?_toList]; exact pv)
    unfold setAdd
    refine wpAny_holding ?_
    refine wpAny_bind ((PySem.strKind P w).pyHash (k := y) (is_str y t) ?_)
    have fresh := not_taken nd ey
    have lt2 : (ys.take i).reverse.length + 1 < scanBound := by
      rw [List.length_reverse, List.length_take]
      show _ < 4096
      omega
    refine add_x (s := { z with toks := z.toks + 1 }) e tx fresh lt2 (k true _ _ (Nat.le_succ _) (Heap.SameBut.update ..) ?_)
    obtain ⟨m1, m2, m3⟩ := addTx_more (x := hashStr w y) (v := .str y t) ri
    refine ⟨addTx (hashStr w y) (.str y t) D, get_upd _ e rfl, ?_, m1, by rw [m2]; exact ld, ?_⟩
    · have q := add_ok t tx (k := y)
      have e2 : (ys.take (i + 1)).reverse = y :: (ys.take i).reverse := by
        rw [List.take_add_one, ey]
        simp
      rw [e2]
      exact q
    · have e3 : items.toList.take (i + 1) = items.toList.take i ++ [.str y t] := by
        rw [List.take_add_one, Array.getElem?_toList, pv]
        rfl
      rw [e3]
      exact ((m3.map (·.2)).trans (List.Perm.cons _ pm)).trans (List.perm_append_singleton _ _).symm
  · obtain ⟨D, e, tx, ri, ld, pm⟩ := j
    have el : items.toList.take items.size = items.toList := List.take_of_length_le (by rw [Array.length_toList]; exact Nat.le_refl _)
    rw [el] at pm
    refine next h' tk kp ⟨D.1, D.2.1, D.2.2, ⟨_, e, rfl, rfl⟩, pm, tx.fit, ?_, ri, ld⟩
    have q := tx.sz
    rw [List.length_reverse, List.length_take] at q
    show _ < 4096
    omega

/-- behind i tuples -/
def TupJ (P : Program) (w : World) (S : Addr) (h0 : Heap) (ks : List (Addr × List Key)) (i : Nat) (h : Heap) : Prop :=
  (∀ b o, h0.get? b = some o → h.get? b = some o) ∧ ∃ es ep t, Bag P w h S es ep t ∧ es.toList.Perm ((ks.take i).map fun p => (tkh P w p.2, Value.ref p.1))

theorem set_tups {l : Addr} {items : Array Value} {ks : List (Addr × List Key)} {Q : Value → Shared → Prop} (hh : A.handled = none) (hu : A.units + 3 < cLine) (hl : s.heap.IsList l items)
    (it : items.toList = ks.map fun p => Value.ref p.1) (tp : ∀ p ∈ ks, TupAt P w s.heap p.2 p.1) (nd : (ks.map (·.2)).Nodup) (few : ks.length < 64)
    (next : ∀ (h' : Heap) (tk : Nat), (∀ b o, s.heap.get? b = some o → h'.get? b = some o) → Members w h' s.heap.objs.size items.toList → Q (.ref s.heap.objs.size) { s with heap := h', toks := tk }) :
    wpAny (model P w) A (call (.type "set") [.ref l]) Q E s := by
  have lk : items.size = ks.length := by rw [← Array.length_toList, it, List.length_map]
  have none_ : ∀ b, s.heap.objs.size ≤ b → ∀ c o, s.heap.get? c = some o → c ≠ b := fun b hb c o q e => by
    have lt := Heap.lt_size q
    rw [e] at lt
    exact absurd (Nat.lt_of_lt_of_le lt hb) (Nat.lt_irrefl _)
  refine set_filled (TupJ P w s.heap.objs.size s.heap ks) hh hl ?_ (fun i h h' j k => ?_) (fun E i v z Q lt pv j k => ?_) fun h' tk kp j => ?_
  · refine ⟨fun b o q => laid_old q, #[], 0, .fresh 0 0 (!w.params.followText "set-order"), ⟨⟨_, laid_set _ _, ⟨rfl, rfl, rfl⟩, rfl⟩, ?_, fun e he => (by cases he), ?_, ?_, ?_⟩, .nil⟩
    · exact ⟨List.Pairwise.nil, rfl, rfl, .inl rfl, fun x hx => (by cases hx), fun i x j hi => (by simp at hi)⟩
    · show _ ∨ (!w.params.followText "set-order") = true
      cases w.params.followText "set-order"
      · exact .inr rfl
      · exact .inl rfl
    · show 0 * 5 < 7 * 3
      decide
    · show 0 < 64
      decide
  · obtain ⟨old, es, ep, t, B, pm⟩ := j
    have kb : ∀ b o, s.heap.get? b = some o → h'.get? b = some o := fun b o q => k b o (none_ _ (by rw [Heap.size_push]; exact Nat.le_succ _) b o q) (old b o q)
    obtain ⟨o, ho, rest⟩ := B.ob
    refine ⟨kb, es, ep, t, ⟨⟨o, k _ _ ?_ ho, rest⟩, B.tab, fun e he => ?_, B.led, B.room, B.few⟩, pm⟩
    · rw [Heap.size_push]
      exact Nat.ne_of_lt (Nat.lt_succ_self _)
    · obtain ⟨p, hp, ep⟩ := List.mem_map.mp (pm.mem_iff.mp he)
      exact ⟨p.1, p.2, ep.symm, (tp p (List.mem_of_mem_take hp)).mono fun o q => kb _ o q⟩
  · obtain ⟨old, es, ep, t, B, pm⟩ := j
    have sz : es.size = i := by
      have q := pm.length_eq
      rw [List.length_map, List.length_take, Array.length_toList] at q
      omega
    have hi : i < ks.length := by omega
    have ev : v = .ref ks[i].1 := by
      have q : items.toList[i]? = some v := by rw [Array.getElem?_toList]; exact pv
      rw [it, List.getElem?_map, List.getElem?_eq_getElem hi] at q
      exact (Option.some.inj q).symm
    have eg : ks[i]? = some ks[i] := List.getElem?_eq_getElem hi
    have hm : ks[i] ∈ ks := List.getElem_mem hi
    generalize ks[i] = p at ev eg hm
    subst ev
    have xp : TupAt P w z.heap p.2 p.1 := (tp p hm).mono fun o q => old _ o q
    unfold setAdd
    refine wpAny_holding ?_
    have hu3 : A.in1.in1.in1.in1.units ≤ A.units + 4 := Nat.le_refl _
    refine wpAny_bind (wpAny_pyHash_tuple (by show A.units + 3 < cLine; exact hu) xp ?_)
    refine add_new (s := { z with toks := z.toks + (p.2.length + 1) }) B xp (by show A.units + 3 < cLine; exact hu) (fun e he b k2 ee xb => ?_) (by omega) fun h' es2 ep2 t2 sb B2 pm2 => ?_
    · obtain ⟨p2, hp2, e2⟩ := List.mem_map.mp (pm.mem_iff.mp he)
      rw [ee] at e2
      injection e2 with _ e3
      injection e3 with e3
      have x2 : TupAt P w z.heap p2.2 p2.1 := (tp p2 (List.mem_of_mem_take hp2)).mono fun o q => old _ o q
      rw [e3] at x2
      have ek : k2 = p2.2 := xb.inj x2
      rw [ek]
      intro same
      obtain ⟨j, hj, ej⟩ := List.getElem_of_mem hp2
      rw [List.length_take] at hj
      rw [List.getElem_take] at ej
      have e4 : ks[i] = p := by
        rw [List.getElem?_eq_getElem hi] at eg
        exact Option.some.inj eg
      exact List.pairwise_iff_getElem.mp nd j i (by rw [List.length_map]; omega) (by rw [List.length_map]; omega) (by omega) (by simp [ej, e4, same])
    · refine k true h' _ (Nat.le_add_right _ _) sb ⟨fun b o q => ?_, es2, ep2, t2, B2, ?_⟩
      · rw [sb.2 b (none_ _ (Nat.le_refl _) b o q)]
        exact old b o q
      · have e3 : ks.take (i + 1) = ks.take i ++ [p] := by
          rw [List.take_add_one, eg]
          rfl
        rw [e3, List.map_append]
        exact (pm2.trans (List.Perm.cons _ pm)).trans (List.perm_append_singleton _ _).symm
  · obtain ⟨old, es, ep, t, B, pm⟩ := j
    have el : ks.take items.size = ks := List.take_of_length_le (by omega)
    rw [el] at pm
    obtain ⟨o, ho, hx, hd⟩ := B.ob
    refine next h' tk kp ⟨es, ep, t, ⟨o, ho, hx.1, hd⟩, ?_, tab_fits B.tab (by have := B.room; omega), ?_, B.tab.ris, B.led⟩
    · have q := pm.map (·.2)
      rw [List.map_map] at q
      rw [it]
      exact q
    · have q := B.few
      show _ < 4096
      omega
end
end Q
set_option Elab.async false
set_option linter.all false
set_option maxRecDepth 100000
set_option maxHeartbeats 4000000
namespace Q
open PySem PySem.Spec PyProof.Rows L2 PySem.W

/-! the order of texts and of tuples of texts and numbers -/
abbrev tLe (x y : Str) : Prop := x.cps.toList ≤ y.cps.toList
abbrev tLt (x y : Str) : Prop := x.cps.toList < y.cps.toList
theorem str_ext {x y : Str} (h : x.cps.toList = y.cps.toList) : x = y := by
  cases x
  cases y
  congr
  exact Array.ext' h
theorem tLe_lt {x y : Str} (h : tLe x y) (ne : x ≠ y) : tLt x y := by
  rcases Classical.em (tLt x y) with q | q
  · exact q
  · exact absurd (str_ext (List.le_antisymm h (List.not_lt.mp q))) ne

def kD : Key → PyData
  | .inl i => .int i
  | .inr x => .str x
def kLt : Key → Key → Bool
  | .inl i, .inl j => decide (i < j)
  | .inr x, .inr y => decide (tLt x y)
  | _, _ => false
def ksLt : List Key → List Key → Bool
  | a :: as, b :: bs => if a = b then ksLt as bs else kLt a b
  | _, _ => false
abbrev shape (ks : List Key) : List Bool := ks.map Sum.isLeft

theorem kD_alike : ∀ {a b : Key}, a.isLeft = b.isLeft → alike (kD a) (kD b) = true
  | .inl _, .inl _, _ => by simp [kD, alike]
  | .inr _, .inr _, _ => by simp [kD, alike]
theorem kD_eqv : ∀ {a b : Key}, a.isLeft = b.isLeft → (PyData.eqv (kD a) (kD b) = true ↔ a = b)
  | .inl i, .inl j, _ => by simp [kD, PyData.eqv]
  | .inr x, .inr y, _ => by simp [kD, PyData.eqv]
theorem kD_lt : ∀ {a b : Key}, a.isLeft = b.isLeft → dataLt (kD a) (kD b) = kLt a b
  | .inl i, .inl j, _ => by simp only [kD, kLt]; exact dataLt_int i j
  | .inr x, .inr y, _ => by simp only [kD, kLt]; exact dataLt_str x y
theorem alikeAll_keys : ∀ {ks ls : List Key}, shape ks = shape ls → alikeAll (ks.map kD) (ls.map kD) = true
  | [], [], _ => by simp [alikeAll]
  | a :: ks, b :: ls, h => by
    simp only [shape, List.map_cons, List.cons.injEq] at h
    simp only [List.map_cons]
    rw [alikeAll, alikeAll_keys h.2, kD_alike h.1]
    rfl
theorem tup_lt : ∀ {ks ls : List Key}, shape ks = shape ls → dataLt (.tuple (ks.map kD)) (.tuple (ls.map kD)) = ksLt ks ls := by
  have main : ∀ {ks ls : List Key}, shape ks = shape ls → lexLt itemOrd (keyToksAll (ks.map kD)) (keyToksAll (ls.map kD)) = ksLt ks ls := by
    intro ks
    induction ks with
    | nil =>
      intro ls h
      cases ls with
      | nil => exact lex_irrefl _
      | cons b ls => cases h
    | cons a ks ih =>
      intro ls h
      cases ls with
      | nil => cases h
      | cons b ls =>
        simp only [shape, List.map_cons, List.cons.injEq] at h
        rw [List.map_cons, List.map_cons, dataLt_cons (kD_alike h.1), ih h.2, kD_lt h.1]
        unfold ksLt
        by_cases e : a = b
        · rw [if_pos ((kD_eqv h.1).2 e), if_pos e]
          cases ks <;> cases ls <;> rfl
        · rw [if_neg (fun q => e ((kD_eqv h.1).1 q)), if_neg e]
  intro ks ls h
  rw [dataLt_tuple]
  exact main h
theorem kLt_total : ∀ {a b : Key}, a.isLeft = b.isLeft → a ≠ b → kLt b a = false → kLt a b = true
  | .inl i, .inl j, _, ne, h => by
    simp only [kLt, decide_eq_false_iff_not, decide_eq_true_eq] at h ⊢
    have : i ≠ j := fun e => ne (by rw [e])
    omega
  | .inr x, .inr y, _, ne, h => by
    simp only [kLt, decide_eq_false_iff_not, decide_eq_true_eq] at h ⊢
    exact tLe_lt (List.not_lt.mp h) fun e => ne (by rw [e])
theorem ksLt_total : ∀ {ks ls : List Key}, shape ks = shape ls → ks ≠ ls → ksLt ls ks = false → ksLt ks ls = true
  | [], [], _, ne, _ => absurd rfl ne
  | a :: ks, b :: ls, h, ne, q => by
    simp only [shape, List.map_cons, List.cons.injEq] at h
    unfold ksLt at q ⊢
    by_cases e : a = b
    · subst e
      rw [if_pos rfl] at q ⊢
      exact ksLt_total h.2 (fun z => ne (by rw [z])) q
    · rw [if_neg (Ne.symm e)] at q
      rw [if_neg e]
      exact kLt_total h.1 e q
theorem depth_keys : ∀ ks : List Key, PyData.depthAll (ks.map kD) = 0
  | [] => by simp [PyData.depthAll]
  | .inl i :: ks => by
    rw [List.map_cons, PyData.depthAll, depth_keys ks]
    simp [kD, PyData.depth]
  | .inr x :: ks => by
    rw [List.map_cons, PyData.depthAll, depth_keys ks]
    simp [kD, PyData.depth]

/-! as rules -/
def SetM (w : World) (a : Addr) (us : List Value) : HO := .ext fun h => Members w h a us
section
variable {X : Cx} {pins : List (Addr × Obj)} {σ : L2.St} {H : Hp} {s : Shared}
theorem setM_new {P : Program} {w : World} {H : Hp} {h : Heap} {a : Addr} {us : List Value} (m : Members w h a us) : ObjOk P w H h a (SetM w a us) := ⟨m, m.ob, fun _ _ p k => Members.at p k⟩

/-- set(xs), xs a list of unlike texts -/
def rSetTx (K : PySem.W.Frag) (w : World) : List V → Hp → VK → Prop := fun xs H Q => ∃ (l : Addr) (ys : List Str), xs = [V.ref l] ∧ SqL K H l (ys.map V.str) ∧ ys.Nodup ∧ ys.length < 4000 ∧
  ∀ a us, Vals (ys.map V.str) us → H a = none → Q (.ref a) (upd H a (SetM w a us))
theorem cr_setTx (hc : X.calm = true) : CallR X (.type "set") (rSetTx X.K X.w) := by
  intro pins s σ H xs us Q I r h
  obtain ⟨l, ys, rfl, hl, nd, few, q⟩ := h
  rw [Vals.ref1 r]
  obtain ⟨its, rv, pl, _⟩ := I.list hl
  refine set_texts (P := X.prog) (w := X.w) (items := its.toArray) (I.ok.hd hc) pl.isList (strsAre_of rv) nd few fun h' tk kp m => ?_
  exact ⟨.ref s.heap.objs.size, _, I.laid (t' := tk) kp (Nat.le_refl _) (setM_new m), rfl, q _ _ rv (I.hok.fresh (Nat.le_refl _))⟩

/-- set(xs), xs a list of unlike tuples of texts and numbers -/
def rSetTu (K : PySem.W.Frag) (w : World) : List V → Hp → VK → Prop := fun xs H Q => ∃ (l : Addr) (ks : List (Addr × List Key)), xs = [V.ref l] ∧ SqL K H l (ks.map fun p => V.ref p.1) ∧
  (∀ p ∈ ks, SqT K H p.1 (p.2.map kV)) ∧ (ks.map (·.2)).Nodup ∧ ks.length < 64 ∧ ∀ a, H a = none → Q (.ref a) (upd H a (SetM w a (ks.map fun p => Value.ref p.1)))
theorem items_keys {P : Program} {w : World} : ∀ {k : List Key} {us : List Value}, Vals (k.map kV) us → ItemsAre (mixKind P w) k us
  | [], _, .nil => .nil
  | .inl i :: k, _, .cons r t => by
    obtain ⟨tk, rfl⟩ := r
    exact .cons (mixKind_int P w i tk) (items_keys t)
  | .inr x :: k, _, .cons r t => by
    obtain ⟨tk, rfl⟩ := r
    exact .cons (mixKind_str P w x tk) (items_keys t)
theorem vals_rows : ∀ {ks : List (Addr × List Key)} {us : List Value}, Vals (ks.map fun p => V.ref p.1) us → us = ks.map fun p => Value.ref p.1
  | [], _, .nil => rfl
  | _ :: ks, _, .cons r t => by
    cases r
    rw [vals_rows t, List.map_cons]
theorem rows_vals : ∀ (ks : List (Addr × List Key)), Vals (ks.map fun p => V.ref p.1) (ks.map fun p => Value.ref p.1)
  | [] => .nil
  | _ :: ks => .cons rfl (rows_vals ks)
theorem tupAt_of (I : Inv X pins σ H s) {b : Addr} {k : List Key} (h : SqT X.K H b (k.map kV)) : TupAt X.prog X.w s.heap k b := by
  obtain ⟨its, r, ⟨o, ho, hc, n, hd⟩, _⟩ := I.tuple h
  exact ⟨o, its.toArray, n, ho, hc, hd, by simpa using items_keys r⟩
theorem cr_setTu (hc : X.calm = true) (hu : X.A.units + 3 < cLine) : CallR X (.type "set") (rSetTu X.K X.w) := by
  intro pins s σ H xs us Q I r h
  obtain ⟨l, ks, rfl, hl, hk, nd, few, q⟩ := h
  rw [Vals.ref1 r]
  obtain ⟨its, rv, pl, _⟩ := I.list hl
  have ei := vals_rows rv
  refine set_tups (P := X.prog) (w := X.w) (items := its.toArray) (ks := ks) (I.ok.hd hc) hu pl.isList (by simpa using ei) (fun p hp => tupAt_of I (hk p hp)) nd few fun h' tk kp m => ?_
  rw [List.toList_toArray, ei] at m
  exact ⟨.ref s.heap.objs.size, _, I.laid (t' := tk) kp (Nat.le_refl _) (setM_new m), rfl, q _ (I.hok.fresh (Nat.le_refl _))⟩

theorem back_same {s z : Shared} (o : z.os = s.os) : z = { s with heap := z.heap, gens := z.gens, drawn := z.drawn, toks := z.toks } := by
  cases z
  cases s
  cases o
  rfl
theorem laid_list (I : Inv X pins σ H s) {z : Shared} {p : Addr} {xs : List V} {out : Array Value} {c : Nat} (kp : ∀ b o, s.heap.get? b = some o → z.heap.get? b = some o) (g : z.gens = s.gens) (o : z.os = s.os) (le : s.heap.objs.size ≤ p)
    (e : z.heap.get? p = some (seqObj "list" out c)) (r : Vals xs out.toList) (few : xs.length ≤ sizeLine) : Inv X pins σ (upd H p (.lst xs)) z := by
  rw [back_same o]
  exact I.call (ch := []) (Un.laid kp le (I.hok.fresh le)) (I.hok.laid kp le ⟨few, out.toList, c, r, e⟩) (by rw [g]; exact I.bare) fun _ q => nomatch q

theorem each_txt {us : List Value} : ∀ {ys : List Str}, Vals (ys.map V.str) us → EachIs (fun v y => (∃ t, v = Value.str y t) ∧ Reads s.heap v (PyData.str y) []) us ys := by
  induction us with
  | nil =>
    intro ys r
    cases ys with
    | nil => exact .nil
    | cons _ _ => cases r
  | cons u us ih =>
    intro ys r
    cases ys with
    | nil => cases r
    | cons y ys =>
      cases r with
      | cons r1 r2 =>
        obtain ⟨t, rfl⟩ := r1
        exact .cons ⟨⟨t, rfl⟩, .str y t⟩ (ih r2)
theorem txt_each {us : List Value} {ys : List Str} (e : EachIs (fun v y => ∃ t, v = Value.str y t) us ys) : Vals (ys.map V.str) us := by
  induction e with
  | nil => exact .nil
  | cons h _ ih =>
    obtain ⟨t, rfl⟩ := h
    exact .cons ⟨t, rfl⟩ ih

/-- sorted(a set of texts) -/
def rSortTx (w : World) : List V → Hp → VK → Prop := fun xs H Q => ∃ (a : Addr) (us : List Value) (ys : List Str), xs = [V.ref a] ∧ H a = some (SetM w a us) ∧ Vals (ys.map V.str) us ∧ ys.Nodup ∧ ys.length < 4000 ∧
  ∀ (p : Addr) (zs : List Str), zs.Perm ys → zs.Pairwise tLt → H p = none → Q (.ref p) (upd H p (.lst (zs.map V.str)))
theorem cr_sortTx (hc : X.calm = true) (hu : X.A.units + 2 < cLine) : CallR X (.builtin "sorted") (rSortTx X.w) := by
  intro pins s σ H xs us0 Q I r h
  obtain ⟨a, us, ys, rfl, ha, rv, nd, few, q⟩ := h
  rw [Vals.ref1 r]
  have m : Members X.w s.heap a us := (I.hok a _ ha).1
  refine sorted_members (P := X.prog) (enc := PyData.str) m (I.ok.hd hc) (each_txt rv) (fun cs _ => AllAlike.of fun _ _ => by simp [alike]) (fun cs _ => Sortable.others fun _ => ⟨by simp, by simp⟩) (fun b _ => by simpa [PyData.depth] using hu)
    fun z p out c cs kp g o le e pc eo => ?_
  have pz : (cs.mergeSort (dataLe false PyData.str)).Perm ys := (List.mergeSort_perm cs _).trans pc
  have pw : (cs.mergeSort (dataLe false PyData.str)).Pairwise tLt := by
    have w1 := sort_pairwise (sortLe_total (listOrd itemOrd) false fun b : Str => keyToks (PyData.str b)) cs
    have nd2 := pz.nodup_iff.mpr nd
    refine (List.Pairwise.and w1 nd2).imp fun {x y} h => ?_
    have e1 : dataLe false (fun b : Str => PyData.str b) x y = true := h.1
    rw [dataLe_str] at e1
    exact tLe_lt (of_decide_eq_true e1) h.2
  have few2 : ((cs.mergeSort (dataLe false PyData.str)).map V.str).length ≤ sizeLine := by
    rw [List.length_map, pz.length_eq, sizeLine_eq]
    omega
  exact ⟨.ref p, _, laid_list I kp g o le e (txt_each eo) few2, rfl, q p _ pz pw (I.hok.fresh le)⟩

theorem reads_keys {h : Heap} {P : Program} {w : World} {k : List Key} {us : List Value} (r : ItemsAre (mixKind P w) k us) : ReadsAll h us (k.map kD) [] := by
  induction r with
  | nil => exact .nil
  | @cons k0 v ks vs h1 _ ih =>
    rcases keyIs_shape h1 with ⟨i, t, rfl, rfl⟩ | ⟨x, t, rfl, rfl⟩
    · exact .cons (as := []) (.int i t) ih
    · exact .cons (as := []) (.str x t) ih
theorem TupAt.reads {P : Program} {w : World} {h : Heap} {k : List Key} {b : Addr} (x : TupAt P w h k b) : Reads h (.ref b) (.tuple (k.map kD)) [] := by
  obtain ⟨o, its, n, q, c, d, r⟩ := x
  exact .tuple q c d (reads_keys r)
theorem each_rows {P : Program} {w : World} {h : Heap} : ∀ {ks : List (Addr × List Key)}, (∀ p ∈ ks, TupAt P w h p.2 p.1) →
    EachIs (fun v p => v = Value.ref p.1 ∧ Reads h v (.tuple (p.2.map kD)) []) (ks.map fun p => Value.ref p.1) ks
  | [], _ => .nil
  | p :: ks, x => .cons ⟨rfl, (x p List.mem_cons_self).reads⟩ (each_rows fun q hq => x q (List.mem_cons_of_mem _ hq))
theorem rows_each {us : List Value} {ks : List (Addr × List Key)} (e : EachIs (fun v p => v = Value.ref p.1) us ks) : us = ks.map fun p => Value.ref p.1 := by
  induction e with
  | nil => rfl
  | cons h _ ih => rw [h, ih, List.map_cons]

/-- sorted(a set of tuples of texts and numbers, all of one shape) -/
def rSortTu (K : PySem.W.Frag) (w : World) : List V → Hp → VK → Prop := fun xs H Q => ∃ (a : Addr) (ks : List (Addr × List Key)) (sh : List Bool), xs = [V.ref a] ∧ H a = some (SetM w a (ks.map fun p => Value.ref p.1)) ∧
  (∀ p ∈ ks, SqT K H p.1 (p.2.map kV)) ∧ (∀ p ∈ ks, shape p.2 = sh) ∧ sh ≠ [] ∧ (ks.map (·.2)).Nodup ∧ ks.length < 4000 ∧
  ∀ (p : Addr) (zs : List (Addr × List Key)), zs.Perm ks → zs.Pairwise (fun x y => ksLt x.2 y.2 = true) → H p = none → Q (.ref p) (upd H p (.lst (zs.map fun q => V.ref q.1)))
theorem cr_sortTu (hc : X.calm = true) (hu : X.A.units + 3 < cLine) : CallR X (.builtin "sorted") (rSortTu X.K X.w) := by
  intro pins s σ H xs us0 Q I r h
  obtain ⟨a, ks, sh, rfl, ha, hk, hs, ne, nd, few, q⟩ := h
  rw [Vals.ref1 r]
  have m : Members X.w s.heap a (ks.map fun p => Value.ref p.1) := (I.hok a _ ha).1
  refine sorted_members (P := X.prog) (R := fun v p => v = Value.ref p.1) (enc := fun p : Addr × List Key => PyData.tuple (p.2.map kD)) m (I.ok.hd hc) (each_rows fun p hp => tupAt_of I (hk p hp)) (fun cs pc => ?_) (fun cs pc => ?_) (fun b _ => ?_)
    fun z p out c cs kp g o le e pc eo => ?_
  · intro d hd d' hd'
    obtain ⟨p, hp, rfl⟩ := List.mem_map.mp hd
    obtain ⟨p', hp', rfl⟩ := List.mem_map.mp hd'
    have e : shape p.2 = shape p'.2 := (hs p (pc.mem_iff.mp hp)).trans (hs p' (pc.mem_iff.mp hp')).symm
    simpa [alike] using alikeAll_keys e
  · refine .inl fun d hd => ?_
    obtain ⟨p, hp, rfl⟩ := List.mem_map.mp hd
    have e := hs p (pc.mem_iff.mp hp)
    cases hq : p.2 with
    | nil =>
      rw [hq] at e
      exact absurd e.symm ne
    | cons k0 r0 => exact ⟨_, _, by rw [List.map_cons]⟩
  · have e : (PyData.tuple (b.2.map kD)).depth ≤ 1 := by
      simp [PyData.depth, depth_keys]
    show X.A.units + 2 + (PyData.tuple (b.2.map kD)).depth < cLine
    omega
  · have pz : (cs.mergeSort (dataLe false fun p : Addr × List Key => PyData.tuple (p.2.map kD))).Perm ks := (List.mergeSort_perm cs _).trans pc
    have pw : (cs.mergeSort (dataLe false fun p : Addr × List Key => PyData.tuple (p.2.map kD))).Pairwise fun x y => ksLt x.2 y.2 = true := by
      have w1 := sort_pairwise (sortLe_total (listOrd itemOrd) false fun p : Addr × List Key => keyToks (PyData.tuple (p.2.map kD))) cs
      have nd2 : ((cs.mergeSort (dataLe false fun p : Addr × List Key => PyData.tuple (p.2.map kD))).map (·.2)).Nodup := (pz.map (·.2)).nodup_iff.mpr nd
      have nd3 := List.pairwise_map.mp nd2
      refine List.Pairwise.imp_of_mem (fun {x y} hx hy h => ?_) (List.Pairwise.and w1 nd3)
      have se : shape x.2 = shape y.2 := (hs x (pz.mem_iff.mp hx)).trans (hs y (pz.mem_iff.mp hy)).symm
      have e1 : (!dataLt (.tuple (y.2.map kD)) (.tuple (x.2.map kD))) = true := h.1
      rw [tup_lt se.symm, Bool.not_eq_true'] at e1
      exact ksLt_total se h.2 e1
    generalize cs.mergeSort (dataLe false fun p : Addr × List Key => PyData.tuple (p.2.map kD)) = zs at pz pw eo
    have few2 : (zs.map fun q => V.ref q.1).length ≤ sizeLine := by
      rw [List.length_map, pz.length_eq, sizeLine_eq]
      omega
    have rv : Vals (zs.map fun q => V.ref q.1) out.toList := by
      rw [rows_each eo]
      exact rows_vals zs
    exact ⟨.ref p, _, laid_list I kp g o le e rv few2, rfl, q p zs pz pw (I.hok.fresh le)⟩
end
end Q
set_option Elab.async false
set_option linter.all false
set_option maxRecDepth 100000
set_option maxHeartbeats 4000000
namespace Q
open PySem PySem.Spec PyProof.Rows L2 PySem.W

/-! enumerate over a tuple -/
theorem enum_meets {l : Addr} {items : Array Value} :
    Meets (Builtin.«enumerate.__new__» ⟨[.type "enumerate", .ref l], []⟩) (fun _ R z => z.heap.IsTuple l items ∧
      R (.ok (.ret (.ref (z.heap.push { cls := .type "tuple_iterator", data := .fields #[.ref l, .int 0 0] }).objs.size)))
        { z with heap := (z.heap.push { cls := .type "tuple_iterator", data := .fields #[.ref l, .int 0 0] }).push { cls := .type "enumerate", data := .fields #[.none, .bool false, .ref z.heap.objs.size, rawInt 0, .none, .none] } }) :=
  .of_wp fun prog w A R z h => by
    obtain ⟨zh, zg, zd, zt, zo⟩ := z
    obtain ⟨isT, h⟩ := h
    have sub := sub_enumerate
    have begins : ∀ {A' : Around} {E : Value → Shared → Prop} {Q : Value → Shared → Prop}, Q (.ref zh.objs.size) ⟨zh.push { cls := .type "tuple_iterator", data := .fields #[.ref l, .int 0 0] }, zg, zd, zt, zo⟩ →
        wpAny (model prog w) A' (pyIter (.ref l)) Q E ⟨zh, zg, zd, zt, zo⟩ := fun q => (begins_tuple l items).iter prog w _ _ ⟨zh, zg, zd, zt, zo⟩ _ isT q
    wp_walk using begins
    refine wpAny_stack_any fun st => wpAny_pure ?_
    split
    · rename_i c _ _ _ _ _
      cases (c == Value.type "enumerate") <;> (wp_walk using begins; exact ⟨_, rfl, h⟩)
    · wp_walk using begins
      exact ⟨_, rfl, h⟩
section
variable {prog : Program} {w : World} {A : Around} {E : Value → Shared → Prop} {s : Shared}
theorem enum_made {l : Addr} {items : Array Value} {Q : Value → Shared → Prop} (isT : s.heap.IsTuple l items)
    (next : ∀ h', IsEnum h' (s.heap.objs.size + 1) s.heap.objs.size 0 .none → h'.IsTupleIter s.heap.objs.size l 0 → (∀ b o, s.heap.get? b = some o → h'.get? b = some o) →
      Q (.ref (s.heap.objs.size + 1)) { s with heap := h' }) : wpAny (model prog w) A (call (.type "enumerate") [.ref l]) Q E s := by
  refine callType_new F.called_enumerate (by decide) (F.typeCall_enumerate_1 _) (F.newCall_enumerate_1 _) (fun o => F.args_object_init_2 o _) F.entry_enumerate_new enum_meets ⟨isT, ?_⟩
  have z1 : (s.heap.push { cls := .type "tuple_iterator", data := .fields #[.ref l, .int 0 0] }).objs.size = s.heap.objs.size + 1 := Heap.size_push ..
  show _ ∧ _
  rw [z1]
  have ie : IsEnum ((s.heap.push { cls := .type "tuple_iterator", data := .fields #[.ref l, .int 0 0] }).push { cls := .type "enumerate", data := .fields #[.none, .bool false, .ref s.heap.objs.size, rawInt 0, .none, .none] }) (s.heap.objs.size + 1) s.heap.objs.size 0 .none := by
    have q := Heap.get?_push_size (s.heap.push { cls := .type "tuple_iterator", data := .fields #[.ref l, .int 0 0] }) (o := { cls := .type "enumerate", data := .fields #[.none, .bool false, .ref s.heap.objs.size, rawInt 0, .none, .none] }) rfl
    rw [z1] at q
    exact q
  exact ⟨⟨_, ie, rfl⟩, next _ ie ⟨{ cls := .type "tuple_iterator", data := .fields #[.ref l, .int 0 0] }, Heap.get?_push_of_some _ (Heap.get?_push_size _ rfl), rfl, rfl⟩ fun b o q => Heap.get?_push_of_some _ (Heap.get?_push_of_some _ q)⟩
end

/-- the tuple's items, each in a new pair with its place -/
def ItT (K : PySem.W.Frag) (a : Addr) (xs : List V) : It where
  go := fun i H => SqT K H a xs ∧ i < xs.length
  yld := fun i H v H' => ∃ T x, v = .ref T ∧ H T = none ∧ H' = upd H T (.tup [.int (i : Nat), x]) ∧ xs[i]? = some x
  stop := fun i H => SqT K H a xs ∧ i = xs.length
theorem turn_enumT {P : Program} {w : World} {K : PySem.W.Frag} {elts : List Expr} {kk : Nat} {tpos : Pos} (a e it : Addr) (xs : List V) :
    Turn P w K (.Tuple elts kk tpos) (ItT K a xs) [e, it] e (fun i h => (∃ old, IsEnum h e it ((i : Nat) : Int) old) ∧ h.IsTupleIter it a i ∧ e ≠ it ∧ a ≠ it ∧ a ≠ e) where
  mem := List.mem_cons_self
  obj := fun i h st b hb => by
    obtain ⟨⟨old, ie⟩, ⟨o, q, _, d⟩, _⟩ := st
    rcases List.mem_cons.mp hb with z | z
    · rw [z]
      exact ⟨_, ie, fun v y => nomatch y⟩
    · rw [List.mem_singleton.mp z]
      exact ⟨o, q, fun v y => by rw [d] at y; cases y⟩
  keep := fun i h h' st k => by
    obtain ⟨⟨old, ie⟩, ⟨o, q, r⟩, ne⟩ := st
    exact ⟨⟨old, k e (by simp) _ ie⟩, ⟨o, k it (by simp) o q, r⟩, ne⟩
  item := by
    intro X e1 e2 e3 hc i pins s σ H E I hf st hg
    subst e1 e2 e3
    obtain ⟨⟨old, ie⟩, ti, ne, ne2, ne3⟩ := st
    obtain ⟨hx, lt⟩ := hg
    obtain ⟨its, rv, isT, _⟩ := I.tuple hx
    have le : e < s.heap.objs.size := Heap.lt_size ie
    have lit : it < s.heap.objs.size := by
      obtain ⟨_, q, _⟩ := ti
      exact Heap.lt_size q
    have lz : its.toArray.size = xs.length := by
      rw [List.size_toArray]
      exact rv.length.symm
    have hh : X.A.in1.handled = none := I.ok.hd hc
    refine wpAny_pyNext_enum_itemD (Draws.tuple hh it a ne2 its.toArray) ie ⟨ti, isT⟩ (by rw [lz]; exact lt) ne (by
      simp only [List.mem_cons, List.not_mem_nil, or_false, not_or]
      exact ⟨ne, fun z => ne3 z.symm⟩) fun u h' tk pu io st2 hT hsz hk => ?_
    obtain ⟨ti2, isT2⟩ := st2
    obtain ⟨x, hx2, ru⟩ : ∃ x, xs[i]? = some x ∧ RelV x u := by
      have hxi : xs[i]? = some xs[i] := List.getElem?_eq_getElem lt
      obtain ⟨u2, hu2, ru2⟩ := rv.get hxi
      have e4 : u2 = u := by
        have q : its[i]? = some u := by simpa using pu
        rw [hu2] at q
        exact Option.some.inj q
      rw [e4] at ru2
      exact ⟨_, hxi, ru2⟩
    refine ⟨_, rfl, wpAny_letOwnedTupleGo_enum (s := { s with heap := h', toks := tk + 1 }) io fun h'' ie2 sb => ?_⟩
    have hT2 : h''.get? s.heap.objs.size = some { cls := .type "tuple", data := .seq #[.int i tk, u] } := (sb.2 _ (Nat.ne_of_gt le)).trans hT
    have new : ObjOk X.prog X.w (upd H s.heap.objs.size (.tup [.int (i : Nat), x])) h'' s.heap.objs.size (.tup [.int (i : Nat), x]) :=
      ⟨by show 2 ≤ sizeLine; decide, [.int i tk, u], .cons ⟨_, rfl⟩ (.cons ru .nil), ⟨_, hT2, rfl, _, rfl⟩⟩
    have I1 : Inv X pins σ (upd H s.heap.objs.size (.tup [.int (i : Nat), x])) { s with heap := h'', toks := tk + 1 } :=
      I.turnedNew (ch := [e, it]) (fun b o nb q => (sb.2 b fun z => nb (by simp [z])).trans (hk b o (fun z => nb (by simp [z])) (fun z => nb (by simp [z])) q)) hf (Nat.le_refl _) new
    refine ⟨.ref s.heap.objs.size, _, I1, rfl, ⟨_, x, rfl, I.hok.fresh (Nat.le_refl _), rfl, hx2⟩, ⟨⟨u, ?_⟩, ?_, ne, ne2, ne3⟩, fun b hb => ?_⟩
    · have e1 : ((i + 1 : Nat) : Int) = (i : Int) + 1 := by omega
      rw [e1]
      exact ie2
    · obtain ⟨o, q, r⟩ := ti2
      exact ⟨o, (sb.2 it (Ne.symm ne)).trans q, r⟩
    · have lb : b < s.heap.objs.size := by
        rcases List.mem_cons.mp hb with z | z
        · rw [z]; exact le
        · rw [List.mem_singleton.mp z]; exact lit
      rw [upd_ne (Nat.ne_of_lt lb)]
      exact (hf b hb).1
  done := by
    intro X e1 e2 e3 hc i pins s σ H E I hf st hg
    subst e1 e2 e3
    obtain ⟨⟨old, ie⟩, ti, ne, ne2, ne3⟩ := st
    obtain ⟨hx, rfl⟩ := hg
    obtain ⟨its, rv, isT, _⟩ := I.tuple hx
    have hh : X.A.in1.handled = none := I.ok.hd hc
    have lz : its.toArray.size = xs.length := by
      rw [List.size_toArray]
      exact rv.length.symm
    obtain ⟨f0, f1, f2, f3, f4, f5⟩ := hf it (by simp)
    rw [← lz] at ti
    exact wpAny_pyNext_enum_endD (Draws.tuple hh it a ne2 its.toArray) ie ⟨ti, isT⟩ fun h' eb => ⟨rfl, I.turned (t' := s.toks) (fun b o hb q => eb b o hb q) f0 f1 f3 f4 f5⟩
  self := fun A i s Q E st h => by
    obtain ⟨⟨_, ie⟩, _⟩ := st
    exact wpAny_pyIter_enum ie h
def iEnumT (K : PySem.W.Frag) (ta : TA) : TI := fun σ H R => ta σ H fun vs H1 => ∃ a xs, vs = [.ref a] ∧ SqT K H1 a xs ∧ R (ItT K a xs) H1
theorem pi_enumT {X : Cx} {e : Expr} {ta : TA} {p pos tpos : Pos} {elts : List Expr} {kk : Nat} (hg : Gl X "enumerate") (hm : X.mg "enumerate" = none) (ha : PA X [e] ta) (hs : starEach [e] X.env = [(false, eval e X.env)] := by rfl) :
    PI X (.Tuple elts kk tpos) (.Call (.Name "enumerate" p) [e] [] pos) (iEnumT X.K ta) := by
  refine ⟨fun pins s σ H R I h => ?_⟩
  refine Call_ (ld_blt I hg hm boot_enumerate (PyProof.Rows.callWith_type1 (thn (ha.run pos pins s σ H _ I h) fun us s1 ⟨vs, H1, I1, r1, q1⟩ => ?_) hs rfl))
  obtain ⟨a, xs, rfl, hx, q⟩ := q1
  rw [Vals.ref1 r1]
  obtain ⟨its, rv, isT, _⟩ := I1.tuple hx
  have la : a < s1.heap.objs.size := by
    obtain ⟨o, ho, _⟩ := isT
    exact Heap.lt_size ho
  refine enum_made isT fun h' ie ti k => wpAny_pyIter_enum ie ?_
  have I2 : Inv X pins σ H1 { s1 with heap := h' } := I1.kept (t' := s1.toks) k
  refine ⟨s1.heap.objs.size + 1, [s1.heap.objs.size + 1, s1.heap.objs.size], _, _, H1, rfl, I2, turn_enumT a (s1.heap.objs.size + 1) s1.heap.objs.size xs,
    ⟨⟨.none, ie⟩, ti, Nat.succ_ne_self _, Nat.ne_of_lt la, Nat.ne_of_lt (Nat.lt_succ_of_lt la)⟩, fun b hb => ?_, q⟩
  have le : s1.heap.objs.size ≤ b := by
    rcases List.mem_cons.mp hb with z | z
    · rw [z]; exact Nat.le_succ _
    · rw [List.mem_singleton.mp z]; exact Nat.le_refl _
  exact I1.fpOk le (I1.hok.fresh le)
end Q
set_option Elab.async false
set_option linter.all false
set_option maxRecDepth 100000
set_option maxHeartbeats 4000000
namespace Q
open PySem PySem.Spec PyProof.Rows L2 PySem.W
section
variable {X : Cx}
/-- x < y of two tuples of texts and whole numbers, of one shape -/
def rLtK (K : PySem.W.Frag) : R2 := fun x y H Q => ∃ (a b : Addr) (ks ls : List Key), x = V.ref a ∧ y = V.ref b ∧ SqT K H a (ks.map kV) ∧ SqT K H b (ls.map kV) ∧ shape ks = shape ls ∧ Q (.bl (ksLt ks ls)) H
theorem op_ltK (hu : X.A.units + 1 < cLine) : OpR X (compareOp .Lt) (rLtK X.K) := by
  intro pins s σ H x y v u Q I rx ry h
  obtain ⟨a, b, ks, ls, rfl, rfl, ha, hb, sh, q⟩ := h
  cases rx
  cases ry
  have ra := (tupAt_of I ha).reads
  have rb := (tupAt_of I hb).reads
  have da : (PyData.tuple (ks.map kD)).depth = 1 := by rw [PyData.depth, depth_keys]
  refine lt_data ra rb (by simpa [alike] using alikeAll_keys sh) (by simp) (by
    have m := Nat.min_le_left (PyData.tuple (ks.map kD)).depth (PyData.tuple (ls.map kD)).depth
    omega) ?_
  rw [tup_lt sh]
  exact ⟨.bl (ksLt ks ls), H, I, rfl, q⟩
end
end Q
set_option Elab.async false
set_option linter.all false
set_option maxRecDepth 100000
set_option maxHeartbeats 4000000
namespace Q
open PySem PySem.Spec PyProof.Rows L2 PySem.W
section
variable {X : Cx}
/-- raise C(), a class of the program without its own __init__ -/
theorem pmk_own0 {C : Addr} {bmB : List Value} {B newId initId : String} {x : Str} {p pos : Pos} (F : ExcBaseFacts B newId initId bmB) (q : excIn X.K C bmB newId = true)
    (gC : X.mg x = some (.ref C)) (kC : keepIn X.K (.ref C) = true) (r : Raises X (.ref C)) (hg : Gl X x) (hdb : (x == ("__debug__" : Str)) = false := by decide) :
    PMk X (.Call (.Name x p) [] [] pos) (fun _ H Q => Q (.ref C) none H) := by
  intro pins s σ H Q I h
  refine wpAny_Call_Name_kw (ld_glob I hg gC ?_ hdb)
  refine PySem.W.callWith_K0 I.kIn kC ?_
  show wpAny _ _ (call (.ref C) []) _ _ _
  obtain ⟨bm, N, nm, qn, bs, hdct, sn, sub, ab, col, dd, k0, k1, k2, k3, k5, mN, hC, hN, hni, T⟩ := exc_obj I.kIn q
  refine wpAny_call_exc_subT F T hC hN hni (fun h' e hm => ?_) (Nat.zero_le _)
  exact mk_of I hm r h (I.hok.gone hm.new)
/-- sorted(xs), xs a list of unlike tuples of texts and whole numbers, of one shape -/
def rSortTuL (K : PySem.W.Frag) : List V → Hp → VK → Prop := fun xs H Q => ∃ (a : Addr) (ks : List (Addr × List Key)) (sh : List Bool), xs = [V.ref a] ∧ SqL K H a (ks.map fun p => V.ref p.1) ∧
  (∀ p ∈ ks, SqT K H p.1 (p.2.map kV)) ∧ (∀ p ∈ ks, shape p.2 = sh) ∧ sh ≠ [] ∧ (ks.map (·.2)).Nodup ∧ ks.length < 4000 ∧
  ∀ (p : Addr) (zs : List (Addr × List Key)), zs.Perm ks → zs.Pairwise (fun x y => ksLt x.2 y.2 = true) → H p = none → Q (.ref p) (upd H p (.lst (zs.map fun q => V.ref q.1)))
theorem cr_sortTuL (hu : X.A.units + 3 < cLine) : CallR X (.builtin "sorted") (rSortTuL X.K) := by
  intro pins s σ H xs us0 Q I r h
  obtain ⟨a, ks, sh, rfl, ha, hk, hs, ne, nd, few, q⟩ := h
  rw [Vals.ref1 r]
  obtain ⟨its, rv, pl, _⟩ := I.list ha
  have ei := vals_rows rv
  have er := each_rows (P := X.prog) (w := X.w) (h := s.heap) fun p hp => tupAt_of I (hk p hp)
  refine sorted_data (vs := its) (R := fun v p => v = Value.ref p.1) (bs := ks) (enc := fun p : Addr × List Key => PyData.tuple (p.2.map kD)) pl.isList (by rw [ei]; exact er.mono fun _ _ z => z.1) (by rw [ei]; exact er.mono fun _ _ z => ⟨_, z.2⟩) ?_ ?_ ?_ ?_ ?_
  · intro d hd d' hd'
    obtain ⟨p, hp, rfl⟩ := List.mem_map.mp hd
    obtain ⟨p', hp', rfl⟩ := List.mem_map.mp hd'
    have e : shape p.2 = shape p'.2 := (hs p hp).trans (hs p' hp').symm
    simpa [alike] using alikeAll_keys e
  · refine .inl fun d hd => ?_
    obtain ⟨p, hp, rfl⟩ := List.mem_map.mp hd
    have e := hs p hp
    cases hq : p.2 with
    | nil =>
      rw [hq] at e
      exact absurd e.symm ne
    | cons k0 r0 => exact ⟨_, _, by rw [List.map_cons]⟩
  · rw [sizeLine_eq]
    omega
  · intro b hb
    have e : (PyData.tuple (b.2.map kD)).depth ≤ 1 := by
      simp [PyData.depth, depth_keys]
    show X.A.units + 2 + (PyData.tuple (b.2.map kD)).depth < cLine
    omega
  · intro out lo eo
    have pz : (ks.mergeSort (dataLe false fun p : Addr × List Key => PyData.tuple (p.2.map kD))).Perm ks := List.mergeSort_perm ks _
    have pw : (ks.mergeSort (dataLe false fun p : Addr × List Key => PyData.tuple (p.2.map kD))).Pairwise fun x y => ksLt x.2 y.2 = true := by
      have w1 := sort_pairwise (sortLe_total (listOrd itemOrd) false fun p : Addr × List Key => keyToks (PyData.tuple (p.2.map kD))) ks
      have nd2 : ((ks.mergeSort (dataLe false fun p : Addr × List Key => PyData.tuple (p.2.map kD))).map (·.2)).Nodup := (pz.map (·.2)).nodup_iff.mpr nd
      have nd3 := List.pairwise_map.mp nd2
      refine List.Pairwise.imp_of_mem (fun {x y} hx hy h => ?_) (List.Pairwise.and w1 nd3)
      have se : shape x.2 = shape y.2 := (hs x (pz.mem_iff.mp hx)).trans (hs y (pz.mem_iff.mp hy)).symm
      have e1 : (!dataLt (.tuple (y.2.map kD)) (.tuple (x.2.map kD))) = true := h.1
      rw [tup_lt se.symm, Bool.not_eq_true'] at e1
      exact ksLt_total se h.2 e1
    generalize ks.mergeSort (dataLe false fun p : Addr × List Key => PyData.tuple (p.2.map kD)) = zs at pz pw eo
    have few2 : (zs.map fun q => V.ref q.1).length ≤ sizeLine := by
      rw [List.length_map, pz.length_eq, sizeLine_eq]
      omega
    obtain ⟨c, hc⟩ := sortedAll_at s.heap its (List.toArray out)
    have rv2 : Vals (zs.map fun q => V.ref q.1) (List.toArray out).toList := by
      rw [List.toList_toArray, rows_each eo]
      exact rows_vals zs
    have le : s.heap.objs.size ≤ s.heap.objs.size + 1 := Nat.le_succ _
    exact ⟨.ref (s.heap.objs.size + 1), _, laid_list I (c := c) (fun _ _ => sortedAll_old) rfl rfl le hc rv2 few2, rfl, q _ zs pz pw (I.hok.fresh le)⟩
end
end Q
set_option Elab.async false
set_option linter.all false
set_option maxRecDepth 100000
set_option maxHeartbeats 4000000
/-! The end of a law whose defs make lambdas, over FnG. -/
namespace Q
open PySem PySem.Spec PyProof.Rows L2 LamX

/-- an empty table of code objects -/
abbrev emptyTab : Obj := { cls := .none, data := .fields #[] }
section
variable {P : Program} {w : World} {K : PySem.W.Frag} {mg mb : Str → Option Value} {k : Nat}
  {fa a : Addr} {fd : FuncData} {x : Str} {sp : Sp} {s₁ : Shared} {vs : List Value} {ns : List Int} {c1 P1 c2 P2 : Addr}
/-- what may be tracked at the start: the script as it stands, the two tables -/
def OnlyT (P1 P2 : Addr) (H : Hp) : Prop := ∀ b, H b = none ∨ (b = P1 ∨ b = P2) ∨ ∃ o xs, H b = some (.frz o (.lst xs))
structure Two (s₁ : Shared) (K : PySem.W.Frag) (c1 P1 c2 P2 : Addr) : Prop where
  e1 : s₁.heap.get? P1 = some emptyTab
  e2 : s₁.heap.get? P2 = some emptyTab
  n1 : K.lookup P1 = none
  n2 : K.lookup P2 = none
  h1 : PySem.W.CodeHd s₁.heap c1 P1
  h2 : PySem.W.CodeHd s₁.heap c2 P2
theorem law_coreT (KX : K.In s₁.heap) (hns : s₁.heap.Ns mainGlobals mg) (hb : s₁.heap.Ns builtinsNs mb)
    (hbb : ∀ x : Str, x ≠ "__name__" → mb x = bootBuiltins x) (hlim : s₁.heap.NoLimit) (hg : s₁.gens = #[])
    (tw : Two s₁ K c1 P1 c2 P2)
    (hbm : ∃ (bm : Addr) (ob : Obj), mg "__builtins__" = some (.ref bm) ∧ bm ≠ builtinsNs ∧ s₁.heap.get? bm = some ob ∧
      ob.cls = .type "module" ∧ ob.dict = some builtinsNs ∧ ob.data = .plain)
    (ha : s₁.heap.get? a = some { cls := .type "list", data := .seq vs.toArray }) (hr : Room k callerA)
    (F : ∀ base : Heap, K.In base → base.Ns mainGlobals mg → TabB base mg c1 P1 → TabB base mg c2 P2 → FnG P w K mg base CX0 k fa fd [x] sp)
    (hbind : ∀ (s : Shared) (u : Value), BindsTo s fd ⟨[u], []⟩ [(x, u)])
    (H : Hp) (hO : OnlyT P1 P2 H) (hH1 : H P1 = some (.tbl #[])) (hH2 : H P2 = some (.tbl #[]))
    (hS : sp [.ref a] H (fun v _ => v = .bl true) fun _ _ _ => False)
    (hok : HOk P w H s₁.heap) (hA : ∀ b, H b ≠ none → b = a ∨ b = P1 ∨ b = P2) (hK : H a ≠ none → K.lookup a = none) :
    codeAny (model P w) callerA (.call (.ref fa) ⟨[.ref a], []⟩) (LawEnd s₁) s₁ := by
  -- an object that is neither the script nor a table is not tracked
  have off : ∀ {b : Addr} {o : Obj}, s₁.heap.get? b = some o → (∀ us n, o.data ≠ .seq us n) → o.data ≠ .fields #[] → H b = none := by
    intro b o e d1 d2
    cases q : H b with
    | none => rfl
    | some u =>
      rcases hA b (by rw [q]; exact nofun) with z | z | z
      · rw [z, ha] at e
        cases e
        exact absurd rfl (d1 _ _)
      · rw [z, tw.e1] at e
        cases e
        exact absurd rfl d2
      · rw [z, tw.e2] at e
        cases e
        exact absurd rfl d2
  have ns_free : ∀ {b m}, s₁.heap.Ns b m → (hidT s₁.heap H).Ns b m := by
    rintro b m ⟨o, es, ep, e, d, r⟩
    exact ⟨o, es, ep, hidT_get e (off e (fun us n z => by rw [d] at z; cases z) (fun z => by rw [d] at z; cases z)), d, r⟩
  have kin : K.In (hidT s₁.heap H) := fun b o e => by
    refine hidT_get (KX b o e) ?_
    cases q : H b with
    | none => rfl
    | some u =>
      rcases hA b (by rw [q]; exact nofun) with z | z | z
      · subst z
        rw [hK (by rw [q]; exact nofun)] at e
        cases e
      · rw [z, tw.n1] at e
        cases e
      · rw [z, tw.n2] at e
        cases e
  obtain ⟨mc, l1, l2⟩ := hlim
  have md : Mod K mg (hidT s₁.heap H) :=
    { kin := kin, glob := ns_free hns, blt := ⟨mb, ns_free hb, hbb⟩, nolimit := ⟨mc, ns_free l1, l2⟩ }
  have e0 : Env0 P w K mg (hidT s₁.heap H) callerA [] s₁ H :=
    ⟨rfl, md, fun b o e => of_hidT e, Nat.le_of_eq (hidT_size _ _), trivial,
      fun b z => absurd (show b ∈ ([] : List Addr) from z) List.not_mem_nil, hok, .of_eq hg⟩
  have tabOf : ∀ {c T : Addr}, PySem.W.CodeHd s₁.heap c T → s₁.heap.get? T = some emptyTab → TabB (hidT s₁.heap H) mg c T := by
    intro c T hd eT
    obtain ⟨o, us, fl, tf, fg, tg, iF, tx, tt, q1, q2, q3, q4, q5⟩ := hd
    obtain ⟨bm, ob, y1, y2, y3, y4, y5, y6⟩ := hbm
    refine ⟨⟨o, us, fl, tf, fg, tg, iF, tx, tt, hidT_get q1 (off q1 ?_ ?_), q2, q3, q4, q5⟩, ⟨bm, ob, y1, y2, ?_, ?_, hidT_get y3 (off y3 ?_ ?_), y4, y5, y6⟩, ?_⟩
    · intro us' n z
      rw [q3] at z
      cases z
    · intro z
      rw [q3] at z
      cases z
      cases q4
    · rintro rfl
      obtain ⟨o', es, ep, e, d, _⟩ := hns
      rw [e] at y3
      cases y3
      rw [d] at y6
      cases y6
    · rintro rfl
      rw [eT] at y3
      cases y3
      cases y6
    · intro us' n z
      rw [y6] at z
      cases z
    · intro z
      rw [y6] at z
      cases z
    · rintro rfl
      obtain ⟨o', es, ep, e, d, _⟩ := hns
      rw [eT] at e
      cases e
      cases d
  have run := (F _ kin (ns_free hns) (tabOf tw.h1 tw.e1) (tabOf tw.h2 tw.e2)).go callerA [] s₁ H ⟨[.ref a], []⟩ [.ref a] [.ref a] _ _ rfl hr e0
    (hbind s₁ (.ref a)) (.cons rfl .nil) hS
  refine codeAny_mono run ?_
  intro r s' h
  match r, h with
  | .error e, h => exact False.elim h
  | .ok (.ret u), ⟨v, H', os, bare, un, hok', r', q⟩ =>
    subst q
    obtain rfl : u = Value.bool true := r'
    have grown : ∀ {T : Addr}, H T = some (.tbl #[]) → ∃ more : Array Value, s'.heap.get? T = some { cls := .none, data := .fields more } := by
      intro T hT
      obtain ⟨more, z⟩ := un.tbls T #[] hT
      exact ⟨_, hok' T _ z⟩
    have rest : ∀ b o, b ≠ P1 → b ≠ P2 → s₁.heap.get? b = some o → s'.heap.get? b = some o := by
      intro b o z1 z2 e
      cases q : H b with
      | none => exact un.keep b o e q (fun z => absurd (show b ∈ ([] : List Addr) from z) List.not_mem_nil) List.not_mem_nil
      | some u =>
        rcases hO b with z | (z | z) | ⟨ob, xs, z⟩
        · rw [q] at z; cases z
        · exact absurd z z1
        · exact absurd z z2
        · have y2 := (hok' b _ (un.frzs b ob _ z)).1
          have y1 := (hok b _ z).1
          rw [e] at y1
          cases y1
          exact y2
    refine ⟨rfl, ⟨fun b o e => ?_, fun b o e => ?_⟩, os, bare⟩
    · by_cases z1 : b = P1
      · subst z1
        obtain ⟨more, hm⟩ := grown hH1
        rw [tw.e1] at e
        cases e
        exact .inr (.inl ⟨(tw.h1.tab tw.e1).isCodeTable, rfl, #[], more, rfl, by rw [hm, Array.empty_append]⟩)
      · by_cases z2 : b = P2
        · subst z2
          obtain ⟨more, hm⟩ := grown hH2
          rw [tw.e2] at e
          cases e
          exact .inr (.inl ⟨(tw.h2.tab tw.e2).isCodeTable, rfl, #[], more, rfl, by rw [hm, Array.empty_append]⟩)
        · exact .inl (rest b o z1 z2 e)
    · by_cases z1 : b = P1
      · subst z1
        exact let ⟨_, hm⟩ := grown hH1; ⟨_, hm⟩
      · by_cases z2 : b = P2
        · subst z2
          exact let ⟨_, hm⟩ := grown hH2; ⟨_, hm⟩
        · exact ⟨o, rest b o z1 z2 e⟩
theorem law_callTG (KX : K.In s₁.heap) (hns : s₁.heap.Ns mainGlobals mg) (hb : s₁.heap.Ns builtinsNs mb)
    (hbb : ∀ x : Str, x ≠ "__name__" → mb x = bootBuiltins x) (hlim : s₁.heap.NoLimit) (hg : s₁.gens = #[])
    (tw : Two s₁ K c1 P1 c2 P2)
    (hbm : ∃ (bm : Addr) (ob : Obj), mg "__builtins__" = some (.ref bm) ∧ bm ≠ builtinsNs ∧ s₁.heap.get? bm = some ob ∧
      ob.cls = .type "module" ∧ ob.dict = some builtinsNs ∧ ob.data = .plain)
    (ha : s₁.heap.get? a = some { cls := .type "list", data := .seq vs.toArray }) (hi : IntsAre vs ns)
    (hl : ns.length ≤ sizeLine) (hr : Room k callerA)
    (F : ∀ base : Heap, K.In base → base.Ns mainGlobals mg → TabB base mg c1 P1 → TabB base mg c2 P2 → FnG P w K mg base CX0 k fa fd [x] sp)
    (hbind : ∀ (s : Shared) (u : Value), BindsTo s fd ⟨[u], []⟩ [(x, u)])
    (hsp : ∀ H : Hp, H P1 = some (.tbl #[]) → H P2 = some (.tbl #[]) → SqL K H a (ns.map V.int) →
      sp [.ref a] H (fun v _ => v = .bl true) fun _ _ _ => False) :
    codeAny (model P w) callerA (.call (.ref fa) ⟨[.ref a], []⟩) (LawEnd s₁) s₁ := by
  have rv := vals_ints hi
  have lenV := hi.length
  have aT : ∀ {T : Addr}, s₁.heap.get? T = some emptyTab → T ≠ a := fun {T} e z => by
    rw [z, ha] at e
    cases e
  have tblOk : ∀ {H : Hp} {T : Addr}, s₁.heap.get? T = some emptyTab → ObjOk P w H s₁.heap T (.tbl #[]) := fun {H T} e => e
  cases hk : K.lookup a with
  | some o =>
    have e := KX a o hk
    rw [ha] at e
    cases e
    let H : Hp := fun b => if b = P1 ∨ b = P2 then some (.tbl #[]) else none
    have on : ∀ b, b = P1 ∨ b = P2 → H b = some (.tbl #[]) := fun b z => if_pos z
    have off : ∀ b, ¬ (b = P1 ∨ b = P2) → H b = none := fun b z => if_neg z
    have hS : SqL K H a (ns.map V.int) := by
      refine .inr ⟨_, vs.toArray, _, hk, rfl, rfl, rfl, ?_, by simpa using rv⟩
      rw [List.size_toArray, lenV]
      exact hl
    have nA : ¬ (a = P1 ∨ a = P2) := fun z => z.elim (fun z => aT tw.e1 z.symm) (fun z => aT tw.e2 z.symm)
    refine law_coreT KX hns hb hbb hlim hg tw hbm ha hr F hbind H (fun b => ?_) (on _ (.inl rfl)) (on _ (.inr rfl)) (hsp H (on _ (.inl rfl)) (on _ (.inr rfl)) hS) (fun b u z => ?_) (fun b z => ?_) (fun z => absurd (off a nA) z)
    · by_cases z : b = P1 ∨ b = P2
      · exact .inr (.inl z)
      · exact .inl (off b z)
    · by_cases y : b = P1 ∨ b = P2
      · rw [on b y] at z
        cases z
        rcases y with rfl | rfl
        · exact tblOk tw.e1
        · exact tblOk tw.e2
      · rw [off b y] at z
        cases z
    · by_cases y : b = P1 ∨ b = P2
      · exact .inr y
      · exact absurd (off b y) z
  | none =>
    let ob : Obj := { cls := .type "list", data := .seq vs.toArray }
    let H : Hp := fun b => if b = a then some (.frz ob (.lst (ns.map V.int))) else if b = P1 ∨ b = P2 then some (.tbl #[]) else none
    have at_a : H a = some (.frz ob (.lst (ns.map V.int))) := if_pos rfl
    have on : ∀ b, b ≠ a → b = P1 ∨ b = P2 → H b = some (.tbl #[]) := fun b n z => (if_neg n).trans (if_pos z)
    have off : ∀ b, b ≠ a → ¬ (b = P1 ∨ b = P2) → H b = none := fun b n z => (if_neg n).trans (if_neg z)
    have h1 : H P1 = some (.tbl #[]) := on _ (aT tw.e1) (.inl rfl)
    have h2 : H P2 = some (.tbl #[]) := on _ (aT tw.e2) (.inr rfl)
    refine law_coreT KX hns hb hbb hlim hg tw hbm ha hr F hbind H (fun b => ?_) h1 h2 (hsp H h1 h2 (.inl (.inr ⟨ob, at_a⟩))) (fun b u z => ?_) (fun b z => ?_) (fun _ => hk)
    · by_cases n : b = a
      · subst n
        exact .inr (.inr ⟨_, _, at_a⟩)
      · by_cases z : b = P1 ∨ b = P2
        · exact .inr (.inl z)
        · exact .inl (off b n z)
    · by_cases n : b = a
      · subst n
        rw [at_a] at z
        cases z
        exact ⟨ha, by rw [List.length_map]; exact hl, vs, _, rv, ha⟩
      · by_cases y : b = P1 ∨ b = P2
        · rw [on b n y] at z
          cases z
          rcases y with rfl | rfl
          · exact tblOk tw.e1
          · exact tblOk tw.e2
        · rw [off b n y] at z
          cases z
    · by_cases n : b = a
      · exact .inl n
      · by_cases y : b = P1 ∨ b = P2
        · exact .inr y
        · exact absurd (off b n y) z
end
/-- a def of the program, its code object and that one's table, as the written part tells them -/
def OneTab (K : PySem.W.Frag) (mg : Str → Option Value) (n : Str) (c T : Addr) : Prop :=
  ∃ (f : Addr) (o : Obj) (fd : FuncData), mg n = some (.ref f) ∧ K.lookup f = some o ∧ o.data = .func fd ∧ fd.code = .ref c ∧
    PySem.W.codeHdIn K c T = true ∧ K.lookup T = none
/-- the goal that the head leaves, from the law's promise; the defs n1 and n2 make lambdas -/
theorem walkTG {l : PySem.W.OpenLaw} {n k : Nat} {q : Program} {loose : List Str}
    {XP : (Str → Option Value) → Heap → Prop} {YP : World → Heap → Prop} {d : DefRec}
    {K : Params → PySem.W.Frag} {sp : Addr → Addr → PySem.W.Frag → Sp} {x n1 n2 : Str} (hn : l.most = some n)
    (hn2 : n ≤ sizeLine) (hdf : d.params.defaults = []) (hr : Room k callerA)
    (r1 : ((recsOf q).any fun e => e.name == n1) = true) (r2 : ((recsOf q).any fun e => e.name == n2) = true)
    (hY : ∀ (w : World) (h : Heap), YP w h → (K w.params).In h)
    (F : ∀ (w : World) (mg : Str → Option Value) (fa : Addr) (h : Heap), (K w.params).In h →
      h.Ns mainGlobals mg → mg d.name = some (.ref fa) →
      ∃ (fd : FuncData) (c1 P1 c2 P2 : Addr), OneTab (K w.params) mg n1 c1 P1 ∧ OneTab (K w.params) mg n2 c2 P2 ∧
        (∀ (s : Shared) (u : Value), BindsTo s fd ⟨[u], []⟩ [(x, u)]) ∧
        ∀ base : Heap, (K w.params).In base → base.Ns mainGlobals mg → TabB base mg c1 P1 → TabB base mg c2 P2 →
          FnG l.prog w (K w.params) mg base CX0 k fa fd [x] (sp P1 P2 (K w.params)))
    (hsp : ∀ (P1 P2 : Addr) (K : PySem.W.Frag) (H : Hp) (a : Addr) (ns : List Int), ns.length ≤ n → H P1 = some (.tbl #[]) → H P2 = some (.tbl #[]) →
      SqL K H a (ns.map V.int) → sp P1 P2 K [.ref a] H (fun v _ => v = .bl true) fun _ _ _ => False) :
    PySem.W.WalkO q loose XP YP l.row.toRowW d [] (fun f vs => PySem.call f vs) := by
  refine Att.attach_call hn hdf ?_
  intro w s₀ s₁ mg mb fa o pm cd doc a vs ns G Y ho hd hcd hmg hobj hints hlen hg
  have KX := hY w _ Y
  obtain ⟨fd, c1, P1, c2, P2, o1, o2, hb, hF⟩ := F w mg fa _ KX G.T.g hmg
  have get : ∀ {n c T}, ((recsOf q).any fun e => e.name == n) = true → OneTab (K w.params) mg n c T → s₁.heap.get? T = some emptyTab ∧ (K w.params).lookup T = none ∧ PySem.W.CodeHd s₁.heap c T := by
    rintro n c T r ⟨f, o, fd, z1, z2, z3, z4, z5, z6⟩
    obtain ⟨dL, hm, hnm⟩ := List.any_eq_true.mp r
    obtain rfl : dL.name = n := beq_iff_eq.mp hnm
    obtain ⟨a', o', fd', c', T', y1, y2, y3, y4, y5, y6⟩ := G.T.tab dL hm
    cases z1.symm.trans y1
    cases (KX _ _ z2).symm.trans y2
    cases z3.symm.trans y3
    cases z4.symm.trans y4
    have H1 := PySem.W.codeHd_of_K KX z5
    obtain ⟨⟨ob, us, x1, _, x3, x4⟩, x5⟩ := y6
    obtain ⟨ob2, us2, _, _, _, _, _, _, _, w1, _, w3, w4, _⟩ := id H1
    cases x1.symm.trans w1
    cases x3.symm.trans w3
    cases x4.symm.trans w4
    exact ⟨x5, z6, H1⟩
  obtain ⟨t1, u1, v1⟩ := get r1 o1
  obtain ⟨t2, u2, v2⟩ := get r2 o2
  exact law_callTG KX G.T.g G.T.b G.T.builtins G.T.nolimit hg ⟨t1, t2, u1, u2, v1, v2⟩ G.T.bmain hobj hints (Nat.le_trans hlen hn2) hr hF hb
    (fun H hH1 hH2 hS => hsp P1 P2 _ H a ns hlen hH1 hH2 hS)
end Q
set_option Elab.async false
set_option linter.all false
set_option maxRecDepth 100000
set_option maxHeartbeats 4000000
/-! Values of every kind beside texts: in, and == of pairs. -/
namespace PySem.SeqAt
open MeetsSeq
section
variable {A : Around} {s : Shared}
theorem odd_str_eq_dict (b : Str) (u : Tok) (a : Addr) (c : Value) (dd : Option Addr) (es : Array DictEntry) (ep : Nat) (sl : Array (Option Value)) :
    Meets (Builtin.«str.__eq__» ⟨[.str b u, .ref a], []⟩) (fun _ R s => s.heap.get? a = some { cls := c, dict := dd, data := .dict es ep, slots := sl } ∧ R (.ok (.ret .notImplemented)) s) :=
  .of_wp fun prog w A R s h => by
    obtain ⟨hp, g, d, tk, os⟩ := s
    obtain ⟨hl, h⟩ := h
    wp_walk using wpAny_loadPart' hl, wpAny_load hl
    exact ⟨_, rfl, h⟩
theorem odd_dict_eq_str (b : Str) (u : Tok) (a : Addr) (dd : Option Addr) (es : Array DictEntry) (ep : Nat) (sl : Array (Option Value)) :
    Meets (Builtin.«dict.__eq__» ⟨[.ref a, .str b u], []⟩) (fun _ R s => s.heap.get? a = some { cls := .type "dict", dict := dd, data := .dict es ep, slots := sl } ∧ R (.ok (.ret .notImplemented)) s) :=
  .of_wp fun prog w A R s h => by
    obtain ⟨hl, h⟩ := h
    have hT : s.TypeIs (.ref a) "dict" := ⟨_, hl, rfl⟩
    show wpAny _ _ (Builtin.Dict.dictSlotArgs "__eq__" ⟨[.ref a, .str b u], []⟩ >>= _) _ _ s
    refine wpAny_bind ?_
    unfold Builtin.Dict.dictSlotArgs
    refine wpAny_bind (wpAny_notOrdered_dict hT ?_)
    show wpAny _ _ (pure (Value.ref a, Value.str b u)) _ _ s
    refine wpAny_pure (wpAny_bind (wpAny_isInstance (T := "str") (typeIs_str s b u) F.sub_str_dict ?_))
    simp only [Bool.not_false, if_true]
    exact wpAny_bind (wpAny_rule (wpAny_pure ⟨_, rfl, h⟩))
theorem rc_str_dict {a : Addr} {dd : Option Addr} {es : Array DictEntry} {ep : Nat} {sl : Array (Option Value)} (b : Str) (u : Tok)
    (hl : s.heap.get? a = some { cls := .type "dict", dict := dd, data := .dict es ep, slots := sl }) (hu : A.units < cLine) : RcAt A s (.str b u) (.ref a) false := fun prog w E Q h =>
  rc_eq_decline_or (k := false) (typeIs_str s b u) ⟨_, hl, rfl⟩ (by decide) F.sub_dict_str F.slot_str_eq F.slot_dict_eq_refl
    (fun _ hq => call_meets F.slot_str_eq (typeIs_str s b u) F.entry_str_eq (F.args_str_eq_2 _ _) (odd_str_eq_dict b u a _ dd es ep sl) ⟨hl, hq⟩)
    (fun _ hq => call_meets F.slot_dict_eq_refl ⟨_, hl, rfl⟩ F.entry_dict_eq (F.args_dict_eq_2 _ _) (odd_dict_eq_str b u a dd es ep sl) ⟨hl, hq⟩)
    (fun _ hq => wpAny_of_eq (rfl : isSame (.str b u) (.ref a) = pure false) hq) (.inr hu) h
theorem eqAt_str_dict {a : Addr} {dd : Option Addr} {es : Array DictEntry} {ep : Nat} {sl : Array (Option Value)} (b : Str) (u : Tok)
    (hl : s.heap.get? a = some { cls := .type "dict", dict := dd, data := .dict es ep, slots := sl }) (hu : A.units < cLine) : EqAt A s (.str b u) (.ref a) false := fun prog w E Q h => by
  unfold eqBool
  refine wpAny_holding (wpAny_ite_split (fun hab => absurd (eq_of_beq hab) nofun) fun _ => ?_)
  exact wpAny_bind (rc_str_dict b u hl hu prog w E _ (wpAny_truthy_bool h))
end
end PySem.SeqAt
namespace Q
open PySem PySem.Spec PyProof.Rows L2 PySem.W
/-- a value of a told kind -/
inductive Odd (K : PySem.W.Frag) (H : Hp) : V → Prop
  | non : Odd K H .non
  | bl (b : Bool) : Odd K H (.bl b)
  | int (i : Int) : Odd K H (.int i)
  | str (x : Str) : Odd K H (.str x)
  | lst {a : Addr} {xs : List V} : SqL K H a xs → Odd K H (.ref a)
  | tup {a : Addr} {xs : List V} : SqT K H a xs → Odd K H (.ref a)
  | dic {a : Addr} {kvs : List (Key × V)} : H a = some (.dK kvs) → Odd K H (.ref a)
/-- whether it is this text -/
def isStr (x : V) (z : Str) : Bool := match x with
  | .str y => z == y
  | _ => false
section
variable {X : Cx} {pins : List (Addr × Obj)} {σ : L2.St} {H : Hp} {s : Shared}
theorem eqAt_odd {A : Around} {x : V} {v : Value} (I : Inv X pins σ H s) (hu : A.units < cLine) (o : Odd X.K H x) (rx : RelV x v) (z : Str) (t : Tok) : SeqAt.EqAt A s (.str z t) v (isStr x z) := by
  cases o with
  | non =>
    cases (show v = Value.none from rx)
    exact SeqAt.EqAt.str_none z t
  | bl b =>
    cases (show v = Value.bool b from rx)
    exact SeqAt.EqAt.str_bool z t b
  | int i =>
    obtain ⟨u, q⟩ := (show ∃ u, v = Value.int i u from rx)
    cases q
    exact SeqAt.EqAt.str_int z t i u
  | str y =>
    obtain ⟨u, q⟩ := (show ∃ u, v = Value.str y u from rx)
    cases q
    exact SeqAt.EqAt.str_str z t y u
  | @lst a xs h =>
    cases (show v = Value.ref a from rx)
    obtain ⟨its, _, pl, _⟩ := I.list h
    exact SeqAt.EqAt.str_list z t pl.isList hu
  | @tup a xs h =>
    cases (show v = Value.ref a from rx)
    obtain ⟨its, _, pl, _⟩ := I.tuple h
    exact SeqAt.EqAt.str_tuple z t pl hu
  | @dic a kvs h =>
    cases (show v = Value.ref a from rx)
    obtain ⟨_, _, vs, kv, o, es, ep, ho, hx, hd, _⟩ := I.hok _ _ h
    obtain ⟨c, dd, da, sl⟩ := o
    have hc := hx.1
    simp only at hc hd
    subst hc hd
    exact SeqAt.eqAt_str_dict z t ho hu
def isStrU (x : V) : Value → Bool
  | .str z _ => isStr x z
  | _ => false
theorem any_isStrU {x : V} : ∀ {zs : List Str} {us : List Value}, Vals (zs.map V.str) us → us.any (isStrU x) = zs.any (isStr x)
  | [], _, .nil => rfl
  | z :: zs, _, .cons r t => by
    obtain ⟨tk, rfl⟩ := r
    rw [List.any_cons, List.any_cons, any_isStrU t]
    rfl
theorem strs_each {A : Around} {x : V} {v : Value} (I : Inv X pins σ H s) (hu : A.units < cLine) (o : Odd X.K H x) (rx : RelV x v) : ∀ {zs : List Str} {us : List Value}, Vals (zs.map V.str) us → ∀ u ∈ us, SeqAt.EqAt A s u v (isStrU x u)
  | [], _, .nil, u, hu' => by cases hu'
  | z :: zs, _, .cons r t, u, hu' => by
    rcases List.mem_cons.mp hu' with q | q
    · subst q
      obtain ⟨tk, rfl⟩ := r
      exact eqAt_odd I hu o rx z tk
    · exact strs_each I hu o rx t u q
/-- x in a tuple of texts, x of any told kind -/
def rInO (K : PySem.W.Frag) (neg : Bool) : R2 := fun x y H Q => ∃ (p : Addr) (zs : List Str), y = .ref p ∧ SqT K H p (zs.map V.str) ∧ Odd K H x ∧ Q (.bl (if neg then !(zs.any (isStr x)) else zs.any (isStr x))) H
theorem op_inO (hu : X.A.units + 1 < cLine) : OpR X (compareOp .In) (rInO X.K false) := by
  intro pins s σ H x y v u Q I rx ry h
  obtain ⟨p, zs, rfl, hp, o, q⟩ := h
  cases ry
  obtain ⟨its, r, pl, _⟩ := I.tuple hp
  refine SeqAt.in_tupleAt (isStrU x) pl (fun y hy => strs_each I hu o rx r y (by simpa using hy)) ⟨.bl _, H, I, rfl, ?_⟩
  rw [show its.toArray.any (isStrU x) = its.any (isStrU x) by simp, any_isStrU r]
  exact q
theorem op_notInO (hu : X.A.units + 1 < cLine) : OpR X (compareOp .NotIn) (rInO X.K true) := by
  intro pins s σ H x y v u Q I rx ry h
  obtain ⟨p, zs, rfl, hp, o, q⟩ := h
  cases ry
  obtain ⟨its, r, pl, _⟩ := I.tuple hp
  refine SeqAt.notIn_tupleAt (isStrU x) pl (fun y hy => strs_each I hu o rx r y (by simpa using hy)) ⟨.bl _, H, I, rfl, ?_⟩
  rw [show its.toArray.any (isStrU x) = its.any (isStrU x) by simp, any_isStrU r]
  exact q
/-- (z, t) == (x, y), two texts beside two values of any told kind -/
def rEqP (K : PySem.W.Frag) (ne : Bool) : R2 := fun u v H Q => ∃ (a b : Addr) (z t : Str) (x y : V), u = .ref a ∧ v = .ref b ∧ SqT K H a [.str z, .str t] ∧ SqT K H b [x, y] ∧ Odd K H x ∧ Odd K H y ∧
  Q (.bl (if ne then !(isStr x z && isStr y t) else (isStr x z && isStr y t))) H
theorem op_eqP (hu : X.A.units + 1 < cLine) : OpR X (compareOp .Eq) (rEqP X.K false) := by
  intro pins s σ H u v w1 w2 Q I ru rv h
  obtain ⟨a, b, z, t, x, y, rfl, rfl, ha, hb, ox, oy, q⟩ := h
  cases ru
  cases rv
  obtain ⟨its, r1, pl1, _⟩ := I.tuple ha
  obtain ⟨its2, r2, pl2, _⟩ := I.tuple hb
  obtain ⟨v1, v2, rfl, ⟨tz, rfl⟩, ⟨tt, rfl⟩⟩ := vals2 r1
  obtain ⟨v3, v4, rfl, rx, ry⟩ := vals2 r2
  have hu1 : X.A.in1.units < cLine := hu
  refine SeqAt.eq_tupleAt (e := fun i => if i = 0 then isStr x z else isStr y t) pl1 pl2 (by omega) (fun j h1 h2 => ?_) ⟨.bl _, H, I, rfl, ?_⟩
  · match j, h1, h2 with
    | 0, _, _ => exact eqAt_odd I hu1 ox rx z tz
    | 1, _, _ => exact eqAt_odd I hu1 oy ry t tt
    | j + 2, h1, _ => exact absurd h1 (by simp)
  · have e : ((List.range (min (#[Value.str z tz, Value.str t tt] : Array Value).size (#[v3, v4] : Array Value).size)).all (fun i => if i = 0 then isStr x z else isStr y t) && (#[Value.str z tz, Value.str t tt] : Array Value).size == (#[v3, v4] : Array Value).size) = (isStr x z && isStr y t) := by
      show ((List.range 2).all (fun i => if i = 0 then isStr x z else isStr y t) && true) = _
      rw [Bool.and_true]
      show ([0, 1].all fun i => if i = 0 then isStr x z else isStr y t) = _
      simp
    show Q (.bl _) H
    rw [show ([Value.str z tz, Value.str t tt] : List Value).toArray = #[Value.str z tz, Value.str t tt] from rfl, show ([v3, v4] : List Value).toArray = #[v3, v4] from rfl, e]
    exact q
theorem op_neP (hu : X.A.units + 1 < cLine) : OpR X (compareOp .NotEq) (rEqP X.K true) := by
  intro pins s σ H u v w1 w2 Q I ru rv h
  obtain ⟨a, b, z, t, x, y, rfl, rfl, ha, hb, ox, oy, q⟩ := h
  cases ru
  cases rv
  obtain ⟨its, r1, pl1, _⟩ := I.tuple ha
  obtain ⟨its2, r2, pl2, _⟩ := I.tuple hb
  obtain ⟨v1, v2, rfl, ⟨tz, rfl⟩, ⟨tt, rfl⟩⟩ := vals2 r1
  obtain ⟨v3, v4, rfl, rx, ry⟩ := vals2 r2
  have hu1 : X.A.in1.units < cLine := hu
  refine SeqAt.RcNeAt.tuples (e := fun i => if i = 0 then isStr x z else isStr y t) pl1 pl2 (by omega) (fun j h1 h2 => ?_) X.prog X.w _ _ ⟨.bl _, H, I, rfl, ?_⟩
  · match j, h1, h2 with
    | 0, _, _ => exact eqAt_odd I hu1 ox rx z tz
    | 1, _, _ => exact eqAt_odd I hu1 oy ry t tt
    | j + 2, h1, _ => exact absurd h1 (by simp)
  · have e : ((List.range (min (#[Value.str z tz, Value.str t tt] : Array Value).size (#[v3, v4] : Array Value).size)).all (fun i => if i = 0 then isStr x z else isStr y t) && (#[Value.str z tz, Value.str t tt] : Array Value).size == (#[v3, v4] : Array Value).size) = (isStr x z && isStr y t) := by
      show ((List.range 2).all (fun i => if i = 0 then isStr x z else isStr y t) && true) = _
      rw [Bool.and_true]
      show ([0, 1].all fun i => if i = 0 then isStr x z else isStr y t) = _
      simp
    show Q (.bl _) H
    rw [show ([Value.str z tz, Value.str t tt] : List Value).toArray = #[Value.str z tz, Value.str t tt] from rfl, show ([v3, v4] : List Value).toArray = #[v3, v4] from rfl, e]
    exact q
end
end Q
set_option Elab.async false
set_option linter.all false
set_option maxRecDepth 100000
set_option maxHeartbeats 4000000
/-! Lambdas as values: made, kept in lists, passed on, called elsewhere. -/
namespace Q
open PySem PySem.Spec PyProof.Rows L2 LamX NdefX

/-! ### the closure's object -/
/-- at f stands the closure F with this body -/
def CloO (f : Addr) (F : NF) (body : Expr) : HO :=
  .ext fun h => ∃ pm ctv : Value, h.get? f = some (PySem.W.kla_obj F.name F.qual F.params body F.scope F.cl pm F.c ctv)
section
variable {P : Program} {w : World} {H : Hp} {h : Heap} {f : Addr} {F : NF} {body : Expr}
theorem cloO_at (ok : HOk P w H h) (e : H f = some (CloO f F body)) :
    ∃ pm ctv : Value, h.get? f = some (PySem.W.kla_obj F.name F.qual F.params body F.scope F.cl pm F.c ctv) := (ok f _ e).1
end
section
variable {X : Cx} {pins : List (Addr × Obj)} {σ : L2.St} {H : Hp} {s : Shared}
theorem clo_laid {F : NF} {body : Expr} {pm ctv : Value} {tk : Nat} {h' : Heap} (J : Inv X pins σ H { s with heap := h', toks := tk }) :
    Inv X pins σ (upd H h'.objs.size (CloO h'.objs.size F body))
      { s with heap := h'.push (PySem.W.kla_obj F.name F.qual F.params body F.scope F.cl pm F.c ctv), toks := tk } := by
  have top : (h'.push (PySem.W.kla_obj F.name F.qual F.params body F.scope F.cl pm F.c ctv)).get? h'.objs.size = some (PySem.W.kla_obj F.name F.qual F.params body F.scope F.cl pm F.c ctv) :=
    Heap.get?_push_size _ rfl
  refine J.laid (t' := tk) (fun _ _ e => Heap.get?_push_of_some _ e) (Nat.le_refl h'.objs.size) ?_
  refine ⟨⟨pm, ctv, top⟩, ⟨_, top⟩, ?_⟩
  rintro g g' ⟨pm', ctv', e⟩ st
  exact ⟨pm', ctv', st _ e⟩
/-- a lambda is made: the closure is tracked -/
theorem lam_val {T : List (Addr × Str)} {c P : Addr} {params : Arguments} {body : Expr} {scope : Scope} {pos : Pos} {E Q : Value → Shared → Prop}
    (I : Inv X pins σ H s) (TB : TabB X.base X.mg c P) (code : X.env.code = .ref c) (hm : (P, X.env.qual ++ "<lambda>") ∈ T)
    (hu : ∀ p ∈ T, p.1 = P → p.2 = X.env.qual ++ "<lambda>") (hT : Tabs T H) (hdef : defaultsOf params X.env = ([], []))
    (hfree : ∀ y ∈ scope.names, y.2 = .free → ∃ c, X.env.cells.lookup y.1 = some c)
    (k : ∀ (f c' : Addr) (H1 : Hp) (s' : Shared), Inv X pins σ H1 s' → ExtN H H1 → Tabs T H1 → H f = none →
      H1 f = some (CloO f ⟨"<lambda>", X.env.qual ++ "<lambda>", params, [], scope, cloFrom X.env.cells scope.names [], c'⟩ body) →
      H1 c' = some (CodeO c' (X.env.qual ++ "<lambda>")) → Q (.ref f) s') :
    wpAny (model X.prog X.w) X.A (eval (.Lambda params body scope pos) X.env) Q E s := by
  have tab := hT _ hm
  obtain ⟨ps, atP, tri, amg⟩ := tab
  have bl := TB.bm.keeps I.bk
  have hp := I.hok P _ atP
  refine PySem.W.kla_eval hdef ?_
  -- what the new closure adds to a heap that holds the tables
  have last : ∀ {H0 : Hp} {h' : Heap} {tk : Nat} {c' : Addr} {pm ctv : Value}, Inv X pins σ H0 { s with heap := h', toks := tk } → ExtN H H0 → Tabs T H0 → H0 c' = some (CodeO c' (X.env.qual ++ "<lambda>")) → s.heap.objs.size ≤ h'.objs.size →
      Q (.ref h'.objs.size) { s with heap := h'.push (PySem.W.kla_obj "<lambda>" (X.env.qual ++ "<lambda>") params body scope (cloFrom X.env.cells scope.names []) pm c' ctv), toks := tk } := by
    intro H0 h' tk c' pm ctv J ext tb hc sz
    have new : H0 h'.objs.size = none := J.hok.fresh (Nat.le_refl _)
    have keepN : ∀ b o, H0 b = some o → upd H0 h'.objs.size (CloO h'.objs.size ⟨"<lambda>", X.env.qual ++ "<lambda>", params, [], scope, cloFrom X.env.cells scope.names [], c'⟩ body) b = some o :=
      fun b o e => (upd_ne (ne_of_none e new)).trans e
    exact k _ c' _ _ (clo_laid (F := ⟨"<lambda>", X.env.qual ++ "<lambda>", params, [], scope, cloFrom X.env.cells scope.names [], c'⟩) J)
      (fun b o e n => keepN b o (ext b o e n)) (tb.ext keepN) (I.hok.fresh sz) upd_same (keepN _ _ hc)
  cases am : codeAmong pos ps.toList with
  | some cv =>
    obtain ⟨c', rfl, hco⟩ := amg pos cv am
    refine PySem.W.kla_makeFunctionHit (mg := X.mg) (c := c) (P := P) (ps := ps) (closure_ok hfree) I.ok.glob
      (I.mod.glob.keeps I.bk) code (TB.code.keeps I.bk) hp tri am bl ?_
    intro ctv h' tk kept sz
    exact last (I.kept (t' := tk) kept) (ExtN.refl H) hT hco sz
  | none =>
    refine PySem.W.kla_makeFunction (mg := X.mg) (c := c) (P := P) (ps := ps) (closure_ok hfree) I.ok.glob
      (I.mod.glob.keeps I.bk) code (TB.code.keeps I.bk) hp tri am TB.gP bl ?_
    rintro c' ctv h' tk but new lt ⟨_, oc, vs, t, e0, e1, e2, e3⟩ atP'
    cases e0
    have J := inv_table (t' := tk) (more := #[rawInt pos.line, rawInt pos.col, .ref c']) (h' := h') I atP (fun b o n e => but b o n e) atP' new ⟨oc, vs, t, e1, e2, e3⟩
    have nC : H c' = none := I.hok.fresh new
    have ext : ExtN H (upd (upd H P (.tbl (ps ++ #[rawInt pos.line, rawInt pos.col, .ref c']))) c' (CodeO c' (X.env.qual ++ "<lambda>"))) := by
      intro b o e n
      have bP : b ≠ P := by
        rintro rfl
        rw [atP] at e
        exact n ps (Option.some.inj e).symm
      rw [upd_ne (ne_of_none e nC), upd_ne bP]
      exact e
    refine last J ext ?_ upd_same (Nat.le_trans new (Nat.le_of_lt lt))
    intro p hpT
    by_cases same : p.1 = P
    · rw [hu p hpT same, same]
      refine ⟨ps ++ #[rawInt pos.line, rawInt pos.col, .ref c'], ?_, ?_, ?_⟩
      · rw [upd_ne (ne_of_none atP nC), upd_same]
      · rw [show (ps ++ #[rawInt pos.line, rawInt pos.col, Value.ref c']).toList = ps.toList ++ [rawInt pos.line, rawInt pos.col, .ref c'] by simp]
        exact PySem.TriplesOk_snoc _ _ _ _ tri
      · intro pos2 cv2 am2
        have am3 : codeAmong pos2 (ps.toList ++ [rawInt pos.line, rawInt pos.col, .ref c']) = some cv2 := by simpa using am2
        rcases among_app _ tri am3 with old | rfl
        · obtain ⟨c0, e4, e5⟩ := amg pos2 cv2 old
          exact ⟨c0, e4, ext _ _ e5 codeO_ne⟩
        · exact ⟨c', rfl, upd_same⟩
    · obtain ⟨ps2, b1, b2, b3⟩ := hT p hpT
      refine ⟨ps2, ?_, b2, fun pos2 cv2 am2 => ?_⟩
      · rw [upd_ne (ne_of_none b1 nC), upd_ne same]
        exact b1
      · obtain ⟨c0, e4, e5⟩ := b3 pos2 cv2 am2
        exact ⟨c0, e4, ext _ _ e5 codeO_ne⟩
/-- a lambda as a value -/
def tLamV (T : List (Addr × Str)) (mk : Addr → NF) (body : Expr) : TE := fun _ H Q => Tabs T H ∧ ∀ (f c' : Addr) (H1 : Hp), ExtN H H1 → Tabs T H1 → H f = none →
  H1 f = some (CloO f (mk c') body) → H1 c' = some (CodeO c' (mk c').qual) → Q (.ref f) H1
theorem pe_lamV {T : List (Addr × Str)} {c P : Addr} {params : Arguments} {body : Expr} {scope : Scope} {pos : Pos}
    (TB : TabB X.base X.mg c P) (code : X.env.code = .ref c) (hm : (P, X.env.qual ++ "<lambda>") ∈ T)
    (hu : ∀ p ∈ T, p.1 = P → p.2 = X.env.qual ++ "<lambda>") (hdef : defaultsOf params X.env = ([], []))
    (L : ∀ y ∈ scope.names, y.2 = .free → X.env.scope.names.lookup y.1 = some .cell ∨ X.env.scope.names.lookup y.1 = some .free) :
    PE X (.Lambda params body scope pos) (tLamV T (fun c' => ⟨"<lambda>", X.env.qual ++ "<lambda>", params, [], scope, cloFrom X.env.cells scope.names [], c'⟩) body) := by
  refine ⟨fun pins s σ H Q I h => ?_⟩
  refine lam_val I TB code hm hu h.1 hdef (fun y hy e => (L y hy e).elim (fun z => I.ok.has _ (.inl z)) fun z => I.ok.has _ (.inr z)) ?_
  intro f c' H1 s' J e t n1 n2 n3
  exact ⟨.ref f, H1, J, rfl, h.2 f c' H1 e t n1 n2 n3⟩
end
end Q
set_option Elab.async false
set_option linter.all false
set_option maxRecDepth 100000
set_option maxHeartbeats 4000000
/-! A closure's promise; cells that are pinned while a call runs. -/
namespace Q
open PySem PySem.Spec PyProof.Rows L2 LamX NdefX

/-- the promise of a lambda: ws: what its captured cells hold at the call -/
structure LOk (P : Program) (w : World) (K : PySem.W.Frag) (mg : Str → Option Value) (base : Heap) (k : Nat) (f : Addr) (F : NF) (body : Expr)
    (fr : List Str) (sp : List (Option V) → Hp → VK → XK → Prop) : Prop where
  run : ∀ (A : Around) (outer : List Env) (s : Shared) (H : Hp) (ws : List (Option V)) (Q : VK) (E : XK), Room k A → Env0 P w K mg base A outer s H →
    H f = some (CloO f F body) → H F.c = some (CodeO F.c F.qual) → CellsAt F.cl fr ws s.heap H → sp ws H Q E →
    codeAny (model P w) A (.call (.ref f) ⟨[], []⟩) (CR (L2.CX P w) outer P w H s Q E) s
section
variable {P : Program} {w : World} {K : PySem.W.Frag} {mg : Str → Option Value} {base : Heap} {N fr : List Str} {F : NF} {f : Addr} {body : Expr} {k : Nat}
  {sp : List (Option V) → Hp → VK → XK → Prop}
/-- a lambda by its body -/
theorem lok_of (S : NScope N [] fr F.scope) (hb : ∀ pm ctv : Value, bindArgs (PySem.W.kla_fn F.name F.qual F.params body F.scope F.cl pm (.ref F.c) ctv) ⟨[], []⟩ = pure [])
    (hbody : ∀ (A : Around) (outer : List Env) (s : Shared) (H : Hp) (ws : List (Option V)) (Q : VK) (E : XK), Room k (A.deeper (envF F f s.heap.objs.size)) → ws.length = fr.length → sp ws H Q E →
      ∃ t : TE, PE (ncx (L2.CX P w) P w K mg base N F f A outer s H E) body t ∧ t (startF N [] ws) H Q) :
    LOk P w K mg base (k + 1) f F body fr sp := by
  constructor
  intro A outer s H ws Q E hr e0 hf hc C hsp
  have lim : s.heap.NoLimit := e0.mod.nolimit.keeps fun b o e => (e0.bs b o e).1
  obtain ⟨pm, ctv, at_f⟩ := cloO_at e0.hok hf
  obtain ⟨t, ht, hq⟩ := hbody A outer s H ws Q E (hr.deeper _) C.len hsp
  refine PySem.W.kla_callFunE hr.depth at_f rfl S.co S.gen rfl (codeO_at e0.hok hc) ?_
  rw [hb pm ctv]
  refine wpAny_pure (wpAny_newFunctionEnv S.nocell (fun _ hy => nomatch hy) (fun h₁ hns hsb => ⟨lim.fresh _ hsb, ?_⟩) S.kind)
  have kp : ∀ b o, s.heap.get? b = some o → h₁.get? b = some o := by
    intro b o e
    exact hsb.extBut b o (Nat.ne_of_lt (Heap.lt_size e)) (Heap.get?_push_of_some _ e)
  have J := inv_startN (CX := L2.CX P w) (N := N) (F := F) (f := f) (E := E) (us := []) (vs := []) (tk := s.toks + ([] : List (Str × Value)).length) S hr.hd e0 rfl .nil C hns kp
  show codeAny _ _ (.expr body (envF F f s.heap.objs.size)) _ _
  refine PySem.W.kla_codeExpr (wpAny_mono (ht.run [] _ (startF N [] ws) H Q J hq) ?_ fun _ _ z => z)
  rintro u s' ⟨v, H', J', rv, q⟩
  exact ⟨v, H', J'.os, J'.bare, J'.base, J'.hok, rv, q⟩
end

/-! ### pins -/
/-- at c stands just this object -/
def PinO (c : Addr) (ob : Obj) : HO := .ext fun h => h.get? c = some ob
abbrev Pl := List (Addr × Obj)
def addP (pl : Pl) (H : Hp) : Hp := fun b => match pl.lookup b with
  | some ob => some (PinO b ob)
  | none => H b
def delP (pl : Pl) (H : Hp) : Hp := fun b => match pl.lookup b with
  | some _ => none
  | none => H b
def Pinned (pl : Pl) (H : Hp) : Prop := ∀ b ob, pl.lookup b = some ob → H b = some (PinO b ob)
section
variable {pl : Pl} {H H' : Hp} {b : Addr} {o : HO} {ob : Obj}
theorem add_in (e : pl.lookup b = some ob) : addP pl H b = some (PinO b ob) := by
  unfold addP
  rw [e]
theorem add_out (e : pl.lookup b = none) : addP pl H b = H b := by
  unfold addP
  rw [e]
theorem del_in (e : pl.lookup b = some ob) : delP pl H b = none := by
  unfold delP
  rw [e]
theorem del_out (e : pl.lookup b = none) : delP pl H b = H b := by
  unfold delP
  rw [e]
theorem pinned_add : Pinned pl (addP pl H) := fun _ _ e => add_in e
theorem add_del (h : Pinned pl H) : addP pl (delP pl H) = H := by
  funext b
  cases e : pl.lookup b with
  | none => rw [add_out e, del_out e]
  | some ob => rw [add_in e, h b ob e]
theorem pin_ne {u : HO} (d : ∀ φ, u ≠ .ext φ) : PinO b ob ≠ u := fun z => d _ z.symm
end
/-- the pins lie free -/
def Free (pl : Pl) (H : Hp) (h : Heap) : Prop := ∀ b ob, pl.lookup b = some ob → H b = none ∧ h.get? b = some ob
section
variable {P : Program} {w : World} {pl : Pl} {H H' : Hp} {h h' : Heap}
theorem Free.old (fr : Free pl H h) {b : Addr} {o : HO} (e : H b = some o) : pl.lookup b = none := by
  cases z : pl.lookup b with
  | none => rfl
  | some ob =>
    rw [(fr b ob z).1] at e
    cases e
theorem Free.add (fr : Free pl H h) {b : Addr} {o : HO} (e : H b = some o) : addP pl H b = some o := by
  rw [add_out (fr.old e)]
  exact e
theorem Free.hok (fr : Free pl H h) (ok : HOk P w H h) : HOk P w (addP pl H) h := by
  intro b o e
  cases z : pl.lookup b with
  | some ob =>
    rw [add_in z] at e
    cases e
    have g := (fr b ob z).2
    exact ⟨g, ⟨ob, g⟩, fun h1 h2 e1 st => st _ e1⟩
  | none =>
    rw [add_out z] at e
    exact (ok b o e).stay (fun _ _ _ q => q) (fun c q => fr.add q) fun c xs q => fr.add q
theorem Pinned.old (pn : Pinned pl H) {b : Addr} {u : HO} (e : H b = some u) (d : ∀ φ, u ≠ .ext φ) : pl.lookup b = none := by
  cases z : pl.lookup b with
  | none => rfl
  | some ob =>
    rw [pn b ob z] at e
    exact absurd (Option.some.inj e) (pin_ne d)
theorem Pinned.hok (pn : Pinned pl H) (ok : HOk P w H h) : HOk P w (delP pl H) h := by
  intro b o e
  cases z : pl.lookup b with
  | some ob =>
    rw [del_in z] at e
    cases e
  | none =>
    rw [del_out z] at e
    exact (ok b o e).stay (fun _ _ _ q => q) (fun c q => by rw [del_out (pn.old q (fun _ z => nomatch z))]; exact q)
      fun c xs q => by rw [del_out (pn.old q (fun _ z => nomatch z))]; exact q
theorem Pinned.at_ (pn : Pinned pl H) (ok : HOk P w H h) : Free pl (delP pl H) h := fun b ob e => ⟨del_in e, (ok b _ (pn b ob e)).1⟩
/-- a run over the heap with pins, told without them -/
theorem Un.unpin {fs : List Addr} (fr : Free pl H h) (u : Un fs [] (addP pl H) H' h h') (ok : HOk P w H' h') (pn : Pinned pl H') : Un fs [] H (delP pl H') h h' where
  keep b o e n nf nx := by
    cases z : pl.lookup b with
    | some ob =>
      rw [(fr b ob z).2] at e
      cases e
      exact (ok b _ (pn b _ z)).1
    | none => exact u.keep b o e (by rw [add_out z]; exact n) nf nx
  slot b o e n hf nx := by
    cases z : pl.lookup b with
    | some ob =>
      rw [(fr b ob z).2] at e
      cases e
      exact ⟨o.slots, (ok b _ (pn b _ z)).1⟩
    | none => exact u.slot b o e (by rw [add_out z]; exact n) hf nx
  free b o e n nx := by
    cases z : pl.lookup b with
    | some ob => exact del_in z
    | none =>
      rw [del_out z]
      exact u.free b o e (by rw [add_out z]; exact n) nx
  there := u.there
  tups b xs e := by
    rw [del_out (fr.old e)]
    exact u.tups b xs (fr.add e)
  frzs b o x e := by
    rw [del_out (fr.old e)]
    exact u.frzs b o x (fr.add e)
  tbls b ps e := by
    rw [del_out (fr.old e)]
    exact u.tbls b ps (fr.add e)
/-- a run without the pins, told with them -/
theorem Un.repin {fs : List Addr} (pn : Pinned pl H) (ok : HOk P w H h) (nf : ∀ b ob, pl.lookup b = some ob → b ∉ fs) (u : Un fs [] (delP pl H) H' h h') : Un fs [] H (addP pl H') h h' ∧ Free pl H' h' := by
  have fr := pn.at_ ok
  have out : ∀ {b}, H b = none → pl.lookup b = none := fun {b} n => by
    cases z : pl.lookup b with
    | none => rfl
    | some ob =>
      rw [pn b ob z] at n
      cases n
  refine ⟨⟨fun b o e n => u.keep b o e (by rw [del_out (out n)]; exact n), fun b o e n => u.slot b o e (by rw [del_out (out n)]; exact n), fun b o e n nx => ?_, u.there, fun b xs e => ?_, fun b o x e => ?_, fun b ps e => ?_⟩, fun b ob e => ?_⟩
  · rw [add_out (out n)]
    exact u.free b o e (by rw [del_out (out n)]; exact n) nx
  · have z := pn.old e (fun _ z => nomatch z)
    rw [add_out z]
    exact u.tups b xs (by rw [del_out z]; exact e)
  · have z := pn.old e (fun _ z => nomatch z)
    rw [add_out z]
    exact u.frzs b o x (by rw [del_out z]; exact e)
  · have z := pn.old e (fun _ z => nomatch z)
    rw [add_out z]
    exact u.tbls b ps (by rw [del_out z]; exact e)
  · obtain ⟨n, g⟩ := fr b ob e
    exact ⟨u.free b ob g n List.not_mem_nil, u.keep b ob g n (nf b ob e) List.not_mem_nil⟩
end
end Q
set_option Elab.async false
set_option linter.all false
set_option maxRecDepth 100000
set_option maxHeartbeats 4000000
/-! A closure called where its cells are pinned. -/
namespace Q
open PySem PySem.Spec PyProof.Rows L2 LamX NdefX

/-- the pins are the closure's cells, ws what they hold -/
structure PinCells (cl : List (Str × Addr)) (fr : List Str) (ws : List (Option V)) (pl : Pl) : Prop where
  len : ws.length = fr.length
  data : ∀ b ob, pl.lookup b = some ob → ∃ v, ob.data = .cell v
  all : ∀ y c, cl.lookup y = some c → ∃ ob, pl.lookup c = some ob
  inj : ∀ x y c, cl.lookup x = some c → cl.lookup y = some c → x = y
  has : ∀ (i : Nat) (y : Str), fr[i]? = some y → ∃ c, cl.lookup y = some c ∧ ∀ v, ws[i]? = some (some v) → ∃ u ob, L2.RelV v u ∧ pl.lookup c = some ob ∧ ob.data = .cell (some u)
section
variable {cl : List (Str × Addr)} {fr : List Str} {ws : List (Option V)} {pl : Pl} {H : Hp} {h : Heap}
theorem PinCells.cells (pc : PinCells cl fr ws pl) (fr' : Free pl H h) : CellsAt cl fr ws h H := by
  refine ⟨pc.len, fun y c e => ?_, pc.inj, fun i y e => ?_⟩
  · obtain ⟨ob, eo⟩ := pc.all y c e
    obtain ⟨v, ev⟩ := pc.data c ob eo
    exact ⟨(fr' c ob eo).1, v, ob, (fr' c ob eo).2, ev⟩
  · obtain ⟨c, ec, hv⟩ := pc.has i y e
    refine ⟨c, ec, fun v ev => ?_⟩
    obtain ⟨u, ob, rv, eo, ed⟩ := hv v ev
    exact ⟨u, rv, ob, (fr' c ob eo).2, ed⟩
/-- the pins of cells -/
theorem pins_of (C : CellsAt cl fr ws h H) : ∃ pl, PinCells cl fr ws pl ∧ Free pl H h ∧ ∀ b ob, pl.lookup b = some ob → ∃ y, cl.lookup y = some b := by
  have key : ∀ (l : List (Str × Addr)), (∀ p ∈ l, p ∈ cl) → ∃ pl : Pl, (∀ b ob, pl.lookup b = some ob → h.get? b = some ob ∧ ∃ y, cl.lookup y = some b) ∧ ∀ p ∈ l, cl.lookup p.1 = some p.2 → ∃ ob, pl.lookup p.2 = some ob := by
    intro l
    induction l with
    | nil => exact fun _ => ⟨[], fun b ob e => (nomatch e), fun p hp => (nomatch hp)⟩
    | cons p l ih =>
      intro hl
      obtain ⟨pl, q1, q2⟩ := ih fun x hx => hl x (List.mem_cons_of_mem _ hx)
      by_cases e : cl.lookup p.1 = some p.2
      · obtain ⟨_, v, o, ho, _⟩ := C.all p.1 p.2 e
        refine ⟨(p.2, o) :: pl, fun b ob eb => ?_, fun x hx ex => ?_⟩
        · by_cases z : b = p.2
          · subst z
            simp only [List.lookup, beq_self_eq_true] at eb
            cases eb
            exact ⟨ho, p.1, e⟩
          · have z2 : (b == p.2) = false := beq_false_of_ne z
            simp only [List.lookup, z2] at eb
            exact q1 b ob eb
        · by_cases z : x.2 = p.2
          · exact ⟨o, by rw [z]; simp [List.lookup]⟩
          · have z2 : (x.2 == p.2) = false := beq_false_of_ne z
            rcases List.mem_cons.mp hx with rfl | hx
            · exact absurd rfl z
            · obtain ⟨ob, eo⟩ := q2 x hx ex
              exact ⟨ob, by simp only [List.lookup, z2]; exact eo⟩
      · refine ⟨pl, q1, fun x hx ex => ?_⟩
        rcases List.mem_cons.mp hx with rfl | hx
        · exact absurd ex e
        · exact q2 x hx ex
  obtain ⟨pl, q1, q2⟩ := key cl fun _ h => h
  have got : ∀ y c, cl.lookup y = some c → ∃ ob, pl.lookup c = some ob ∧ h.get? c = some ob := fun y c e => by
    obtain ⟨ob, eo⟩ := q2 (y, c) (PySem.mem_of_lookup e) e
    exact ⟨ob, eo, (q1 c ob eo).1⟩
  refine ⟨pl, ⟨C.len, fun b ob e => ?_, fun y c e => let ⟨ob, eo, _⟩ := got y c e; ⟨ob, eo⟩, C.inj, fun i y e => ?_⟩, fun b ob e => ?_, fun b ob e => (q1 b ob e).2⟩
  · obtain ⟨g, y, ey⟩ := q1 b ob e
    obtain ⟨_, v, o, ho, hd⟩ := C.all y b ey
    rw [g] at ho
    cases ho
    exact ⟨v, hd⟩
  · obtain ⟨c, ec, hv⟩ := C.has i y e
    refine ⟨c, ec, fun v ev => ?_⟩
    obtain ⟨u, rv, o, ho, hd⟩ := hv v ev
    obtain ⟨ob, eo, go⟩ := got y c ec
    rw [ho] at go
    cases go
    exact ⟨u, o, rv, eo, hd⟩
  · obtain ⟨g, y, ey⟩ := q1 b ob e
    exact ⟨(C.all y b ey).1, g⟩
end
section
variable {P : Program} {w : World} {K : PySem.W.Frag} {mg : Str → Option Value} {base : Heap} {fr : List Str} {F : NF} {f : Addr} {body : Expr} {k : Nat}
  {sp : List (Option V) → Hp → VK → XK → Prop} {pl : Pl}
theorem env0_del {A : Around} {outer : List Env} {s : Shared} {H : Hp} (e0 : Env0 P w K mg base A outer s H) (pn : Pinned pl H) : Env0 P w K mg base A outer s (delP pl H) := by
  have low : ∀ b, H b = none → delP pl H b = none := fun b n => by
    unfold delP
    split
    · rfl
    · exact n
  exact ⟨e0.frames, e0.mod, fun b o e => ⟨(e0.bs b o e).1, low b (e0.bs b o e).2⟩, e0.bsz, e0.funs, fun b hb => low b (e0.frf b hb), pn.hok e0.hok, e0.bare⟩
theorem env0_add {A : Around} {outer : List Env} {s : Shared} {H : Hp} (e0 : Env0 P w K mg base A outer s H) (fr : Free pl H s.heap) (nb : ∀ b ob, pl.lookup b = some ob → base.get? b = none ∧ b ∉ frs outer) : Env0 P w K mg base A outer s (addP pl H) := by
  refine ⟨e0.frames, e0.mod, fun b o e => ⟨(e0.bs b o e).1, ?_⟩, e0.bsz, e0.funs, fun b hb => ?_, fr.hok e0.hok, e0.bare⟩
  · cases z : pl.lookup b with
    | none =>
      rw [add_out z]
      exact (e0.bs b o e).2
    | some ob =>
      rw [(nb b ob z).1] at e
      cases e
  · cases z : pl.lookup b with
    | none =>
      rw [add_out z]
      exact e0.frf b hb
    | some ob => exact absurd hb (nb b ob z).2
/-- nothing is tracked where the pins lie -/
def Offp (pl : Pl) (H : Hp) : Prop := ∀ b ob, pl.lookup b = some ob → H b = none
/-- the promise where the cells are pinned -/
theorem LOk.pinned (L : LOk P w K mg base k f F body fr sp) {A : Around} {outer : List Env} {s : Shared} {H : Hp} {ws : List (Option V)} {Q : VK} {E : XK} (hr : Room k A) (e0 : Env0 P w K mg base A outer s H)
    (hf : H f = some (CloO f F body)) (hc : H F.c = some (CodeO F.c F.qual)) (pn : Pinned pl H) (pc : PinCells F.cl fr ws pl)
    (q : sp ws (delP pl H) (fun v H' => Offp pl H' → Q v (addP pl H')) (fun c d H' => Offp pl H' → E c d (addP pl H'))) :
    codeAny (model P w) A (.call (.ref f) ⟨[], []⟩) (CR (L2.CX P w) outer P w H s Q E) s := by
  have f1 := pn.at_ e0.hok
  have cells := pc.cells f1
  have nof : ∀ b ob, pl.lookup b = some ob → b ∉ frs outer := fun b ob e hb => by
    have z := e0.frf b hb
    rw [pn b ob e] at z
    cases z
  have hf' : delP pl H f = some (CloO f F body) := by
    cases z : pl.lookup f with
    | none =>
      rw [del_out z]
      exact hf
    | some ob =>
      obtain ⟨v, ev⟩ := pc.data f ob z
      obtain ⟨pm, ctv, g⟩ := cloO_at e0.hok hf
      rw [(f1 f ob z).2] at g
      cases g
      cases ev
  have hc' : delP pl H F.c = some (CodeO F.c F.qual) := by
    cases z : pl.lookup F.c with
    | none =>
      rw [del_out z]
      exact hc
    | some ob =>
      obtain ⟨v, ev⟩ := pc.data F.c ob z
      obtain ⟨⟨oc, vs, t, g, d, _⟩, _, _⟩ := e0.hok F.c _ hc
      rw [(f1 F.c ob z).2] at g
      cases g
      rw [ev] at d
      cases d
  refine codeAny_mono (L.run A outer s (delP pl H) ws _ _ hr (env0_del e0 pn) hf' hc' cells q) fun r s' hq => ?_
  match r, hq with
  | .error e, hq =>
    obtain ⟨a, B, H', cls, d, rfl, fl, ok, ub, na, os, bare, hE⟩ := hq
    have fB : Free pl H' B := fun b ob e => ⟨ub.free b ob (f1 b ob e).2 (f1 b ob e).1, ub.keep b ob (f1 b ob e).2 (f1 b ob e).1 (nof b ob e)⟩
    have out : ∀ {b}, H b = none → pl.lookup b = none := fun {b} n => by
      cases z : pl.lookup b with
      | none => rfl
      | some ob =>
        rw [pn b ob z] at n
        cases n
    have na2 : pl.lookup a = none := by
      cases z : pl.lookup a with
      | none => rfl
      | some ob =>
        have z2 := (fB a ob z).2
        rw [fl.2.1] at z2
        cases z2
    refine ⟨a, B, addP pl H', cls, d, rfl, fl, fB.hok ok, ⟨fun b o e n => ub.keep b o e (by rw [del_out (out n)]; exact n), ub.slot, fun b o e n => ?_, ub.there, fun b xs e => ?_, fun b o x e => ?_, fun b ps e => ?_⟩, ?_, os, bare, hE fun b ob e => (fB b ob e).1⟩
    · rw [add_out (out n)]
      exact ub.free b o e (by rw [del_out (out n)]; exact n)
    · have z := pn.old e (fun _ z => nomatch z)
      rw [add_out z]
      exact ub.tups b xs (by rw [del_out z]; exact e)
    · have z := pn.old e (fun _ z => nomatch z)
      rw [add_out z]
      exact ub.frzs b o x (by rw [del_out z]; exact e)
    · have z := pn.old e (fun _ z => nomatch z)
      rw [add_out z]
      exact ub.tbls b ps (by rw [del_out z]; exact e)
    · rw [add_out na2]
      exact na
  | .ok (.ret u), hq =>
    obtain ⟨v, H', os, bare, un, ok, rv, qq⟩ := hq
    obtain ⟨un2, f2⟩ := Un.repin pn e0.hok nof un
    exact ⟨v, addP pl H', os, bare, un2, f2.hok ok, rv, qq fun b ob e => (f2 b ob e).1⟩
/-- what a call of the closure asks where its cells are pinned -/
def tlPin (f : Addr) (F : NF) (body : Expr) (sp : List (Option V) → Hp → VK → XK → Prop) (ws : List (Option V)) (pl : Pl) : XK → Hp → VK → Prop := fun E H Q =>
  H f = some (CloO f F body) ∧ Pinned pl H ∧ sp ws (delP pl H) (fun v H' => Offp pl H' → Q v (addP pl H')) (fun c d H' => Offp pl H' → E c d (addP pl H'))
/-- x(), in a def that got the closure -/
theorem pe_actP {Ng : List Str} {qg : Str} {sg : Scope} {g : Addr} {cdg : Value} {A : Around} {outer : List Env} {s : Shared} {H : Hp} {Eg : XK} {CXg : CXT} {i : Nat} {a : Str} {pn : List (Addr × Obj)} {xe : Value → Shared → Prop} {W : WX} {E : XK} {ws : List (Option V)} {p1 p2 : Pos}
    (L : LOk P w K mg base k f F body fr sp) (pc : PinCells F.cl fr ws pl) (tk : Takes ((cxOf CXg P w K mg base Ng qg sg g cdg A outer s H Eg).tr pn xe) W) (hW : ∀ cls d σ' H', E cls d H' → W cls d σ' H')
    (hr : Room k (A.deeper (envOfC qg sg s.heap.objs.size g cdg))) (hN : Ng[i]? = some a) (hv : Vis sg a) (hd : (a == ("__debug__" : Str)) = false := by decide) (hcd : (a == ("__classdict__" : Str)) = false := by decide) :
    PE ((cxOf CXg P w K mg base Ng qg sg g cdg A outer s H Eg).tr pn xe) (.Call (.Name a p1) [] [] p2)
      (fun σZ HZ Q => σZ[i]? = some (some (.ref f)) ∧ HZ F.c = some (CodeO F.c F.qual) ∧ tlPin f F body sp ws pl E HZ Q) := by
  refine ⟨fun pinsZ sZ σZ HZ Q IZ h => ?_⟩
  obtain ⟨hs, hc, hf, pin, hq⟩ := h
  refine wpAny_Call_Name_kw (thn ((pe_var (pos := p1) (i := i) hN hv hd hcd).run pinsZ sZ σZ HZ (fun v H1 => v = .ref f ∧ H1 = HZ) IZ ⟨.ref f, hs, rfl, rfl⟩) ?_)
  rintro u s1 ⟨v, H1, I1, r1, rfl, rfl⟩
  obtain rfl : u = Value.ref f := r1
  obtain ⟨pm, ctv, at_f⟩ := cloO_at I1.hok hf
  refine PySem.W.callWith_F0 (first := []) ⟨_, _, _, _, at_f⟩ ?_
  refine wpAny_call (codeAny_mono (L.pinned hr I1.env0 hf hc pin pc hq) fun r s' hr' => ?_)
  match r, hr' with
  | .error e, hr' => exact passes_call tk hW pinsZ σZ _ s1 e s' I1 hr'
  | .ok (.ret u), hr' => exact I1.after hr'
end
end Q
set_option Elab.async false
set_option linter.all false
set_option maxRecDepth 100000
set_option maxHeartbeats 4000000
/-! A list comprehension whose element leans on the frame around it. -/
namespace Q
open PySem PySem.Spec PyProof.Rows L2 LamX NdefX
section
variable {X : Cx}
/-- [elt for tg in iter]: the element may lean on the state that the block began with -/
theorem pe_lcI {elt tg iter : Expr} {scope : Scope} {own : List (Str × Nat)} {pos : Pos} {wi : TI} {g : TG} {te : TE} (calm : X.calm = true) (nodup : X.N.Nodup)
    (src : PI X tg iter wi) (blk : BlkOk X.N X.env.scope scope own)
    (tgt : ∀ (s : Shared) (H : Hp) (C : Addr) (cl : List (Str × Addr)) (fp : List Addr), PG (X.blk s H scope (compEnvC scope cl C X.env) fp) tg g)
    (el : ∀ (pins : List (Addr × Obj)) (σ : L2.St) (s : Shared) (H : Hp) (C : Addr) (cl : List (Str × Addr)) (fp : List Addr), Inv X pins σ H s → (∀ b ∈ fp, FpOk X pins H b) →
      PE (X.blk s H scope (compEnvC scope cl C X.env) fp) elt (fun σ' H' Q => wipe σ' (own.map (·.2)) = wipe σ (own.map (·.2)) ∧ te σ' H' Q))
    (fold : ∀ x, foldedSetIterable iter X.env x = pure x := by intro _; rfl) :
    PE X (.ListComp elt [⟨tg, iter, [], 0⟩] scope pos) (tLc wi g tYes te (own.map (·.2))) := by
  constructor
  intro pins s σ H Q I h
  rw [eval_ListComp]
  have closed : ∀ y ∈ scope.names, y.2 = .free → ∃ c, X.env.cells.lookup y.1 = some c := by
    intro y hy e
    rcases blk.free y hy e with z | z
    · exact I.ok.has _ (.inl z)
    · exact I.ok.has _ (.inr z)
  refine wpAny_comprehension_free (use := none) rfl fold (closure_ok closed) blk.kind (fun y hy e => ?_)
    (thn (src.run pins s σ H _ I h) ?_)
  · rw [blk.uniq y hy, e]
  intro xv sA hx
  refine thn hx ?_
  rintro itv sB ⟨it, fp, tn, J, HB, rfl, IB, T, tnB, fpB, rest⟩
  refine wpAny_newObj_type (newEnv_comp ?_) (by show 0 ≤ sizeLine; decide)
  -- the list, empty
  generalize eD : sB.heap.objs.size = D
  have freeD : HB D = none := IB.hok.fresh (Nat.le_of_eq eD)
  obtain ⟨W, ⟨m0, start⟩, turns⟩ := rest D freeD
  generalize eC : ({ sB with heap := sB.heap.push { cls := .type "list", data := .seq ([] : List Value).toArray } } : Shared) = sC
  have hC : sC.heap = sB.heap.push { cls := .type "list", data := .seq ([] : List Value).toArray } := by rw [← eC]
  have topD : sC.heap.get? D = some { cls := .type "list", data := .seq ([] : List Value).toArray } := by
    rw [hC, ← eD]
    exact Heap.get?_push_size _ rfl
  have IC : Inv X pins σ (upd HB D (.lst [])) sC := by
    subst eC
    exact IB.laid (t' := sB.toks) (fun _ _ e => Heap.get?_push_of_some _ e) (Nat.le_of_eq eD) ⟨Nat.zero_le _, [], 0, .nil, topD⟩
  have below : ∀ b ∈ fp, b < sB.heap.objs.size := by
    intro b hb
    obtain ⟨o, e, _⟩ := T.obj _ _ tnB b hb
    exact Heap.lt_size e
  have offD : ∀ b ∈ fp, b ≠ D := fun b hb => by
    rw [← eD]
    exact Nat.ne_of_lt (below b hb)
  have fpC : ∀ b ∈ fp, FpOk X pins (upd HB D (.lst [])) b := fun b hb => ⟨(upd_ne (offD b hb)).trans (fpB b hb).1, (fpB b hb).2⟩
  have fpC2 : ∀ b ∈ fp, FpOk X pins (upd HB D (.lst [])) b ∧ b < sC.heap.objs.size := by
    refine fun b hb => ⟨fpC b hb, ?_⟩
    rw [hC, Heap.size_push]
    exact Nat.lt_succ_of_lt (below b hb)
  have tnC : tn 0 sC.heap := T.keep _ _ _ tnB fun b _ o e => by
    rw [hC]
    exact Heap.get?_push_of_some _ e
  generalize eH : upd HB D (.lst []) = HC at IC fpC fpC2 start
  have ID := block_start IC blk nodup fpC2
  generalize eCl : cellsFrom (sC.heap.objs.size + 1) scope.names (cloFrom X.env.cells scope.names []) = cl at ID
  have pTgt := tgt sC HC sC.heap.objs.size cl fp
  have pEl := el pins σ sC HC sC.heap.objs.size cl fp IC fpC
  show codeAny _ _ (.compStart (.ListComp elt [⟨tg, iter, [], 0⟩] scope pos) 0 (.ref it) (.ref D)
    (compEnvC scope cl sC.heap.objs.size X.env))
    (compPost (model X.prog X.w) X.A X.xe none _ (.ref D) sC.heap.objs.size) { sC with heap := pushCells (sC.heap.push { cls := .type "dict", data := .dict #[] }) scope.names }
  have eL : (compEnvC scope cl sC.heap.objs.size X.env).locals = sC.heap.objs.size := rfl
  generalize eE : compEnvC scope cl sC.heap.objs.size X.env = ce at ID pTgt pEl eL ⊢
  generalize eS : ({ sC with heap := pushCells (sC.heap.push { cls := .type "dict", data := .dict #[] }) scope.names } : Shared) = sD at ID ⊢
  have tnD : tn 0 sD.heap := T.keep _ _ _ tnC fun b _ o e => by
    rw [← eS]
    exact pushCells_keeps _ _ _ _ (Heap.get?_push_of_some _ e)
  have still : ∀ {σ' : L2.St} {H' : Hp} {s' : Shared}, Inv (X.blk sC HC scope ce fp) [] σ' H' s' → (∀ b ∈ fp, H' b = none) → ∀ b ∈ fp, FpOk (X.blk sC HC scope ce fp) [] H' b := by
    intro σ' H' s' I' n b hb
    have q := I'.ok.exf b hb
    exact ⟨n b hb, q.1, I'.ok.exfs b hb, .inl hb, fun x c e => q.2 x c e, fun p hp => nomatch (show p ∈ ([] : List (Addr × Obj)) from hp)⟩
  have loop : codeAny (model X.prog X.w) X.A (.compLoop (.ListComp elt [⟨tg, iter, [], 0⟩] scope pos) 0 (.ref it) (.ref D) ce)
      (compPost (model X.prog X.w) X.A X.xe none (EP X pins σ Q) (.ref D) sC.heap.objs.size) sD := by
    refine compLoop_any (fun m s' => ∃ i H', Inv (X.blk sC HC scope ce fp) [] (wipe σ (own.map (·.2))) H' s' ∧ tn i s'.heap ∧ (∀ b ∈ fp, H' b = none) ∧ W i m H')
      ?_ m0 ⟨0, HC, ID, tnD, fun b hb => (fpC b hb).1, start⟩
    rintro m s5 ⟨i, H5, I5, tn5, n5, w5⟩
    rcases turns i m H5 w5 with ⟨stop, fin⟩ | ⟨go, Nx, next, step⟩
    · refine thnF (T.done (X.blk sC HC scope ce fp) rfl rfl rfl calm i [] s5 _ H5 (fun _ _ => False) I5 (still I5 n5) tn5 stop) ?_
      rintro r s6 ⟨rfl, I6⟩
      have back : Inv X pins σ H5 s6 := IC.call' (ch := fp) I6.os I6.base I6.hok I6.bare fun b hb => by
        obtain ⟨_, a1, _, a3, a4, a5⟩ := fpC b hb
        exact ⟨a3, a1, a4, a5⟩
      have none5 : H5 sC.heap.objs.size = none := by
        rw [← eL]
        exact I6.free
      obtain ⟨mp, ns, _⟩ := I6.loc
      have ns : s6.heap.Ns ce.locals mp := ns
      rw [eL] at ns
      obtain ⟨f0, f1, f2, f3, f4, f5⟩ := IC.fpOk (H' := H5) (Nat.le_refl _) none5
      exact ⟨mp, ns, fun h7 sb => ⟨.ref D, H5, back.turned (t' := s6.toks) (fun b o hb e => (sb.2 b hb).trans e) f0 f1 f3 f4 f5, rfl, fin⟩⟩
    · refine thnF (T.item (X.blk sC HC scope ce fp) rfl rfl rfl calm i [] s5 _ H5 (fun _ _ => False) I5 (still I5 n5) tn5 go) ?_
      rintro r s6 ⟨u, rfl, more⟩
      refine thnF more ?_
      rintro _ s7 ⟨x, H7, I7, r7, y7, tn7, n7⟩
      have J7 := I7.pinned (still I7 n7) (T.obj _ _ tn7)
      refine thnF (pTgt.run _ s7 _ H7 x u _ J7 r7 (step x H7 y7)) ?_
      rintro _ s8 ⟨σ8, H8, I8, keepW, q8⟩
      refine thnF ((pts_nil (X := X.blk sC HC scope ce fp)).run _ s8 σ8 H8 _ I8 q8) ?_
      rintro b s9 ⟨H9, I9, q9⟩
      have close : ∀ {s' : Shared} {H' : Hp}, Inv (X.blk sC HC scope ce fp) ([] ++ pinsAt fp s7.heap) σ8 H' s' → Nx H' →
          ∃ m', m' < m ∧ ∃ i H', Inv (X.blk sC HC scope ce fp) [] (wipe σ (own.map (·.2))) H' s' ∧ tn i s'.heap ∧ (∀ b ∈ fp, H' b = none) ∧ W i m' H' := by
        intro s' H' I' nx
        obtain ⟨m', lt, w'⟩ := next H' nx
        have fixed : ∀ b ∈ fp, ∀ o, s7.heap.get? b = some o → s'.heap.get? b = some o ∧ H' b = none := by
          intro b hb o e
          have z := I'.pin (b, o) (List.mem_append_right _ (List.mem_append_right _ (mem_pinsAt hb e)))
          exact ⟨z.1, z.2.1⟩
        refine ⟨m', lt, i + 1, H', (I'.unpinned (pins := [])).weak ?_ ?_, T.keep _ _ _ tn7 fun b hb o e => (fixed b hb o e).1, ?_, w'⟩
        · rw [← keepW, wipe_length]
        · intro j v e
          rw [← keepW] at e
          exact (wipe_some e).1
        · intro b hb
          obtain ⟨o, e, _⟩ := T.obj _ _ tn7 b hb
          exact (fixed b hb o e).2
      match b, q9 with
      | false, q9 => exact close I9 q9
      | true, q9 =>
        refine thnF (pEl.run _ s9 σ8 H9 _ I9 ⟨keepW, q9⟩) ?_
        rintro z s10 ⟨yv, H10, I10, r10, acc, atD, few, nx⟩
        exact app_ok (X := X.blk sC HC scope ce fp) I10 atD few r10 fun s11 I11 => close I11 nx
  exact codeAny_compStart_list loop (T.self X.A 0 _ _ _ tnD loop)
end
end Q
set_option Elab.async false
set_option linter.all false
set_option maxRecDepth 100000
set_option maxHeartbeats 4000000
/-! A def called in a comprehension's block while the cells of the frame around it are pinned. -/
namespace Q
open PySem PySem.Spec PyProof.Rows L2 LamX NdefX
theorem wipe_slot {σ σ' : L2.St} : ∀ {vs : List Nat}, wipe σ' vs = wipe σ vs → ∀ {j : Nat}, j ∉ vs → σ'[j]? = σ[j]? := by
  have out : ∀ (τ : L2.St) (vs : List Nat) (j : Nat), j ∉ vs → (wipe τ vs)[j]? = τ[j]? := by
    intro τ vs
    induction vs with
    | nil => exact fun _ _ => rfl
    | cons v vs ih =>
      intro j hj
      rw [List.mem_cons, not_or] at hj
      unfold wipe
      rw [List.getElem?_set_ne (fun z => hj.1 z.symm)]
      exact ih j hj.2
  intro vs e j hj
  rw [← out σ' vs j hj, ← out σ vs j hj, e]
/-- f(..) while the cells cl of the names at js are pinned -/
def tPin (cl : List (Str × Addr)) (fr : List Str) (js : List Nat) (sp : Sp) (t : TA) : TE := fun σ H Q =>
  ∀ pl, PinCells cl fr (js.map (NdefX.slotAt σ)) pl → (∀ b ob, pl.lookup b = some ob → H b = none) → t σ H fun vs H1 => H1 = H ∧ sp (vs ++ []) (addP pl H) (fun v H2 => Pinned pl H2 ∧ Q v (delP pl H2)) E0
section
variable {X : Cx}
theorem pe_callPin {scope : Scope} {C : Addr} {ccl : List (Str × Addr)} {fp : List Addr} {vs : List Nat} {pins : List (Addr × Obj)} {σ : L2.St} {s : Shared} {H : Hp} {cl : List (Str × Addr)} {fr : List Str} {js : List Nat} {k : Nat} {f : Addr} {fd : FuncData} {ps : List Str} {sp : Sp}
    {x : Str} {p pos : Pos} {e : Expr} {es : List Expr} {t : TA} (I : Inv X pins σ H s) (hfp : ∀ b ∈ fp, FpOk X pins H b) (cp : X.Ok → Caps X cl fr js) (made : ∀ y c, cl.lookup y = some c → X.fn y = true) (hj : ∀ j ∈ js, j ∉ vs)
    (F : FnG X.prog X.w X.K X.mg X.base CX0 k f fd ps sp) (hgd : X.A.guards = some []) (hr : Room k X.A) (hg : Gl (X.blk s H scope (compEnvC scope ccl C X.env) fp) x) (hm : X.mg x = some (.ref f))
    (hk : PySem.W.keepIn X.K (.ref f) = true) (hb : Binds X.K fd ps []) (ha : PA (X.blk s H scope (compEnvC scope ccl C X.env) fp) (e :: es) t) (hdb : (x == ("__debug__" : Str)) = false := by decide)
    (he : starEach (e :: es) (compEnvC scope ccl C X.env) = (false, eval e (compEnvC scope ccl C X.env)) :: starEach es (compEnvC scope ccl C X.env) := by rfl) (hpl : (backTo pos (starEach es (compEnvC scope ccl C X.env))).any (·.1) = false := by rfl) :
    PE (X.blk s H scope (compEnvC scope ccl C X.env) fp) (.Call (.Name x p) (e :: es) [] pos) (fun σ' H' Q => wipe σ' vs = wipe σ vs ∧ tPin cl fr js sp t σ' H' Q) := by
  have caps := cp I.ok
  have C0 := cells_of I caps
  obtain ⟨pl, pc, free0, src⟩ := pins_of C0
  have beyond : ∀ b ob, pl.lookup b = some ob → b ∉ frs X.stack ∧ b ∉ fp ∧ X.base.get? b = none := by
    intro b ob eb
    obtain ⟨y, ey⟩ := src b ob eb
    have ecell := caps.sub y b ey
    have high := I.ok.cab y b (made y b ey) ecell
    refine ⟨fun hb => ?_, fun hb => (hfp b hb).2.2.2.2.1 y b ecell rfl, ?_⟩
    · rcases List.mem_cons.mp (I.stkSub b hb) with z | z
      · exact I.cne y b ecell z
      · obtain ⟨_, o, ho, _⟩ := I.ok.funs.mem z
        exact Nat.lt_irrefl _ (Nat.lt_of_lt_of_le (Heap.lt_size ho) high)
    · exact Heap.get?_none_of_le (Nat.le_trans I.ok.bsz high)
  have later : ∀ {pins' : List (Addr × Obj)} {σ' : L2.St} {H' : Hp} {s' : Shared}, Inv (X.blk s H scope (compEnvC scope ccl C X.env) fp) pins' σ' H' s' → Free pl H' s'.heap := by
    intro pins' σ' H' s' J b ob eb
    obtain ⟨n, g⟩ := free0 b ob eb
    obtain ⟨q1, q2, _⟩ := beyond b ob eb
    exact ⟨J.base.free b ob g n q2, J.base.keep b ob g n q1 q2⟩
  constructor
  intro pins' s' σ' H' Q J h
  obtain ⟨same, h⟩ := h
  have slots : js.map (NdefX.slotAt σ') = js.map (NdefX.slotAt σ) := by
    refine List.map_congr_left fun j mj => ?_
    unfold NdefX.slotAt
    rw [wipe_slot same (hj j mj)]
  have q := h pl (by rw [slots]; exact pc) fun b ob eb => (later J b ob eb).1
  refine wpAny_Call_Name_kw (ld_glob J hg hm ?_ hdb)
  refine PySem.W.callWith_K (h₀ := X.base) J.ok.mod.kin hk ?_ he hpl
  refine thn (ha.run pos pins' s' σ' H' _ J q) ?_
  rintro us s1 ⟨vs1, H1, J1, rv, rfl, hsp⟩
  refine ⟨J1.kIn, ?_⟩
  have f1 := later J1
  have e0 : Env0 X.prog X.w X.K X.mg X.base X.A X.stack s1 H1 := J1.env0
  have r2 : Vals (vs1 ++ []) (us ++ []) := rv.append .nil
  have hl : (us ++ []).length = ps.length := r2.length.symm.trans (F.len _ _ _ _ hsp)
  have run := F.go X.A X.stack s1 (addP pl H1) ⟨us, []⟩ (us ++ []) (vs1 ++ []) _ E0 hgd hr
    (env0_add e0 f1 fun b ob eb => ⟨(beyond b ob eb).2.2, (beyond b ob eb).1⟩) (hb s1 us J1.kIn hl) r2 hsp
  refine wpAny_call (codeAny_mono run ?_)
  intro r s2 hq
  match r, hq with
  | .error er, hq => exact False.elim hq
  | .ok (.ret u), ⟨v, H2, os, bare, un, ok, ru, pn, qq⟩ => exact J1.after ⟨v, delP pl H2, os, bare, Un.unpin f1 un ok pn, pn.hok ok, ru, qq⟩
end
end Q
set_option Elab.async false
set_option linter.all false
set_option maxRecDepth 100000
set_option maxHeartbeats 4000000
/-! Tables of distances: what the rounds of shortening do to them. -/
namespace D7
open PySem L2
abbrev Tab := List (Str × Int)
def look (f : Tab) (x : Str) : Option Int := (f.find? fun p => decide (p.1 = x)).map (·.2)
def put (f : Tab) (x : Str) (v : Int) : Tab := if (look f x).isSome then f.map fun p => if p.1 = x then (p.1, v) else p else f ++ [(x, v)]
theorem look_nil (x : Str) : look [] x = none := rfl
theorem look_cons (p : Str × Int) (f : Tab) (x : Str) : look (p :: f) x = if p.1 = x then some p.2 else look f x := by
  unfold look
  rw [List.find?_cons]
  by_cases e : p.1 = x
  · simp [e]
  · simp [e]
theorem look_none {f : Tab} {x : Str} : look f x = none ↔ x ∉ f.map (·.1) := by
  induction f with
  | nil => simp [look_nil]
  | cons p f ih =>
    rw [look_cons]
    by_cases e : p.1 = x
    · rw [if_pos e]
      simp [e]
    · rw [if_neg e, ih, List.map_cons, List.mem_cons, not_or]
      exact ⟨fun z => ⟨fun y => e y.symm, z⟩, fun z => z.2⟩
theorem look_mem {f : Tab} {x : Str} {v : Int} (h : look f x = some v) : (x, v) ∈ f := by
  induction f with
  | nil => cases h
  | cons p f ih =>
    rw [look_cons] at h
    by_cases e : p.1 = x
    · rw [if_pos e] at h
      cases h
      rw [← e]
      exact List.mem_cons_self
    · rw [if_neg e] at h
      exact List.mem_cons_of_mem _ (ih h)
theorem look_of {f : Tab} (nd : (f.map (·.1)).Nodup) {p : Str × Int} (h : p ∈ f) : look f p.1 = some p.2 := by
  induction f with
  | nil => cases h
  | cons q f ih =>
    rw [look_cons]
    rw [List.map_cons, List.nodup_cons] at nd
    rcases List.mem_cons.mp h with rfl | h
    · rw [if_pos rfl]
    · rw [if_neg (fun e => nd.1 (by rw [e]; exact List.mem_map_of_mem h)), ih nd.2 h]
theorem look_map (f : Tab) (x y : Str) (v : Int) : look (f.map fun p => if p.1 = x then (p.1, v) else p) y = if y = x then (look f x).map (fun _ => v) else look f y := by
  induction f with
  | nil =>
    rw [List.map_nil, look_nil, look_nil]
    split <;> rfl
  | cons p f ih =>
    rw [List.map_cons, look_cons, look_cons, look_cons, ih]
    by_cases e : p.1 = x
    · rw [if_pos e]
      by_cases e2 : y = x
      · subst e2
        rw [if_pos e, if_pos rfl, if_pos e]
        rfl
      · rw [if_neg (fun z => e2 (z.symm.trans e)), if_neg e2, if_neg e2, if_neg (fun z => e2 (z.symm.trans e))]
    · rw [if_neg e]
      by_cases e2 : y = x
      · subst e2
        rw [if_neg e, if_pos rfl, if_pos rfl]
        rw [if_neg e]
      · rw [if_neg e2, if_neg e2]
theorem look_snoc (f : Tab) (x y : Str) (v : Int) (h : look f x = none) : look (f ++ [(x, v)]) y = if y = x then some v else look f y := by
  induction f with
  | nil =>
    rw [List.nil_append, look_cons, look_nil]
    by_cases e : y = x
    · rw [if_pos e, if_pos e.symm]
    · rw [if_neg e, if_neg (fun z => e z.symm)]
  | cons p f ih =>
    rw [look_cons] at h
    have e0 : ¬ p.1 = x := fun z => by
      rw [if_pos z] at h
      cases h
    rw [if_neg e0] at h
    rw [List.cons_append, look_cons, look_cons, ih h]
    by_cases e : p.1 = y
    · rw [if_pos e, if_pos e]
      rw [if_neg (fun z => e0 (e.trans z))]
    · rw [if_neg e, if_neg e]
theorem look_put (f : Tab) (x y : Str) (v : Int) : look (put f x v) y = if y = x then some v else look f y := by
  unfold put
  cases h : look f x with
  | none => exact look_snoc f x y v h
  | some u =>
    show look (f.map _) y = _
    rw [look_map, h]
    rfl
theorem keys_put {f : Tab} {x : Str} {v : Int} : (put f x v).map (·.1) = if (look f x).isSome then f.map (·.1) else f.map (·.1) ++ [x] := by
  unfold put
  split
  · rw [List.map_map]
    refine List.map_congr_left fun p _ => ?_
    show (if p.1 = x then (p.1, v) else p).1 = p.1
    split <;> rfl
  · rw [List.map_append]
    rfl
theorem nd_put {f : Tab} {x : Str} {v : Int} (h : (f.map (·.1)).Nodup) : ((put f x v).map (·.1)).Nodup := by
  rw [keys_put]
  split
  · exact h
  · rename_i e
    have e2 : look f x = none := by
      cases z : look f x with
      | none => rfl
      | some u => rw [z] at e; exact absurd rfl e
    refine List.nodup_append.mpr ⟨h, List.nodup_cons.mpr ⟨List.not_mem_nil, List.nodup_nil⟩, fun a ha b hb z => ?_⟩
    rw [List.mem_singleton.mp hb] at z
    subst z
    exact look_none.mp e2 ha
/-- as a dict -/
def V (f : Tab) : List (Key × L2.V) := f.map fun p => (.inr p.1, .int p.2)
theorem val_V (f : Tab) (x : Str) : valV (V f) (.inr x) = (look f x).map L2.V.int := by
  induction f with
  | nil => rfl
  | cons p f ih =>
    show valV ((.inr p.1, .int p.2) :: V f) (.inr x) = _
    rw [look_cons]
    by_cases e : p.1 = x
    · rw [if_pos e, valV_pos (by rw [e])]
      rfl
    · rw [if_neg e, valV_neg (fun z => e (Sum.inr.inj z)), ih]
theorem putK_V (f : Tab) (x : Str) (v : Int) : putK (V f) (.inr x) (.int v) = V (put f x v) := by
  unfold putK put
  rw [valV_any, val_V]
  cases h : look f x with
  | none =>
    show (V f ++ [(.inr x, .int v)]) = V (f ++ [(x, v)])
    unfold V
    rw [List.map_append]
    rfl
  | some u =>
    show (V f).map _ = V (f.map _)
    unfold V
    rw [List.map_map, List.map_map]
    refine List.map_congr_left fun p _ => ?_
    show (if (Sum.inr p.1 : Key) = .inr x then ((.inr p.1 : Key), L2.V.int v) else (.inr p.1, .int p.2)) = (.inr (if p.1 = x then (p.1, v) else p).1, .int (if p.1 = x then (p.1, v) else p).2)
    by_cases e : p.1 = x
    · rw [if_pos (by rw [e]), if_pos e]
    · rw [if_neg (fun z => e (Sum.inr.inj z)), if_neg e]
theorem len_V (f : Tab) : (V f).length = f.length := List.length_map ..
theorem nodup_len {α : Type} [DecidableEq α] : ∀ {l g : List α}, l.Nodup → (∀ x ∈ l, x ∈ g) → l.length ≤ g.length
  | [], g, _, _ => Nat.zero_le _
  | x :: l, g, nd, h => by
    rw [List.nodup_cons] at nd
    have hx := h x List.mem_cons_self
    have ih := nodup_len (l := l) (g := g.erase x) nd.2 fun y hy => (List.mem_erase_of_ne (fun e => nd.1 (by rw [← e]; exact hy))).mpr (h y (List.mem_cons_of_mem _ hy))
    rw [List.length_erase_of_mem hx] at ih
    have := List.length_pos_of_mem hx
    rw [List.length_cons]
    omega
/-- equal as dicts -/
def same (f g : Tab) : Bool := f.length == g.length && f.all fun p => decide (look g p.1 = some p.2)
theorem same_look {f g : Tab} (nf : (f.map (·.1)).Nodup) (ng : (g.map (·.1)).Nodup) (h : same f g = true) (x : Str) : look f x = look g x := by
  unfold same at h
  rw [Bool.and_eq_true, beq_iff_eq, List.all_eq_true] at h
  obtain ⟨hl, ha⟩ := h
  cases e : look f x with
  | some v =>
    have := of_decide_eq_true (ha _ (look_mem e))
    exact this.symm
  | none =>
    cases e2 : look g x with
    | none => rfl
    | some v =>
      exfalso
      have sub : ∀ y ∈ f.map (·.1), y ∈ g.map (·.1) := fun y hy => by
        obtain ⟨p, hp, rfl⟩ := List.mem_map.mp hy
        have := of_decide_eq_true (ha p hp)
        exact List.mem_map_of_mem (look_mem this)
      have mx : x ∈ g.map (·.1) := List.mem_map_of_mem (f := (·.1)) (look_mem e2)
      have nx : x ∉ f.map (·.1) := look_none.mp e
      have nd : (x :: f.map (·.1)).Nodup := List.nodup_cons.mpr ⟨nx, nf⟩
      have := nodup_len nd (g := g.map (·.1)) fun y hy => by
        rcases List.mem_cons.mp hy with rfl | hy
        · exact mx
        · exact sub y hy
      rw [List.length_cons, List.length_map, List.length_map] at this
      omega
theorem same_refl {f : Tab} (nf : (f.map (·.1)).Nodup) : same f f = true := by
  unfold same
  rw [Bool.and_eq_true, List.all_eq_true]
  exact ⟨by simp, fun p hp => decide_eq_true (look_of nf hp)⟩
/-! ### rounds of shortening -/
abbrev LK := Str → Str → Int → Prop
structure RelOk (R : LK) (zs : List Str) (L : Int) : Prop where
  few : zs.length ≤ 8
  nn : 0 ≤ L
  ok : ∀ a n x, R a n x → a ∈ zs ∧ n ∈ zs ∧ 1 ≤ x ∧ x ≤ L
structure Fd (R : LK) (zs : List Str) (d : Str) (L : Int) (f : Tab) : Prop where
  nd : (f.map (·.1)).Nodup
  sub : ∀ x v, look f x = some v → x ∈ zs ∧ 0 ≤ v ∧ v ≤ ((f.length : Int) - 1) * L
  zero : look f d = some 0
  par : ∀ x v, look f x = some v → x = d ∨ ∃ n u y, R x n y ∧ look f n = some u ∧ u + y ≤ v
theorem Fd.len {R : LK} {zs : List Str} {d : Str} {L : Int} {f : Tab} (h : Fd R zs d L f) : f.length ≤ zs.length := by
  have := nodup_len h.nd (g := zs) fun x hx => by
    cases e : look f x with
    | none => exact absurd hx (look_none.mp e)
    | some v => exact (h.sub x v e).1
  rwa [List.length_map] at this
def sh (f : Tab) (a n : Str) (x : Int) : Tab := match look f n with
  | none => f
  | some u => match look f a with
    | none => put f a (u + x)
    | some v => if u + x < v then put f a (u + x) else f
def Cl (f : Tab) (a n : Str) (x : Int) : Prop := ∀ u, look f n = some u → ∃ v, look f a = some v ∧ v ≤ u + x
def cost (L : Int) (f : Tab) (z : Str) : Nat := match look f z with
  | some v => v.toNat
  | none => (8 * L + 1).toNat
def M (zs : List Str) (L : Int) (f : Tab) : Nat := (zs.map (cost L f)).sum
theorem M_congr {zs : List Str} {L : Int} {f g : Tab} (h : ∀ x, look f x = look g x) : M zs L f = M zs L g := by
  unfold M
  congr 1
  refine List.map_congr_left fun z _ => ?_
  unfold cost
  rw [h]
theorem sum_le {g g' : Str → Nat} : ∀ {zs : List Str}, (∀ z ∈ zs, g' z ≤ g z) → (zs.map g').sum ≤ (zs.map g).sum
  | [], _ => Nat.le_refl _
  | z :: zs, h => by
    have := sum_le (zs := zs) fun y hy => h y (List.mem_cons_of_mem _ hy)
    have := h z List.mem_cons_self
    simp only [List.map_cons, List.sum_cons]
    omega
theorem sum_lt {g g' : Str → Nat} {a : Str} : ∀ {zs : List Str}, (∀ z ∈ zs, g' z ≤ g z) → a ∈ zs → g' a < g a → (zs.map g').sum < (zs.map g).sum
  | [], _, m, _ => nomatch m
  | z :: zs, h, m, l => by
    have h1 := sum_le (zs := zs) fun y hy => h y (List.mem_cons_of_mem _ hy)
    have h2 := h z List.mem_cons_self
    simp only [List.map_cons, List.sum_cons]
    rcases List.mem_cons.mp m with e | m
    · subst e
      omega
    · have := sum_lt (zs := zs) (fun y hy => h y (List.mem_cons_of_mem _ hy)) m l
      omega
theorem len_put {f : Tab} {x : Str} {v : Int} : (put f x v).length = if (look f x).isSome then f.length else f.length + 1 := by
  have := congrArg List.length (keys_put (f := f) (x := x) (v := v))
  rw [List.length_map] at this
  rw [this]
  split <;> simp
section
variable {R : LK} {zs : List Str} {d : Str} {L : Int} {f : Tab} {a n : Str} {x : Int}
/-- a lower value is written -/
theorem Fd.lower (h : Fd R zs d L f) (ro : RelOk R zs L) (r : R a n x) {u : Int} (hn : look f n = some u) (lo : ∀ v, look f a = some v → u + x < v) :
    Fd R zs d L (put f a (u + x)) ∧ M zs L (put f a (u + x)) < M zs L f := by
  obtain ⟨ma, mn, x1, xL⟩ := ro.ok a n x r
  obtain ⟨_, u0, uL⟩ := h.sub n u hn
  have ad : a ≠ d := fun e => by
    subst e
    have := lo 0 h.zero
    omega
  have an : n ≠ a := fun e => by
    subst e
    have := lo u hn
    omega
  have few := ro.few
  have hl := h.len
  have Fd' : Fd R zs d L (put f a (u + x)) := by
    refine ⟨nd_put h.nd, fun y v e => ?_, by rw [look_put, if_neg (fun e => ad e.symm)]; exact h.zero, fun y v e => ?_⟩
    · rw [look_put] at e
      rw [len_put]
      have key : ((f.length : Int) - 1) * L ≤ (((f.length + 1 : Nat) : Int) - 1) * L := Int.mul_le_mul_of_nonneg_right (by omega) ro.nn
      have key2 : ((f.length : Int) - 1) * L + L = (((f.length + 1 : Nat) : Int) - 1) * L := by
        rw [show (((f.length + 1 : Nat) : Int) - 1) = ((f.length : Int) - 1) + 1 by omega, Int.add_mul, Int.one_mul]
      by_cases ey : y = a
      · rw [if_pos ey] at e
        cases e
        subst ey
        refine ⟨ma, by omega, ?_⟩
        split
        · rename_i c
          cases z : look f y with
          | none => rw [z] at c; cases c
          | some v =>
            have := lo v z
            have := (h.sub y v z).2.2
            omega
        · omega
      · rw [if_neg ey] at e
        obtain ⟨q1, q2, q3⟩ := h.sub y v e
        refine ⟨q1, q2, ?_⟩
        split
        · exact q3
        · exact Int.le_trans q3 key
    · rw [look_put] at e
      by_cases ey : y = a
      · rw [if_pos ey] at e
        cases e
        subst ey
        exact .inr ⟨n, u, x, r, by rw [look_put, if_neg an]; exact hn, Int.le_refl _⟩
      · rw [if_neg ey] at e
        rcases h.par y v e with z | ⟨m, w, t, q1, q2, q3⟩
        · exact .inl z
        · refine .inr ?_
          by_cases em : m = a
          · subst em
            refine ⟨m, u + x, t, q1, by rw [look_put, if_pos rfl], ?_⟩
            have := lo w q2
            omega
          · exact ⟨m, w, t, q1, by rw [look_put, if_neg em]; exact q2, q3⟩
  refine ⟨Fd', ?_⟩
  have bnd := (Fd'.sub a (u + x) (by rw [look_put, if_pos rfl])).2
  have hl' := Fd'.len
  have b7 : u + x ≤ 7 * L := Int.le_trans bnd.2 (Int.mul_le_mul_of_nonneg_right (by omega) ro.nn)
  have at_a : cost L (D7.put f a (u + x)) a < cost L f a := by
    unfold cost
    rw [look_put, if_pos rfl]
    cases z : look f a with
    | none =>
      show (u + x).toNat < (8 * L + 1).toNat
      omega
    | some v =>
      have := lo v z
      show (u + x).toNat < v.toNat
      omega
  refine sum_lt (fun z _ => ?_) ma at_a
  by_cases e : z = a
  · subst e
    exact Nat.le_of_lt at_a
  · unfold cost
    rw [look_put, if_neg e]
    exact Nat.le_refl _
theorem sh_step (h : Fd R zs d L f) (ro : RelOk R zs L) (r : R a n x) : (sh f a n x = f ∧ Cl f a n x) ∨ (Fd R zs d L (sh f a n x) ∧ M zs L (sh f a n x) < M zs L f) := by
  unfold sh Cl
  cases hn : look f n with
  | none => exact .inl ⟨rfl, fun u e => nomatch e⟩
  | some u =>
    dsimp only
    cases ha : look f a with
    | none => exact .inr (h.lower ro r hn fun v e => by rw [ha] at e; cases e)
    | some v =>
      dsimp only
      by_cases c : u + x < v
      · rw [if_pos c]
        exact .inr (h.lower ro r hn fun w e => by rw [ha] at e; cases e; exact c)
      · rw [if_neg c]
        refine .inl ⟨rfl, fun w e => ?_⟩
        cases e
        exact ⟨v, rfl, by omega⟩
/-- in a round over the links that began with f0: f now, the links that were looked at -/
structure Rd (R : LK) (zs : List Str) (d : Str) (L : Int) (f0 f : Tab) (seen : Str → Str → Int → Prop) : Prop where
  fd : Fd R zs d L f
  alt : (f = f0 ∧ ∀ a n x, seen a n x → Cl f0 a n x) ∨ M zs L f < M zs L f0
theorem Rd.step {f0 : Tab} {seen seen' : Str → Str → Int → Prop} (h : Rd R zs d L f0 f seen) (ro : RelOk R zs L) (r : R a n x) (hs : ∀ b m y, seen' b m y → seen b m y ∨ (b = a ∧ m = n ∧ y = x)) :
    Rd R zs d L f0 (sh f a n x) seen' := by
  rcases sh_step h.fd ro r with ⟨e, c⟩ | ⟨q, l⟩
  · rw [e]
    refine ⟨h.fd, ?_⟩
    rcases h.alt with ⟨rfl, al⟩ | l
    · refine .inl ⟨rfl, fun b m y z => ?_⟩
      rcases hs b m y z with z | ⟨rfl, rfl, rfl⟩
      · exact al b m y z
      · exact c
    · exact .inr l
  · refine ⟨q, .inr ?_⟩
    rcases h.alt with ⟨rfl, _⟩ | l2
    · exact l
    · exact Nat.lt_trans l l2
/-- the distances -/
structure Dist (R : LK) (zs : List Str) (d : Str) (f : Tab) : Prop where
  nd : (f.map (·.1)).Nodup
  sub : ∀ x v, look f x = some v → x ∈ zs ∧ 0 ≤ v
  zero : look f d = some 0
  par : ∀ x v, look f x = some v → x = d ∨ ∃ n u y, R x n y ∧ look f n = some u ∧ v = u + y
  cl : ∀ a n x, R a n x → Cl f a n x
theorem Fd.dist (h : Fd R zs d L f) (c : ∀ a n x, R a n x → Cl f a n x) : Dist R zs d f := by
  refine ⟨h.nd, fun x v e => ⟨(h.sub x v e).1, (h.sub x v e).2.1⟩, h.zero, fun x v e => ?_, c⟩
  rcases h.par x v e with z | ⟨n, u, y, q1, q2, q3⟩
  · exact .inl z
  · refine .inr ⟨n, u, y, q1, q2, ?_⟩
    obtain ⟨w, e2, l⟩ := c x n y q1 u q2
    rw [e] at e2
    cases e2
    omega
theorem Fd.start (ro : RelOk R zs L) (hd : d ∈ zs) : Fd R zs d L [(d, 0)] := by
  have z : look [(d, (0 : Int))] d = some 0 := by rw [look_cons, if_pos rfl]
  refine ⟨by simp, fun x v e => ?_, z, fun x v e => ?_⟩
  · rw [look_cons, look_nil] at e
    split at e
    · rename_i q
      cases e
      have q : d = x := q
      subst q
      exact ⟨hd, Int.le_refl _, by simp⟩
    · cases e
  · rw [look_cons, look_nil] at e
    split at e
    · rename_i q
      exact .inl q.symm
    · cases e
/-- how many are nearer -/
def rk (f : Tab) (v : Int) : Nat := (f.filter fun p => decide (p.2 < v)).length
theorem rk_lt {n : Str} {u v : Int} (h : look f n = some u) (l : u < v) : rk f u < rk f v := by
  have mem := look_mem h
  unfold rk
  clear h
  induction f with
  | nil => cases mem
  | cons p f ih =>
    have mono : (f.filter fun p => decide (p.2 < u)).length ≤ (f.filter fun p => decide (p.2 < v)).length := by
      clear ih mem
      induction f with
      | nil => exact Nat.le_refl _
      | cons q f ih =>
        rw [List.filter_cons, List.filter_cons]
        by_cases c1 : q.2 < u
        · rw [if_pos (decide_eq_true c1), if_pos (decide_eq_true (by omega))]
          simpa using ih
        · rw [if_neg (by simpa using c1)]
          split
          · rw [List.length_cons]
            omega
          · exact ih
    rw [List.filter_cons, List.filter_cons]
    rcases List.mem_cons.mp mem with e | m
    · subst e
      rw [if_neg (by simp), if_pos (decide_eq_true l), List.length_cons]
      omega
    · have := ih m
      by_cases c1 : p.2 < u
      · rw [if_pos (decide_eq_true c1), if_pos (decide_eq_true (by omega))]
        simpa using this
      · rw [if_neg (by simpa using c1)]
        split
        · rw [List.length_cons]
          omega
        · exact this
theorem rk_le (v : Int) : rk f v ≤ f.length := List.length_filter_le _ _
end
end D7
set_option Elab.async false
set_option linter.all false
set_option maxRecDepth 100000
set_option maxHeartbeats 4000000
/-! != of two tables. -/
namespace D7
open PySem PySem.Spec PyProof.Rows L2
/-- the entries of one, asked in the other -/
theorem tab_hits {A : Around} {s : Shared} {g : Tab} {vb : List (Key × Value)} (rb : KV (V g) vb) : ∀ {f : Tab} {va : List (Key × Value)}, KV (V f) va →
    PySem.W.KeqHits A s vb va (f.all fun p => decide (look g p.1 = some p.2))
  | [], va, ra => by
    cases ra
    exact .nil
  | p :: f, va, ra => by
    obtain ⟨k, n⟩ := p
    have ra' : KV (((.inr k : Key), L2.V.int n) :: V f) va := ra
    unfold KV at ra'
    cases ra' with
    | @cons _ q _ qs h t =>
      obtain ⟨h1, h2⟩ := h
      obtain ⟨k', v⟩ := q
      have h1 : (Sum.inr k : Key) = k' := h1
      subst h1
      obtain ⟨tv, e2⟩ : ∃ t, v = Value.int n t := h2
      subst e2
      have ih := tab_hits (A := A) (s := s) rb (f := f) t
      have rr : RelO (valV (V g) (.inr k)) (valueAt vb (.inr k)) := rb.val (.inr k)
      rw [val_V] at rr
      rw [List.all_cons]
      cases e : look g k with
      | none =>
        rw [e] at rr
        have n0 : valueAt vb (.inr k) = none := by
          cases z : valueAt vb (.inr k) with
          | none => rfl
          | some y =>
            rw [z] at rr
            exact rr.elim
        rw [show (decide ((none : Option Int) = some n) && f.all fun p => decide (look g p.1 = some p.2)) = false from by simp]
        exact .miss n0
      | some m =>
        rw [e] at rr
        obtain ⟨y, hy, ry⟩ := RelO.some_of rr
        obtain ⟨ty, e3⟩ : ∃ t, y = Value.int m t := ry
        subst e3
        have eq := SeqAt.EqAt.int_int (A := A) (s := s) n tv m ty
        rw [show decide ((some m : Option Int) = some n) = (n == m) from by
          by_cases z : n = m
          · subst z
            simp
          · rw [decide_eq_false (fun q => z (Option.some.inj q).symm), beq_false_of_ne z]]
        exact .hit hy eq ih
section
variable {X : Cx}
def rNeTab : R2 := fun x y H Q => ∃ a b f g, x = .ref a ∧ y = .ref b ∧ H a = some (.dK (V f)) ∧ H b = some (.dK (V g)) ∧ Q (.bl (!same f g)) H
theorem op_neTab (hu1 : X.A.units + 1 < cLine) : OpR X (compareOp .NotEq) rNeTab := by
  have hu : X.A.units < cLine := Nat.lt_of_succ_lt hu1
  intro pins s σ H x y v u Q I rx ry h
  obtain ⟨a, b, f, g, rfl, rfl, ea, eb, q⟩ := h
  obtain rfl : v = Value.ref a := rx
  obtain rfl : u = Value.ref b := ry
  obtain ⟨_, ya, va, ra, da⟩ := (show ObjOk X.prog X.w H s.heap a (.dK (V f)) from I.hok a _ ea)
  obtain ⟨_, yb, vb, rb, db⟩ := (show ObjOk X.prog X.w H s.heap b (.dK (V g)) from I.hok b _ eb)
  have la : va.length = f.length := by rw [← ra.length, len_V]
  have lb : vb.length = g.length := by rw [← rb.length, len_V]
  refine PySem.W.keq_ne (knd := mixKind X.prog X.w) (r := f.all fun p => decide (look g p.1 = some p.2)) ya yb da db hu (fun _ => tab_hits rb ra) (fin_bl I q ?_)
  unfold same
  rw [la, lb]
end
end D7
set_option Elab.async false
set_option linter.all false
set_option maxRecDepth 100000
set_option maxHeartbeats 4000000
/-! A list beside an empty one; data, by its kinds. -/
namespace Q
open PySem PySem.Spec PyProof.Rows L2 PySem.W
section
variable {K : PySem.W.Frag} {H : Hp} {x : V} {d : PyData}
theorem Dd.odd (h : Dd K H x d) : Odd K H x := by
  cases h with
  | non => exact .non
  | bl b => exact .bl b
  | int i => exact .int i
  | str z => exact .str z
  | lst h _ => exact .lst h
  | tup h _ => exact .tup h
  | dic h _ _ => exact .dic h
def strV : V → Bool
  | .str _ => true
  | _ => false
theorem Dd.kit (h : Dd K H x d) : ∃ t, TyX K H x t ∧ kitOne K t (.type "str") = some (strV x) := by
  cases h with
  | non => exact ⟨_, .base .non, rfl⟩
  | bl b => exact ⟨_, .base (.bl b), rfl⟩
  | int i => exact ⟨_, .base (.int i), rfl⟩
  | str z => exact ⟨_, .base (.str z), rfl⟩
  | lst h _ =>
    rcases h with (h | ⟨o, h⟩) | ⟨o, its, n, e, c, _⟩
    · exact ⟨_, .base (.lst h), rfl⟩
    · exact ⟨_, .base (.frz h), rfl⟩
    · exact ⟨_, .kList e c, rfl⟩
  | tup h _ =>
    rcases h with (h | ⟨o, h⟩) | ⟨o, its, n, e, c, _⟩
    · exact ⟨_, .base (.tup h), rfl⟩
    · exact ⟨_, .fTuple h, rfl⟩
    · exact ⟨_, .kTuple e c, rfl⟩
  | dic h _ _ => exact ⟨_, .base (.dK h), rfl⟩
end
section
variable {X : Cx}
def rEqNil (K : PySem.W.Frag) : R2 := fun x y H Q => ∃ a b xs, x = .ref a ∧ y = .ref b ∧ SqL K H a xs ∧ SqL K H b [] ∧ Q (.bl xs.isEmpty) H
theorem op_eqNil (hu1 : X.A.units + 1 < cLine) : OpR X (compareOp .Eq) (rEqNil X.K) := by
  intro pins s σ H x y v u Q I rx ry h
  have hu : X.A.units < cLine := Nat.lt_of_succ_lt hu1
  obtain ⟨a, b, xs, rfl, rfl, ha, hb, q⟩ := h
  cases rx
  cases ry
  obtain ⟨its, r1, pl1, _⟩ := I.list ha
  obtain ⟨its2, r2, pl2, _⟩ := I.list hb
  cases r2
  cases xs with
  | nil =>
    cases r1
    refine SeqAt.eq_listAt (e := fun _ => true) pl1.isList pl2.isList rfl hu (fun j h1 _ => nomatch h1) ⟨.bl _, H, I, rfl, ?_⟩
    exact q
  | cons z zs =>
    cases r1
    refine SeqAt.eq_list_lengthsAt pl1.isList pl2.isList (by simp) hu ⟨.bl _, H, I, rfl, ?_⟩
    exact q
end
end Q
set_option Elab.async false
set_option linter.all false
set_option maxRecDepth 100000
set_option maxHeartbeats 4000000
/-! A list that is not the empty one. -/
namespace Q
open PySem PySem.Spec PyProof.Rows L2 PySem.W
section
variable {X : Cx}
def rNeNil (K : PySem.W.Frag) : R2 := fun x y H Q => ∃ a b xs, x = .ref a ∧ y = .ref b ∧ SqL K H a xs ∧ SqL K H b [] ∧ Q (.bl (!xs.isEmpty)) H
theorem op_neNil (hu1 : X.A.units + 1 < cLine) : OpR X (compareOp .NotEq) (rNeNil X.K) := by
  intro pins s σ H x y v u Q I rx ry h
  have hu : X.A.units < cLine := Nat.lt_of_succ_lt hu1
  obtain ⟨a, b, xs, rfl, rfl, ha, hb, q⟩ := h
  cases rx
  cases ry
  obtain ⟨its, r1, pl1, _⟩ := I.list ha
  obtain ⟨its2, r2, pl2, _⟩ := I.list hb
  cases r2
  cases xs with
  | nil =>
    cases r1
    refine SeqAt.RcNeAt.lists (e := fun _ => true) pl1.isList pl2.isList rfl hu (fun j h1 _ => nomatch h1) X.prog X.w _ _ ⟨.bl _, H, I, rfl, ?_⟩
    exact q
  | cons z zs =>
    cases r1
    refine SeqAt.RcNeAt.lists_lengths pl1.isList pl2.isList (by simp) hu X.prog X.w _ _ ⟨.bl _, H, I, rfl, ?_⟩
    exact q
end
end Q
set_option Elab.async false
set_option linter.all false
set_option maxRecDepth 100000
set_option maxHeartbeats 4000000
/-! A tuple beside the empty one. -/
namespace Q
open PySem PySem.Spec PyProof.Rows L2 PySem.W
section
variable {X : Cx}
def rNeNilT (K : PySem.W.Frag) : R2 := fun x y H Q => ∃ a b xs, x = .ref a ∧ y = .ref b ∧ SqT K H a xs ∧ SqT K H b [] ∧ Q (.bl (!xs.isEmpty)) H
def rEqNilT (K : PySem.W.Frag) : R2 := fun x y H Q => ∃ a b xs, x = .ref a ∧ y = .ref b ∧ SqT K H a xs ∧ SqT K H b [] ∧ Q (.bl xs.isEmpty) H
theorem op_neNilT (hu1 : X.A.units + 1 < cLine) : OpR X (compareOp .NotEq) (rNeNilT X.K) := by
  intro pins s σ H x y v u Q I rx ry h
  have hu : X.A.units < cLine := Nat.lt_of_succ_lt hu1
  obtain ⟨a, b, xs, rfl, rfl, ha, hb, q⟩ := h
  cases rx
  cases ry
  obtain ⟨its, r1, pl1, _⟩ := I.tuple ha
  obtain ⟨its2, r2, pl2, _⟩ := I.tuple hb
  cases r2
  refine SeqAt.RcNeAt.tuples (e := fun _ => true) pl1 pl2 hu (fun j _ h2 => absurd h2 (Nat.not_lt_zero _)) X.prog X.w _ _ ⟨.bl _, H, I, rfl, ?_⟩
  cases xs with
  | nil =>
    cases r1
    exact q
  | cons z zs =>
    cases r1
    exact q
theorem op_eqNilT (hu1 : X.A.units + 1 < cLine) : OpR X (compareOp .Eq) (rEqNilT X.K) := by
  intro pins s σ H x y v u Q I rx ry h
  have hu : X.A.units < cLine := Nat.lt_of_succ_lt hu1
  obtain ⟨a, b, xs, rfl, rfl, ha, hb, q⟩ := h
  cases rx
  cases ry
  obtain ⟨its, r1, pl1, _⟩ := I.tuple ha
  obtain ⟨its2, r2, pl2, _⟩ := I.tuple hb
  cases r2
  refine SeqAt.RcAt.tuples (e := fun _ => true) pl1 pl2 hu (fun j _ h2 => absurd h2 (Nat.not_lt_zero _)) X.prog X.w _ _ ⟨.bl _, H, I, rfl, ?_⟩
  cases xs with
  | nil =>
    cases r1
    exact q
  | cons z zs =>
    cases r1
    exact q
end
end Q
set_option Elab.async false
set_option linter.all false
set_option maxRecDepth 100000
set_option maxHeartbeats 4000000
/-! t[::-1] of a tuple. -/
namespace Q
open PySem PySem.Spec PyProof.Rows L2 HT
theorem fm_all : ∀ l : List Value, ((List.range l.length).filterMap fun k => l[k]?) = l
  | [] => rfl
  | a :: l => by
    rw [List.length_cons, List.range_succ_eq_map, List.filterMap_cons]
    show a :: List.filterMap _ _ = a :: l
    rw [List.filterMap_map]
    exact congrArg (a :: ·) (fm_all l)
theorem fm_congr {α β : Type} {f g : α → Option β} : ∀ {l : List α}, (∀ x ∈ l, f x = g x) → l.filterMap f = l.filterMap g
  | [], _ => rfl
  | a :: l, h => by
    rw [List.filterMap_cons, List.filterMap_cons, h a List.mem_cons_self, fm_congr fun x hx => h x (List.mem_cons_of_mem _ hx)]
theorem pick_rev (xs : Array Value) : ((List.range xs.size).filterMap fun (m : Nat) => xs[(((xs.size : Int) - 1) + (m : Int) * (-1)).toNat]?).toArray = xs.toList.reverse.toArray := by
  congr 1
  have l : xs.toList.reverse.length = xs.size := by rw [List.length_reverse, Array.length_toList]
  have e := fm_all xs.toList.reverse
  rw [l] at e
  refine Eq.trans (fm_congr fun k hk => ?_) e
  have hk2 : k < xs.size := List.mem_range.mp hk
  rw [List.getElem?_reverse (by rw [Array.length_toList]; exact hk2), Array.getElem?_toList, Array.length_toList]
  congr 1
  omega
section
variable {prog : Program} {w : World} {A : Around} {E : Value → Shared → Prop} {s : Shared}
theorem part_at {v : Value} {o : Option Int} {Q : Option Int → Shared → Prop} (p : IsPart v o) (h : Q o s) : wpAny (model prog w) A (Builtin.Slice.slicePartIndex v) Q E s := by
  cases p with
  | none => exact slicePart_none h
  | int i t => exact slicePart_int h
theorem applied_rev {sl : Addr} {vl vu vs : Value} {n : Nat} {Q : Int × Int × Nat → Shared → Prop} (hs : s.heap.IsSliceOf sl vl vu vs) (pl : IsPart vl none) (pu : IsPart vu none) (ps : IsPart vs (some (-1)))
    (h : Q ((n : Int) - 1, -1, n) s) : wpAny (model prog w) A (Builtin.Slice.sliceApplied (.ref sl) (pure (n : Int))) Q E s := by
  obtain ⟨o, ho, _, hd⟩ := id hs
  unfold Builtin.Slice.sliceApplied Builtin.Slice.sliceFields
  refine wpAny_bind (wpAny_bind (wpAny_field ho hd (x := vl) rfl (wpAny_bind (wpAny_field ho hd (x := vu) rfl (wpAny_bind (wpAny_field ho hd (x := vs) rfl (wpAny_pure ?_)))))))
  refine wpAny_bind (part_at ps ?_)
  show wpAny _ _ (if ((-1 : Int) == 0) = true then _ else _) _ _ s
  rw [if_neg (by decide)]
  refine wpAny_bind (part_at pl (wpAny_bind (part_at pu (wpAny_bind (wpAny_pure ?_)))))
  have e1 : Builtin.Slice.sliceAdjust none none (-1) (n : Int) = ((n : Int) - 1, -1) := rfl
  have e2 : Builtin.Slice.slicePlaces ((n : Int) - 1) (-1) (-1) = n := by
    unfold Builtin.Slice.slicePlaces
    rw [if_neg (by decide)]
    split
    · rw [Int.neg_neg, Int.ediv_one]; omega
    · omega
  show wpAny _ _ (match Builtin.Slice.sliceAdjust none none (-1) (n : Int) with | (a, b) => pure (a, (-1 : Int), Builtin.Slice.slicePlaces a b (-1))) _ _ s
  rw [e1]
  show wpAny _ _ (pure ((n : Int) - 1, (-1 : Int), Builtin.Slice.slicePlaces ((n : Int) - 1) (-1) (-1))) _ _ s
  rw [e2]
  exact wpAny_pure h
theorem item_rev {t sl : Addr} {items : Array Value} {vl vu vs : Value} {Q : Value → Shared → Prop} (ht : IsTup s.heap t items) (hs : s.heap.IsSliceOf sl vl vu vs) (pl : IsPart vl none) (pu : IsPart vu none) (ps : IsPart vs (some (-1)))
    (h : Q (.ref s.heap.objs.size) { s with heap := s.heap.push { cls := .type "tuple", data := .seq items.toList.reverse.toArray } }) (hsz : items.size ≤ sizeLine) : wpAny (model prog w) A (getItem (.ref t) (.ref sl)) Q E s := by
  have fits : sizeOk (.seq items.toList.reverse.toArray) := by
    show items.toList.reverse.toArray.size ≤ sizeLine
    rw [List.size_toArray, List.length_reverse, Array.length_toList]; exact hsz
  obtain ⟨o, ho, hc, hd⟩ := id hs
  have ty : s.TypeIs (.ref sl) "slice" := ⟨o, ho, hc⟩
  unfold getItem
  try with_reducible refine wpAny_holding ?_
  first | (refine wpAny_bind (wpAny_pure ?_)) | skip
  refine wpAny_bind (wpAny_sequenceKey ht.typeIs (by decide) (wpAny_bind (wpAny_callSpecial?_slot (name := Str.ofString "__getitem__") ht.typeIs PyProof.Rows.slot_tuple_getitem (wpAny_call_entry PyProof.Rows.slot_tuple_getitem ht.typeIs entry_tuple_getitem ?_ (args_tuple_getitem _ _)))))
  show wpAny _ _ (Builtin.Tuple.tupleItemsOf (.ref t) >>= fun _ => _) _ _ s
  refine wpAny_bind (tupleItemsOf_ ht (wpAny_bind (wpAny_typeOf ty ?_))); rw [if_pos (by decide)]
  refine wpAny_bind (applied_rev (n := items.size) hs pl pu ps ?_)
  show wpAny _ _ (if (((items.size : Int) - 1 == 0) && ((-1 : Int) == 1) && (items.size == items.size)) = true then _ else _) _ _ s
  rw [if_neg (by simp), pick_rev]
  first
    | exact wpAny_bind (m := Builtin.Tuple.tupleExact _) (wpAny_newObj_type (wpAny_pure ⟨_, rfl, wpAny_pure h⟩) fits)
    | exact wpAny_bind (m := Builtin.Tuple.tupleExact _) (wpAny_newObj_type (wpAny_bind (wpAny_pure (wpAny_pure ⟨_, rfl, wpAny_pure h⟩))) fits)
    | exact wpAny_bind (wpAny_bind (m := Builtin.Tuple.tupleExact _) (wpAny_newObj_type (wpAny_pure (wpAny_pure ⟨_, rfl, wpAny_pure h⟩)) fits))
    | exact wpAny_bind (wpAny_bind (m := Builtin.Tuple.tupleExact _) (wpAny_newObj_type (wpAny_pure ⟨_, rfl, wpAny_pure h⟩) fits))
end
/-- t[::-1] -/
def tRevT (K : PySem.W.Frag) (te : TE) : TE := fun σ H Q => te σ H fun x H1 => ∃ a xs, x = .ref a ∧ SqT K H1 a xs ∧ ∀ p, H1 p = none → Q (.ref p) (upd H1 p (.tup xs.reverse))
section
variable {X : Cx}
theorem pe_revT {e : Expr} {te : TE} {k : Nat} {p1 p2 p3 pos : Pos} (he : PE X e te) : PE X (.Subscript e (.Slice none none (some (.UnaryOp .USub (.Constant (.int 1) k p1) p2)) p3) pos) (tRevT X.K te) := by
  refine ⟨fun pins s σ H Q I h => Subscript_ (thn (he.run pins s σ H _ I h) fun v s1 ⟨x, H1, I1, r1, a, xs, ex, hx, q⟩ => ?_)⟩
  subst ex
  cases r1
  have step : PO X (some (.UnaryOp .USub (.Constant (.int 1) k p1) p2)) (tPart (tUn (rU fun i => .int (-i)) (tC (.int 1)))) := po_some (pe_un un_neg pe_int)
  refine wpAny_Slice (thn (po_none.run pins s1 σ H1 (fun o H2 => o = none ∧ H2 = H1) I1 ⟨rfl, rfl⟩) fun vl s2 ⟨l, H2, I2, pl, el, e2⟩ => ?_); subst el e2
  refine thn (po_none.run pins s2 σ H2 (fun o H3 => o = none ∧ H3 = H2) I2 ⟨rfl, rfl⟩) fun vu s3 ⟨u, H3, I3, pu, eu, e3⟩ => ?_; subst eu e3
  refine thn (step.run pins s3 σ H3 (fun o H4 => o = some (-1) ∧ H4 = H3) I3 ⟨1, rfl, -1, rfl, rfl, rfl⟩) fun vs s4 ⟨o, H4, I4, ps, eo, e4⟩ => ?_; subst eo e4
  have I5 : Inv X pins σ H4 { s4 with heap := s4.heap.push { cls := .type "slice", data := .fields #[vl, vu, vs] } } := I4.kept (t' := s4.toks) fun b ob q => Heap.get?_push_of_some _ q
  obtain ⟨its, r, ht, hz⟩ := I5.tuple hx
  have len := r.length
  show wpAny (model X.prog X.w) X.A (subscriptTail e (.Slice none none (some (.UnaryOp .USub (.Constant (.int 1) k p1) p2)) p3) (.ref a) (.ref s4.heap.objs.size)) (EP X pins σ Q) X.xe { s4 with heap := s4.heap.push { cls := .type "slice", data := .fields #[vl, vu, vs] } }
  refine tail_any (ops := [.ref a, .ref s4.heap.objs.size]) ht.typeIs PyProof.Rows.slot_tuple_getitem.lookup ?_ (by with_unfolding_all rfl)
  refine item_rev ht (Heap.IsSliceOf.new _ vl vu vs) pl pu ps ?_ (by rw [List.size_toArray]; omega)
  refine ⟨.ref _, _, I5.laid (t' := s4.toks) (o := .tup xs.reverse) (fun b ob q => Heap.get?_push_of_some _ q) (Nat.le_refl _) ?_, rfl, q _ (I5.hok.fresh (Nat.le_refl _))⟩
  exact ⟨by rw [List.length_reverse]; exact hz, _, r.reverse, IsTup.new _ _⟩
end
end Q
set_option Elab.async false
set_option linter.all false
set_option maxRecDepth 100000
set_option maxHeartbeats 4000000
/-! == and != by an own __eq__, whatever it answers. -/
namespace Q
open PySem PySem.Spec PyProof.Rows L2
section
variable {prog : Program} {w : World} {A : Around} {E : Value → Shared → Prop} {s : Shared} {K : PySem.W.Frag} {x C f : Addr} {ox : Obj} {od : Option Obj} {b tb : Value}
theorem bound_ne {M : Model} {args : List Value} {Q : Option Value → Shared → Prop} (X : K.In s.heap) (I : PySem.W.InstAt s.heap x ox C od) (hs : PySem.W.findIn K (.ref C) "__ne__" = some (some (.builtin "object.__ne__")))
    (h : wpAny M A (call (.builtin "object.__ne__") (.ref x :: args)) (fun v => Q (some v)) E s) : wpAny M A (callSpecialIfBound? (.ref x) "__ne__" args) Q E s := by
  have last : wpAny M A (call (.builtin "object.__ne__") ([.ref x] ++ args) >>= fun v => pure (some v)) Q E s := wpAny_bind (wpAny_mono h (fun _ _ z => wpAny_pure z) fun _ _ z => z)
  unfold callSpecialIfBound? bindSpecialIfBound?
  refine wpAny_holding (wpAny_bind (wpAny_bind (wpAny_bind (I.type.here ((PySem.W.looks_findIn X hs).here (wpAny_bind (wpAny_askSetting (wpAny_ite ?_))))))))
  split
  · exact wpAny_bind (wpAny_of_eq (F.cmp_object.ne.bind _) (wpAny_pure (by exact last)))
  · exact wpAny_tryCatch (wpAny_bind (wpAny_of_eq (F.cmp_object.ne.bind _) (wpAny_pure (by exact last))))
theorem entry_ne (X : K.In s.heap) (I : PySem.W.InstAt s.heap x ox C od) (he : PySem.W.findIn K (.ref C) "__eq__" = some (some (.ref f))) (hf : PySem.W.isFn K (.ref f) = true) (hu : A.units < cLine) {Q : Fin → Shared → Prop}
    (h : wpAny (model prog w) A (call (.ref f) [.ref x, b]) (fun v s' => ∃ c, v = .bool c ∧ Q (.done (.ret (.bool (!c)))) s') E s) : wpAny (model prog w) A (Builtin.«object.__ne__» ⟨[.ref x, b], []⟩) Q E s := by
  obtain ⟨hp, g, d, t, os⟩ := s
  unfold Builtin.«object.__ne__»
  repeat (first
    | with_reducible refine wpAny_cRoomFor hu ?_
    | (refine wpAny_bind (m := callSpecialIfBound? (.ref x) (Str.ofString "__eq__") [b]) (PySem.W.ifBound_K X I he hf (wpAny_mono h (fun r s' hr => by
        obtain ⟨c, rfl, hq⟩ := hr
        repeat (first | exact hq | exact wpAny_pure hq | exact wpAny_truthy_bool hq | (refine wpAny_bind (m := truthy (.bool _)) (wpAny_truthy_bool ?_)) | wp_step)) fun _ _ e => e)))
    | wp_step)
theorem ne_own (hu : A.units + 1 < cLine) (X : K.In s.heap) (I : PySem.W.InstAt s.heap x ox C od) (hb : PySem.W.Looks (model prog w) s.heap (typeOf b) tb) (hn : PySem.W.notFirst K C tb = true)
    (he : PySem.W.findIn K (.ref C) "__eq__" = some (some (.ref f))) (hf : PySem.W.isFn K (.ref f) = true) (hne : PySem.W.findIn K (.ref C) "__ne__" = some (some (.builtin "object.__ne__"))) (hm : PySem.W.mroIn K C (.type "object") = some true) {Q : Value → Shared → Prop}
    (h : wpAny (model prog w) A.in1 (call (.ref f) [.ref x, b]) (fun v s' => ∃ c, v = .bool c ∧ Q (.bool (!c)) s') E s) : wpAny (model prog w) A (richCompare .NotEq (.ref x) b) Q E s := by
  have one : wpAny (model prog w) A (tryCompare (.ref x) "__ne__" b) (fun r s' => ∃ c, r = some (.bool c) ∧ Q (.bool c) s') E s := by
    unfold tryCompare
    refine wpAny_bind (bound_ne X I hne (wpAny_call (codeAny_call_builtin F.cmp_object.ne.plain F.cmpEntry_ne (PySem.W.check_slot F.cmpKind_ne F.cmpSplit_ne (I.type.andThen (PySem.W.looks_mroIn X hm)) (F.cmpArgs_ne _ _)
      (entry_ne X I he hf (Nat.lt_of_le_of_lt (Nat.le_refl _) hu) (wpAny_mono h (fun v s' hv => ?_) fun _ _ e => e))))))
    obtain ⟨c, rfl, hq⟩ := hv
    refine ⟨c, rfl, ?_⟩
    first | exact wpAny_pure ⟨_, rfl, hq⟩ | exact ⟨_, rfl, hq⟩ | exact wpAny_pure (wpAny_pure ⟨_, rfl, hq⟩)
  unfold richCompare
  simp only [oneThing_ref]
  refine wpAny_holding (wpAny_bind (wpAny_cRoomFor (Nat.lt_of_succ_lt hu) (wpAny_bind (I.type.here (wpAny_bind (hb.here ?_))))))
  have fin : ∀ {rest : Option Value → Sem Value}, (∀ v s', Q v s' → wpAny (model prog w) A (rest (some v)) Q E s') → wpAny (model prog w) A (tryCompare (.ref x) (cmpInfo .NotEq).2.1 b >>= rest) Q E s := fun k =>
    wpAny_bind (wpAny_mono one (fun r s' z => by obtain ⟨c, rfl, hq⟩ := z; exact k _ _ hq) fun _ _ e => e)
  split
  · rename_i q
    have e : PySem.W.subIn K tb (.ref C) = some false := by
      rcases Bool.or_eq_true_iff.mp hn with e | e
      · rw [beq_iff_eq.mp e] at q; simp at q
      · exact beq_iff_eq.mp e
    refine wpAny_bind ((PySem.W.looks_subIn X e).here ?_)
    simp only [Bool.false_eq_true, if_false]
    exact fin fun v s' hq => wpAny_pure hq
  · refine wpAny_bind (wpAny_pure ?_)
    simp only [Bool.false_eq_true, if_false]
    exact fin fun v s' hq => wpAny_pure hq
end
section
variable {X : Cx} {n : Nat}
/-- a call of an own def by its value, from somewhere below the running body -/
theorem own_call {f : Addr} {fd : FuncData} {ps : List Str} {sp : Sp} (F : FnOk X.prog X.w X.K X.mg X.base CX0 n f fd ps sp) (hb : Binds X.K fd ps []) {A : Around} (sb : Sub X n A) {pins : List (Addr × Obj)} {σ : L2.St} {H : Hp} {s : Shared}
    (I : Inv X pins σ H s) {xs : List V} {us : List Value} (r : Vals xs us) {Q : VK} (h : sp xs H Q fun _ _ _ => False) :
    wpAny (model X.prog X.w) A (call (.ref f) us) (fun u s' => ∃ v H', Inv X pins σ H' s' ∧ RelV v u ∧ Q v H') X.xe s := by
  have e0 : Env0 X.prog X.w X.K X.mg X.base A X.stack s H := by
    have e := I.env0
    exact ⟨sb.fr.trans e.frames, e.mod, e.bs, e.bsz, e.funs, e.frf, e.hok, e.bare⟩
  have len : us.length = ps.length := r.length.symm.trans (F.len _ _ _ _ h)
  refine wpAny_call (codeAny_mono (F.run A X.stack s H ⟨us, []⟩ us xs _ _ sb.room e0 (by simpa using hb s us I.kIn (by simpa using len)) r h) fun z s' hq => ?_)
  cases z with
  | error e => exact pass0 pins σ H s e s' I hq
  | ok fl =>
    cases fl with
    | ret u =>
      obtain ⟨v, H', I', rv, q⟩ := I.after hq
      exact ⟨v, H', I', rv, q⟩
    | next => exact False.elim hq
    | brk => exact False.elim hq
    | cont => exact False.elim hq
/-- what stands on the right: an instance of the same class, or a value of a built-in kind -/
def Beside (K : PySem.W.Frag) (C : Addr) (H : Hp) (y : V) : Prop := (∃ b dy gs, y = .ref b ∧ H b = some (.ins C dy gs)) ∨ ∃ t, TyX K H y t ∧ PySem.W.notFirst K C t = true
theorem Beside.look {C : Addr} {pins : List (Addr × Obj)} {σ : L2.St} {H : Hp} {s : Shared} {y : V} {v : Value} (I : Inv X pins σ H s) (ry : RelV y v) (h : Beside X.K C H y) :
    ∃ tb, PySem.W.Looks (model X.prog X.w) s.heap (typeOf v) tb ∧ PySem.W.notFirst X.K C tb = true := by
  rcases h with ⟨b, dy, gs, rfl, hb⟩ | ⟨t, ty, hn⟩
  · cases ry
    obtain ⟨mB, J, _⟩ := ins_get I.hok hb
    obtain ⟨od, J, _⟩ := J.look
    exact ⟨_, J.type, by simp [PySem.W.notFirst]⟩
  · obtain ⟨P, Z, p, _⟩ := kit_of I ry ty
    exact ⟨t, Z.ty _ _ I.kIn p, hn⟩
def rEqO (K : PySem.W.Frag) (C : Addr) (sp : Sp) (ne : Bool) : R2 := fun x y H Q => ∃ a dx fs, x = .ref a ∧ H a = some (.ins C dx fs) ∧ Beside K C H y ∧ sp [x, y] H (fun v H' => ∃ b, v = .bl b ∧ Q (.bl (if ne then !b else b)) H') fun _ _ _ => False
theorem op_eqO {C f : Addr} {fd : FuncData} {ps : List Str} {sp : Sp} (F : FnOk X.prog X.w X.K X.mg X.base CX0 n f fd ps sp) (hb : Binds X.K fd ps [])
    (hs : PySem.W.findIn X.K (.ref C) "__eq__" = some (some (.ref f))) (hf : PySem.W.isFn X.K (.ref f) = true) (hr : Room n X.A) : OpR X (compareOp .Eq) (rEqO X.K C sp false) := by
  intro pins s σ H x y u u' Q I rx ry h
  obtain ⟨a, dx, fs, rfl, ha, bs, q⟩ := h
  cases rx
  obtain ⟨tb, L, hn⟩ := bs.look I ry
  obtain ⟨mA, J, _⟩ := ins_get I.hok ha
  obtain ⟨od, J, _⟩ := J.look
  obtain ⟨m, hF⟩ := I.fr
  refine PySem.W.cmp_K (op := .Eq) (tb := tb) hr.units0 hF I.ok.mod.kin J L hn hs hf ?_
  refine wpAny_mono (own_call F hb ⟨hr, rfl⟩ I (show Vals [V.ref a, y] [Value.ref a, u'] from .cons rfl (.cons ry .nil)) q) (fun r s' z => ?_) fun _ _ e => e
  obtain ⟨z, H', I', rz, b, rfl, q⟩ := z
  cases rz
  exact ⟨.bl _, H', I', rfl, q⟩
theorem op_neO {C f : Addr} {fd : FuncData} {ps : List Str} {sp : Sp} (F : FnOk X.prog X.w X.K X.mg X.base CX0 n f fd ps sp) (hb : Binds X.K fd ps [])
    (hs : PySem.W.findIn X.K (.ref C) "__eq__" = some (some (.ref f))) (hf : PySem.W.isFn X.K (.ref f) = true) (hne : PySem.W.findIn X.K (.ref C) "__ne__" = some (some (.builtin "object.__ne__"))) (hm : PySem.W.mroIn X.K C (.type "object") = some true)
    (hr : Room (n + 1) X.A) : OpR X (compareOp .NotEq) (rEqO X.K C sp true) := by
  intro pins s σ H x y u u' Q I rx ry h
  obtain ⟨a, dx, fs, rfl, ha, bs, q⟩ := h
  cases rx
  obtain ⟨tb, L, hn⟩ := bs.look I ry
  obtain ⟨mA, J, _⟩ := ins_get I.hok ha
  obtain ⟨od, J, _⟩ := J.look
  have sb : Sub X (n + 1) X.A := ⟨hr, rfl⟩
  refine ne_own (tb := tb) (by have := hr.un; omega) I.kIn J L hn hs hf hne hm ?_
  refine wpAny_mono (own_call F hb sb.in1 I (show Vals [V.ref a, y] [Value.ref a, u'] from .cons rfl (.cons ry .nil)) q) (fun r s' z => ?_) fun _ _ e => e
  obtain ⟨z, H', I', rz, b, rfl, q⟩ := z
  cases rz
  exact ⟨_, rfl, .bl _, H', I', rfl, q⟩
end
end Q
set_option Elab.async false
set_option linter.all false
set_option maxRecDepth 100000
set_option maxHeartbeats 4000000
/-! Making an object within a try: what is let out is told at the slots as they are. -/
namespace Q
open PySem PySem.Spec PyProof.Rows L2
def tMakeS (C : Addr) (sp : Sp) (E : L2.St → XK) (t : TA) : TE := fun σ H Q => t σ H fun vs H1 => ∀ x dx, H1 x = none → H1 dx = none → dx ≠ x →
  sp (.ref x :: (vs ++ [])) (upd (upd H1 dx (.own x)) x (.ins C dx [])) (fun v H2 => v = .non ∧ Q (.ref x) H2) (E σ)
section
variable {X : Cx} {CX : CXT} {k : Nat} {f C : Addr} {fd : FuncData} {ps : List Str} {sp : Sp} {E : L2.St → XK} {x : Str} {p pos : Pos} {e : Expr} {es : List Expr} {t : TA}
theorem pe_makeS (M : Mk X.K C f) (F : FnOk X.prog X.w X.K X.mg X.base CX k f fd ps sp) (hr : Room (k + 1) X.A) (hg : Gl X x) (hm : X.mg x = some (.ref C)) (hb : Binds X.K fd ps []) (hx : ∀ σ, PassesAt CX X σ (E σ)) (ha : PA X (e :: es) t)
    (hdb : (x == ("__debug__" : Str)) = false := by decide) (he : starEach (e :: es) X.env = (false, eval e X.env) :: starEach es X.env := by rfl) (hpl : (backTo pos (starEach es X.env)).any (·.1) = false := by rfl) :
    PE X (.Call (.Name x p) (e :: es) [] pos) (tMakeS C sp E t) := by
  refine ⟨fun pins s σ H Q I h => wpAny_Call_Name_kw (ld_glob I hg hm ?_ hdb)⟩
  refine PySem.W.callWith_K (h₀ := X.base) I.ok.mod.kin M.kp (thn (ha.run pos pins s σ H _ I h) fun us s1 z => ?_) he hpl
  obtain ⟨vs, H1, I1, r, q⟩ := z
  refine ⟨I1.kIn, ?_⟩
  have hq := q (s1.heap.objs.size + 1) s1.heap.objs.size (I1.hok.fresh (Nat.le_succ _)) (I1.hok.fresh (Nat.le_refl _)) (Nat.ne_of_lt (Nat.lt_succ_self _))
  have I2 := Inv.made (C := C) I1
  have r2 : Vals (V.ref (s1.heap.objs.size + 1) :: (vs ++ [])) (Value.ref (s1.heap.objs.size + 1) :: us) := .cons rfl (by rw [List.append_nil]; exact r)
  have len : (Value.ref (s1.heap.objs.size + 1) :: us).length = ps.length := by
    rw [← r2.length]
    exact F.len _ _ _ _ hq
  have b := hb _ (Value.ref (s1.heap.objs.size + 1) :: us) I2.kIn (by rw [List.append_nil]; exact len)
  rw [List.append_nil] at b
  have run := F.run _ X.stack _ _ ⟨Value.ref (s1.heap.objs.size + 1) :: us, []⟩ (Value.ref (s1.heap.objs.size + 1) :: us) _ _ (E σ) (hr.make C us []) (I2.env0.make C us []) b r2 hq
  show wpAny (model X.prog X.w) X.A (call (.ref C) us) (EP X pins σ Q) X.xe s1
  refine wpAny_call (make_map (f := f) I1.kIn M.makes M.init (beq_iff_eq.mp M.fn) (codeAny_mono run fun z s' hq' => ?_))
  match z, hq' with
  | .error u, hq' => exact hx σ pins _ _ u s' I2 hq'
  | .ok (.ret u), hq' =>
    obtain ⟨v, H', I3, rv, ev, q3⟩ := I2.after hq'
    subst ev
    exact ⟨rv, ⟨V.ref (s1.heap.objs.size + 1), H', I3, rfl, q3⟩⟩
  | .ok .next, hq' => exact False.elim hq'
  | .ok .brk, hq' => exact False.elim hq'
  | .ok .cont, hq' => exact False.elim hq'
end
end Q
set_option Elab.async false
set_option linter.all false
set_option maxRecDepth 100000
set_option maxHeartbeats 4000000
/-! isinstance of an exception by a tuple of classes. -/
namespace Q
open PySem PySem.Spec PyProof.Rows L2
/-- isinstance(e, (c1, c2, ..)) of an exception; the tuple was just laid -/
def rIsET (K : PySem.W.Frag) : List V → Hp → VK → Prop := fun xs H Q =>
  ∃ (a C tp : Addr) (cs : List V) (us : List Value) (b : Bool), xs = [.ref a, .ref tp] ∧ H tp = some (.tup cs) ∧ Paired ClsV cs us ∧
    ErrI H a C ∧ ExcC K C ∧ PySem.W.kitAny K (.ref C) us = some b ∧ Q (.bl b) H
section
variable {X : Cx}
theorem call_isET : CallR X (.builtin "isinstance") (rIsET X.K) := by
  intro pins s σ H xs us Q I r h
  obtain ⟨a, C, tp, cs, ws, b, rfl, hT, k, eo, ec, e, q⟩ := h
  obtain ⟨u1, u2, rfl, r1, r2⟩ := vals2 r
  obtain rfl : u1 = Value.ref a := r1
  cases (show u2 = Value.ref tp from r2)
  obtain ⟨oe, od, J⟩ := eo.inst I
  obtain ⟨_, its, rv, o, h1, h2, n, h3⟩ := (show ObjOk X.prog X.w H s.heap tp (.tup cs) from I.hok tp _ hT)
  have e3 := ClsV.all k rv
  subst e3
  obtain ⟨oc, od, dt, sl⟩ := o
  simp only at h2 h3
  subst h2 h3
  exact PySem.W.kia_tup (kitx_err (ox := oe) (od := _) ec) I.kIn J h1 e (fun z => nomatch z) fun tk => ⟨.bl b, H, I.tok tk, rfl, q⟩
end
end Q
set_option Elab.async false
set_option linter.all false
set_option maxRecDepth 100000
set_option maxHeartbeats 4000000
/-! repr of a pair of plain texts beside repr of any other pair. -/
namespace Q
open PySem PySem.Spec PyProof.Rows L2 PySem.Builtin PySem.Builtin.Str
abbrev plainC (c : Nat) : Prop := 32 ≤ c ∧ c < 127 ∧ c ≠ 39 ∧ c ≠ 92
abbrev PlainS (z : Str) : Prop := ∀ c ∈ z.cps.toList, plainC c
theorem char_plain {c : Nat} (h : plainC c) : reprChar 39 c = [c] := by
  have all : ∀ c : _root_.Fin 127, plainC c.val → reprChar 39 c.val = [c.val] := by decide +kernel
  exact all ⟨c, h.2.1⟩ h
theorem fold_plain : ∀ (l : List Nat) (acc : Array Nat), (∀ c ∈ l, plainC c) → (l.foldl (fun out c => out ++ (reprChar 39 c).toArray) acc).toList = acc.toList ++ l
  | [], acc, _ => by simp
  | c :: r, acc, h => by
    rw [List.foldl_cons, fold_plain r _ fun d hd => h d (List.mem_cons_of_mem _ hd), char_plain (h c List.mem_cons_self)]
    simp
theorem repr_plain {z : Str} (h : PlainS z) : (reprText z).cps.toList = 39 :: (z.cps.toList ++ [39]) := by
  have q : reprQuote z = 39 := by
    unfold reprQuote
    have e : z.cps.contains 39 = false := by
      cases e : z.cps.contains 39
      · rfl
      · rw [← Array.contains_toList, List.contains_iff_mem] at e
        exact absurd rfl (h 39 e).2.2.1
    rw [e]
    rfl
  unfold reprText
  rw [q]
  show (Array.push _ 39).toList = _
  rw [Array.toList_push, ← Array.foldl_toList, fold_plain _ _ h]
  simp
/-- a plain text, or data whose text does not begin with a quote -/
def Pl1 (d : PyData) : Prop := (∃ z, d = .str z ∧ PlainS z) ∨ d.shown.cps.toList.head? ≠ some 39
theorem cps_app2 (x y : Str) : (x ++ y).cps.toList = x.cps.toList ++ y.cps.toList := by
  show (x.cps ++ y.cps).toList = _
  exact Array.toList_append
theorem pair_cps (d e : PyData) : (PyData.shown (.tuple [d, e])).cps.toList = 40 :: (d.shown.cps.toList ++ (44 :: 32 :: (e.shown.cps.toList ++ [41]))) := by
  simp only [PyData.shown, PyData.shownAll]
  unfold tupleText
  show ((("(" : Str) ++ (d.shown ++ ", " ++ e.shown) ++ ((")" : String) : Str))).cps.toList = _
  rw [cps_app2, cps_app2, cps_app2, cps_app2]
  have e1 : (("(" : String) : Str).cps.toList = [40] := by decide +kernel
  have e2 : ((", " : String) : Str).cps.toList = [44, 32] := by decide +kernel
  have e3 : ((")" : String) : Str).cps.toList = [41] := by decide +kernel
  rw [e1, e2, e3]
  simp
theorem cut_quote : ∀ {A B R S : List Nat}, 39 ∉ A → 39 ∉ B → A ++ 39 :: R = B ++ 39 :: S → A = B ∧ R = S
  | [], [], _, _, _, _, h => by simpa using h
  | [], b :: B, _, _, _, hb, h => by
    simp only [List.nil_append, List.cons_append, List.cons.injEq] at h
    exact absurd (by rw [← h.1]; exact List.mem_cons_self) hb
  | a :: A, [], _, _, ha, _, h => by
    simp only [List.nil_append, List.cons_append, List.cons.injEq] at h
    exact absurd (by rw [h.1]; exact List.mem_cons_self) ha
  | a :: A, b :: B, R, S, ha, hb, h => by
    simp only [List.cons_append, List.cons.injEq] at h
    obtain ⟨e1, e2⟩ := cut_quote (fun z => ha (List.mem_cons_of_mem _ z)) (fun z => hb (List.mem_cons_of_mem _ z)) h.2
    exact ⟨by rw [h.1, e1], e2⟩
theorem str_cps {x y : Str} (h : x.cps.toList = y.cps.toList) : x = y := by
  cases x
  cases y
  congr 1
  exact Array.toList_inj.mp h
theorem no_quote {z : Str} (h : PlainS z) : 39 ∉ z.cps.toList := fun m => (h 39 m).2.2.1 rfl
theorem one_plain {a : Str} {d : PyData} {R S : List Nat} (ha : PlainS a) (hd : Pl1 d) (hs : S.head? ≠ some 39) (e : 39 :: (a.cps.toList ++ 39 :: R) = d.shown.cps.toList ++ S) : d = .str a ∧ R = S := by
  rcases hd with ⟨z, rfl, hz⟩ | hd
  · simp only [PyData.shown] at e
    rw [repr_plain hz] at e
    simp only [List.cons_append, List.append_assoc, List.cons.injEq, List.nil_append, true_and] at e
    obtain ⟨e1, e2⟩ := cut_quote (no_quote ha) (no_quote hz) e
    rw [str_cps e1]
    exact ⟨rfl, e2⟩
  · exfalso
    cases q : d.shown.cps.toList with
    | nil =>
      rw [q, List.nil_append] at e
      rw [← e] at hs
      exact hs rfl
    | cons c r =>
      rw [q, List.cons_append] at e
      injection e with e1 _
      rw [q, ← e1] at hd
      exact hd rfl
/-- repr of two plain texts tells them -/
theorem repr_pair {a b : Str} {d e : PyData} (ha : PlainS a) (hb : PlainS b) (hd : Pl1 d) (he : Pl1 e) : PyData.shown (.tuple [.str a, .str b]) = PyData.shown (.tuple [d, e]) ↔ d = .str a ∧ e = .str b := by
  constructor
  · intro h
    have h2 := congrArg (fun z : Str => z.cps.toList) h
    simp only [pair_cps] at h2
    have sa : (PyData.str a).shown.cps.toList = 39 :: (a.cps.toList ++ [39]) := by simp only [PyData.shown]; exact repr_plain ha
    have sb : (PyData.str b).shown.cps.toList = 39 :: (b.cps.toList ++ [39]) := by simp only [PyData.shown]; exact repr_plain hb
    rw [sa, sb] at h2
    injection h2 with _ h2
    obtain ⟨e1, e2⟩ := one_plain (S := 44 :: 32 :: (e.shown.cps.toList ++ [41])) (R := 44 :: 32 :: (39 :: (b.cps.toList ++ [39]) ++ [41])) ha hd (by simp) (by simpa using h2)
    injection e2 with _ e2
    injection e2 with _ e2
    obtain ⟨e3, _⟩ := one_plain (S := [41]) (R := [41]) hb he (by simp) (by simpa using e2)
    exact ⟨e1, e3⟩
  · rintro ⟨rfl, rfl⟩
    rfl
end Q
set_option Elab.async false
set_option linter.all false
set_option maxRecDepth 100000
set_option maxHeartbeats 4000000
/-! set(xs) of whole numbers, whatever comes twice. -/
namespace Q
open PySem PySem.Spec PyProof.Rows L2
section
variable {P : Program} {w : World} {A : Around} {E : Value → Shared → Prop} {s : Shared}
def IntJ (w : World) (S : Addr) (ns : List Int) (i : Nat) (h : Heap) : Prop := ∃ n, n ≤ i ∧ SetR w h S (fun k => decide (k ∈ ns.take i)) n
theorem ints_get {vs : List Value} {ns : List Int} (r : IntsAre vs ns) : ∀ {i : Nat} {v : Value}, vs[i]? = some v → ∃ k t, ns[i]? = some k ∧ v = .int k t := by
  induction r with
  | nil => intro i v h; simp at h
  | cons y t _ ih =>
    intro i v h
    cases i with
    | zero =>
      simp at h
      exact ⟨_, _, rfl, h.symm⟩
    | succ i =>
      simp only [List.getElem?_cons_succ] at h ⊢
      exact ih h
theorem set_ints {l : Addr} {items : Array Value} {ns : List Int} {Q : Value → Shared → Prop} (hh : A.handled = none) (hl : s.heap.IsList l items) (r : IntsAre items.toList ns) (few : ns.length < 4000)
    (next : ∀ (h' : Heap) (tk : Nat) (S : Int → Bool) (n : Nat), (∀ b o, s.heap.get? b = some o → h'.get? b = some o) → (∀ k, S k = true ↔ k ∈ ns) → n ≤ ns.length → SetR w h' s.heap.objs.size S n → Q (.ref s.heap.objs.size) { s with heap := h', toks := tk }) :
    wpAny (model P w) A (call (.type "set") [.ref l]) Q E s := by
  have ly : items.size = ns.length := by rw [← r.length, Array.length_toList]
  refine set_filled (IntJ w s.heap.objs.size ns) hh hl ?_ (fun i h h' j k => ?_) (fun E i v z Q lt pv j k => ?_) fun h' tk kp j => ?_
  · have f := setR_fresh (h := s.heap) w
    refine ⟨0, Nat.le_refl _, (SetR.at f fun o e => ?_).congr fun k => by simp⟩
    exact Heap.get?_push_of_some _ e
  · obtain ⟨n, le, R⟩ := j
    refine ⟨n, le, R.at fun o e => k _ _ ?_ e⟩
    rw [Heap.size_push]
    exact Nat.ne_of_lt (Nat.lt_succ_self _)
  · obtain ⟨n, le, R⟩ := j
    obtain ⟨y, t, ey, rfl⟩ := ints_get r (i := i) (v := v) (by rw [Array.getElem?_toList]; exact pv)
    unfold setAdd
    refine wpAny_holding ?_
    refine wpAny_bind ((intKind P w).pyHash (intKind_is P w y t) ?_)
    refine setR_add_hashed (s := { z with toks := z.toks + 1 }) R ?_ fun h' sb R' => ?_
    · show n + 1 < 4096
      omega
    refine k _ _ _ (Nat.le_succ _) sb ⟨_, ?_, R'.congr fun j => ?_⟩
    · split <;> omega
    · rw [List.take_add_one, ey]
      simp
  · obtain ⟨n, le, R⟩ := j
    rw [ly] at le R
    exact next h' tk _ n kp (fun k => by rw [List.take_length]; exact decide_eq_true_iff) le R
end
section
variable {X : Cx}
def rSetI (K : PySem.W.Frag) (w : World) : List V → Hp → VK → Prop := fun xs H Q => ∃ (l : Addr) (ns : List Int), xs = [V.ref l] ∧ SqL K H l (ns.map V.int) ∧ ns.length < 4000 ∧
  ∀ a S n, (∀ k, S k = true ↔ k ∈ ns) → n ≤ ns.length → H a = none → Q (.ref a) (upd H a (SetO w a S n))
theorem cr_setI (hc : X.calm = true) : CallR X (.type "set") (rSetI X.K X.w) := by
  intro pins s σ H xs us Q I r h
  obtain ⟨l, ns, rfl, hl, few, q⟩ := h
  rw [Vals.ref1 r]
  obtain ⟨its, rv, pl, _⟩ := I.list hl
  refine set_ints (P := X.prog) (w := X.w) (items := its.toArray) (I.ok.hd hc) pl.isList (ints_of_vals rv) few fun h' tk S n kp hS hn R => ?_
  exact ⟨.ref s.heap.objs.size, _, I.laid (t' := tk) kp (Nat.le_refl _) (setO_new R), rfl, q _ S n hS hn (I.hok.fresh (Nat.le_refl _))⟩
end
end Q
set_option Elab.async false
set_option linter.all false
set_option maxRecDepth 100000
set_option maxHeartbeats 4000000
/-! min(xs, default=d) of whole numbers. -/
namespace Q
open PySem PySem.Spec PyProof.Rows L2
section
variable {P : Program} {w : World} {A : Around} {E : Value → Shared → Prop} {s : Shared}
theorem min_dflt {l : Addr} {its : List Value} {ns : List Int} {d : Value} {Q : Value → Shared → Prop} (hh : A.handled = none) (hl : s.heap.IsList l its.toArray) (hi : IntsAre its ns)
    (h0 : ns = [] → ∀ h' tk, (∀ b o, s.heap.get? b = some o → h'.get? b = some o) → Q d { s with heap := h', toks := tk })
    (h1 : ∀ h' tk M t', (∀ b o, s.heap.get? b = some o → h'.get? b = some o) → M ∈ ns → (∀ a, a ∈ ns → M ≤ a) → Q (.int M t') { s with heap := h', toks := tk }) :
    wpAny (model P w) A (call (.builtin "min") [.ref l] [(Str.ofString "default", d)]) Q E s := by
  obtain ⟨xs, e⟩ := hi.allInts.items
  have hn : numsOf (intItems xs).toList = ns := by rw [← e]; exact hi.numsOf
  rw [nums_intItems] at hn
  subst hn
  rw [e] at hl
  have back : ∀ (s2 : Shared) (h0 : Heap), s2 = { s with heap := h0 } → ∀ s' : Shared, s'.gens = s2.gens → s'.drawn = s2.drawn → s'.os = s2.os → s' = { s with heap := s'.heap, toks := s'.toks } := fun s2 h0 e s' g dr o => by
    subst e
    cases s'
    cases s
    cases g
    cases dr
    cases o
    rfl
  refine call_min_walkD (iter_intList hl fun s₂ e st hfp hlI => ?_)
  refine ⟨_, _, _, _, _, _, _, ({} : Heap), fun i j => decide (numAt xs i < numAt xs j), rfl, (Walks.list (A := A.in1) hh _ l hlI (intItems xs)).toS, ?_, hfp, fun b o z => ?_, fun b o z => ?_, fun z s' mv => ?_, fun z => ⟨fun i j vi vj s3 Q3 E3 _ hi hj hq => ?_, fun v s' hP mv => ?_⟩⟩
  · exact st
  · exact absurd z (by simp [Heap.get?])
  · exact absurd z (by simp [Heap.get?])
  · have hz : xs.size = 0 := by simpa [intItems] using z
    rw [back s₂ _ e s' mv.gens mv.drawn mv.os]
    refine h0 (List.eq_nil_of_length_eq_zero (by simpa using hz)) _ _ ?_
    subst e
    exact old_kept fun b o nb q => mv.heap b o nb q
  · exact (CmpOf.ints_lt (numAt xs) (fun _ _ => intItems_at)) i j vi vj s3 Q3 E3 hi hj hq
  · have hsz : 0 < xs.size := by simpa [intItems] using z
    have hP : (intItems xs)[argBest (fun i j => decide (numAt xs i < numAt xs j)) (xs.size - 1)]? = some v := by simpa [intItems] using hP
    obtain ⟨t, rfl⟩ := intItems_at hP
    obtain ⟨g1, g2⟩ := argBest_lt (numAt xs) (xs.size - 1)
    rw [back s₂ _ e s' mv.gens mv.drawn mv.os]
    refine h1 _ _ _ t ?_ ?_ fun a ha => ?_
    · subst e
      exact old_kept fun b o nb q => mv.heap b o nb q
    · rw [numAt_eq]; exact PySem.getD_mem (by rw [List.length_map, Array.length_toList]; omega)
    · obtain ⟨j, hj, rfl⟩ := mem_getD ha
      rw [List.length_map, Array.length_toList] at hj
      rw [← numAt_eq]; exact g2 j (by omega)
end
def rMinD (K : PySem.W.Frag) : List V → List V → Hp → VK → Prop := fun vs zs H Q => ∃ (a : Addr) (ns : List Int) (d : V), vs = [V.ref a] ∧ zs = [d] ∧ SqL K H a (ns.map V.int) ∧ (ns = [] → Q d H) ∧ (∀ m, m ∈ ns → (∀ y, y ∈ ns → m ≤ y) → Q (.int m) H)
theorem cr_minD {X : Cx} (hc : X.calm = true) : CallRK X (.builtin "min") [Str.ofString "default"] (rMinD X.K) := by
  intro pins s σ H vs zs us ws Q I r rz h
  obtain ⟨a, ns, d, rfl, rfl, hs, q0, q1⟩ := h
  obtain ⟨its, rv, hl, _⟩ := I.list hs
  rw [Vals.ref1 r]
  obtain ⟨w1, rfl, e1⟩ := vals1 rz
  refine min_dflt (I.ok.hd hc) hl.isList rv.ints (fun e h' tk hk => ?_) fun h' tk m t' hk h1 h2 => ⟨.int _, H, I.kept hk, ⟨_, rfl⟩, q1 m h1 h2⟩
  exact ⟨d, H, I.kept hk, e1, q0 e⟩
end Q
namespace Q
open PySem PySem.Spec PyProof.Rows L2
/-- x not in t, t a tuple of data -/
def rNotInDT (K : PySem.W.Frag) : R2 := fun x y H Q => ∃ d ds, Dp K H x d ∧ Dp K H y (.tuple ds) ∧ SeqAt.shaped d = true ∧ SeqAt.shaped (.tuple ds) = true ∧ Q (.bl (!ds.any fun z => PyData.eqv z d)) H
theorem op_notInDT {X : Cx} (hu : X.A.units + 65 < cLine) : OpR X (compareOp .NotIn) (rNotInDT X.K) := by
  intro pins s σ H x y v u Q I rx ry h
  obtain ⟨d, ds, hd, he, sd, se, q⟩ := h
  obtain ⟨as, r1⟩ := Dp.reads I d x v hd rx
  obtain ⟨bs, r2⟩ := Dp.reads I (.tuple ds) y u he ry
  exact SeqAt.notIn_tuple_reads r2 r1 (SeqAt.canLay_of_shaped se) (SeqAt.canLay_of_shaped sd) (room_in_shaped sd hu) ⟨.bl _, H, I, rfl, q⟩
end Q
/-! == of two equal data of one kind: scalars, lists and tuples of data, dicts of texts and whole numbers. -/
namespace D7
open PySem PySem.Spec PyProof.Rows L2 Q
section
variable {X : Cx}
def rEqTab : R2 := fun x y H Q => ∃ a b f g, x = .ref a ∧ y = .ref b ∧ H a = some (.dK (V f)) ∧ H b = some (.dK (V g)) ∧ Q (.bl (same f g)) H
theorem op_eqTab (hu1 : X.A.units + 1 < cLine) : OpR X (compareOp .Eq) rEqTab := by
  have hu : X.A.units < cLine := Nat.lt_of_succ_lt hu1
  intro pins s σ H x y v u Q I rx ry h
  obtain ⟨a, b, f, g, rfl, rfl, ea, eb, q⟩ := h
  obtain rfl : v = Value.ref a := rx
  obtain rfl : u = Value.ref b := ry
  obtain ⟨_, ya, va, ra, da⟩ := (show ObjOk X.prog X.w H s.heap a (.dK (V f)) from I.hok a _ ea)
  obtain ⟨_, yb, vb, rb, db⟩ := (show ObjOk X.prog X.w H s.heap b (.dK (V g)) from I.hok b _ eb)
  have la : va.length = f.length := by rw [← ra.length, len_V]
  have lb : vb.length = g.length := by rw [← rb.length, len_V]
  refine PySem.W.keq_eq (knd := mixKind X.prog X.w) (r := f.all fun p => decide (look g p.1 = some p.2)) ya yb da db hu (fun _ => tab_hits rb ra) (fin_bl I q ?_)
  unfold same
  rw [la, lb]
def rEqS (K : PySem.W.Frag) : R2 := fun x y H Q => rEq x y H Q ∨ rEqD K x y H Q ∨ rEqTab x y H Q
theorem op_eqS (hu : X.A.units + 64 < cLine) : OpR X (compareOp .Eq) (rEqS X.K) := by
  intro pins s σ H x y v u Q I rx ry h
  rcases h with h | h | h
  · exact op_eq pins s σ H x y v u Q I rx ry h
  · exact op_eqD hu pins s σ H x y v u Q I rx ry h
  · exact op_eqTab (by have := hu; omega) pins s σ H x y v u Q I rx ry h
end
end D7
set_option Elab.async false
set_option linter.all false
set_option maxRecDepth 100000
set_option maxHeartbeats 4000000
/-! sorted(set) of whole numbers, any number of them. -/
namespace L2
open PySem PySem.Spec PyProof.Rows SrtO
section
variable {P : Program} {w : World} {A : Around} {E : Value → Shared → Prop} {s : Shared} {a : Addr}
theorem sorted_setA {S : Int → Bool} {n : Nat} {Q : Value → Shared → Prop} (R : SetR w s.heap a S n) (hh : A.handled = none) (hz : n ≤ 1000)
    (hQ : ∀ s' p (out : Array Value) (c : Nat) (ns : List Int), (∀ b o, s.heap.get? b = some o → s'.heap.get? b = some o) → s'.gens = s.gens → s'.os = s.os → s.heap.objs.size ≤ p →
      s'.heap.get? p = some (seqObj "list" out c) → IntsAre out.toList ns → ns.Pairwise (· < ·) → (∀ k, k ∈ ns ↔ S k = true) → ns.length = n → Q (.ref p) s') :
    wpAny (model P w) A (call (.builtin "sorted") [.ref a]) Q E s := by
  obtain ⟨o, es, ep, t, ho, hex, hd, g, nd, hm, hb, hf, hn, hr, hl⟩ := R
  refine Calls.call_function_entry kind_sorted plain_sorted entry_sorted (args_sorted1 _) ?_
  unfold Builtin.«sorted»
  refine wpAny_bind (m := checkCount "sorted" 1 1 _) (wpAny_pure ?_)
  refine wpAny_bind (collect_set (A := A.in1) hh ⟨o, ho, hex.1, hd⟩ hf hb hr hl fun s1 vs k1 hz1 g1 o1 pm => ?_)
  have hvl : vs.length = n := by rw [pm.length_eq, List.length_map, Array.length_toList]; exact hn
  have hI : IntsAre vs (vs.map Builtin.Re.reRawOf) := ints_of vs fun v hv => by
    obtain ⟨e, he, q⟩ := List.mem_map.mp (pm.mem_iff.mp hv)
    obtain ⟨k, tk, h1, _⟩ := g e he
    exact ⟨k, tk, by rw [← q]; exact h1⟩
  have pk : (vs.map Builtin.Re.reRawOf).Perm (es.toList.map keyOf) := by
    have q := pm.map Builtin.Re.reRawOf
    rw [List.map_map] at q
    exact q
  have lim : vs.length ≤ sizeLine := by rw [hvl, sizeLine_eq]; omega
  refine wpAny_bind (wpAny_newList ?_ lim)
  have hoL : (s1.heap.push (seqObj "list" vs.toArray 0)).get? s1.heap.objs.size = some (seqObj "list" vs.toArray 0) := Heap.get?_push_size _ rfl
  refine wpAny_bind (wpAny_holding (wpAny_call_entry slot_list_sort ⟨_, hoL, rfl⟩ entry_list_sort (list_sort_ord swo_int hoL lim (fun h2 => ints_sortable hI h2) fun out hs hb2 => ⟨_, rfl, ?_⟩) (args_list_sort _)))
  obtain ⟨a1, a2, a3⟩ := ints_out hI hs hb2
  obtain ⟨c, hc⟩ := sortedHeap_at (vs := vs) (out := out.toArray) hoL
  have pn : (out.map iv).Perm (es.toList.map keyOf) := a2.trans pk
  refine wpAny_pure ⟨_, rfl, hQ _ s1.heap.objs.size out.toArray c (out.map iv) (fun b u e => ?_) g1 o1 hz1 hc (by simpa using a1) (lt_of_le_nodup _ a3 (pn.nodup_iff.mpr nd)) (fun k => by rw [pn.mem_iff, ← hm k]) ?_⟩
  · have q := k1 b u e
    have hlt := Heap.lt_size q
    show (sortedHeap (s1.heap.push (seqObj "list" vs.toArray 0)) s1.heap.objs.size vs out.toArray).get? b = some u
    rw [sortedHeap_old (Nat.ne_of_lt hlt) (by rw [size_push']; exact Nat.lt_succ_of_lt hlt)]
    exact Heap.get?_push_of_some _ q
  · rw [pn.length_eq, List.length_map, Array.length_toList]; exact hn
end
section
variable {X : Cx}
/-- sorted(found), a set of at most 1000 -/
def rSortedSetA (w : World) : List V → Hp → VK → Prop := fun vs H Q => ∃ (a : Addr) (S : Int → Bool) (n : Nat), vs = [V.ref a] ∧ H a = some (SetO w a S n) ∧ n ≤ 1000 ∧
  ∀ (ns : List Int) (p : Addr), ns.Pairwise (· < ·) → (∀ k : Int, k ∈ ns ↔ S k = true) → ns.length = n → H p = none → Q (.ref p) (upd H p (.lst (ns.map V.int)))
theorem cr_sortedSetA (hc : X.calm = true) : CallR X (.builtin "sorted") (rSortedSetA X.w) := by
  intro pins s σ H vs us Q I r h
  obtain ⟨a, S, n, rfl, ha, h64, q⟩ := h
  have R := setO_get I ha
  rw [Vals.ref1 r]
  refine sorted_setA R (I.ok.hd hc) h64 fun s' p out c ns k g o hp hg hi hs hm hl => ?_
  have hlen : (ns.map V.int).length ≤ sizeLine := by rw [List.length_map, hl, sizeLine_eq]; omega
  have hn : H p = none := I.hok.fresh hp
  have J : Inv X pins σ (upd H p (.lst (ns.map V.int))) { s with heap := s'.heap, gens := s'.gens, drawn := s'.drawn, toks := s'.toks } :=
    I.call (ch := []) (Un.laid k hp hn) (I.hok.laid k hp ⟨hlen, out.toList, c, vals_of_ints hi, hg⟩) (by rw [g]; exact I.bare) (fun _ z => nomatch z)
  have e : s' = { s with heap := s'.heap, gens := s'.gens, drawn := s'.drawn, toks := s'.toks } := by
    cases s'
    cases s
    cases o
    rfl
  rw [e]
  exact ⟨.ref p, _, J, rfl, q ns p hs hm hl hn⟩
end
end L2
set_option Elab.async false
set_option linter.all false
set_option maxRecDepth 100000
set_option maxHeartbeats 4000000
/-! == and != of two dicts whose keys are tuples. -/
namespace PySem.W
open Lean Elab Tactic Meta PySem PySem.Calls PyProof.Rows PyProof.V PySem.Spec
variable {prog : Program} {w : World} {A : Around} {E : Value → Shared → Prop} {s : Shared} {K : Type} [DecidableEq K] {knd : HeapKind prog w K}
/-- the entries of one, asked in the other -/
inductive HitsH (A : Around) (s : Shared) (kb : List (K × Addr × Value)) : List (K × Addr × Value) → Bool → Prop
  | nil : HitsH A s kb [] true
  | miss {k : K} {p : Addr × Value} {r : List (K × Addr × Value)} : atKey kb k = none → HitsH A s kb ((k, p) :: r) false
  | hit {k : K} {p q : Addr × Value} {r : List (K × Addr × Value)} {e b : Bool} : atKey kb k = some q → SeqAt.EqAt A s p.2 q.2 e → HitsH A s kb r b → HitsH A s kb ((k, p) :: r) (e && b)
theorem HitsH.inv {kb : List (K × Addr × Value)} {k : K} {p : Addr × Value} {r : List (K × Addr × Value)} {b : Bool} (h : HitsH A s kb ((k, p) :: r) b) :
    (atKey kb k = none ∧ b = false) ∨ ∃ q e b', atKey kb k = some q ∧ SeqAt.EqAt A s p.2 q.2 e ∧ HitsH A s kb r b' ∧ b = (e && b') := by
  cases h with
  | miss hn => exact .inl ⟨hn, rfl⟩
  | hit hy he hr => exact .inr ⟨_, _, _, hy, he, hr, rfl⟩
theorem samePairsH {nm : String} {a b : Addr} {ka kb : List (K × Addr × Value)} {r : Bool} {Q : Bool → Shared → Prop} (ha : (a == sysModules) = false) (hb : (b == sysModules) = false)
    (da : s.heap.DictOfH knd a ka) (db : s.heap.DictOfH knd b kb) (hu : knd.room A) (hits : ka.length = kb.length → HitsH A s kb ka r) (h : Q (ka.length == kb.length && r) s) :
    wpAny (model prog w) A (Builtin.Dict.samePairs nm a b) Q E s := by
  obtain ⟨oa, es, ep, hoa, _, hda, hea, hka, hna⟩ := da
  obtain ⟨ob, es', ep', hob, _, hdb, heb, hkb, hnb⟩ := db
  have hla : ka.length = es.size := (size_of_entries hea).symm
  have hlb : kb.length = es'.size := (size_of_entries heb).symm
  rw [hla, hlb] at h
  unfold Builtin.Dict.samePairs Builtin.Dict.showsAll
  rw [if_neg (show ¬ (a == sysModules) = true by rw [ha]; exact Bool.false_ne_true), if_neg (show ¬ (b == sysModules) = true by rw [hb]; exact Bool.false_ne_true)]
  refine wpAny_bind (wpAny_pure (wpAny_bind (wpAny_pure ?_)))
  refine wpAny_bind (wpAny_dictEntries hoa hda ?_)
  dsimp only
  refine wpAny_bind (wpAny_dictEntries hob hdb ?_)
  by_cases hsz : es.size = es'.size
  case neg =>
    rw [if_pos (by simpa using hsz)]
    have hbf : (es.size == es'.size) = false := by simpa using hsz
    rw [hbf, Bool.false_and] at h
    exact wpAny_bind (wpAny_rule (wpAny_pure h))
  case pos =>
    have h' : Q r s := by simpa [hsz] using h
    have hits' := hits (by rw [hla, hlb]; exact hsz)
    rw [if_neg (by rw [hsz]; simp)]
    refine wpAny_bind (wpAny_dictEpoch hoa hda ?_)
    refine wpAny_bind ?_
    rw [Std.Legacy.Range.forIn_eq_forIn_range']
    simp only [Std.Legacy.Range.size, Nat.sub_zero, Nat.add_sub_cancel, Nat.div_one]
    refine wpAny_forIn_list _
      (fun rest q s' => s' = s ∧ q = (none, ()) ∧ ∃ i, rest = List.range' i (es.size - i) ∧ i ≤ es.size ∧ HitsH A s kb (ka.drop i) r)
      _ ?_ ?_ _ _ ⟨rfl, rfl, 0, by simp, Nat.zero_le _, hits'⟩
    · rintro x rest q s' ⟨rfl, rfl, i, hr, hi, hpre⟩
      have hlt : i < es.size := by
        rcases Nat.lt_or_ge i es.size with h | h
        · exact h
        · rw [Nat.sub_eq_zero_of_le h] at hr; simp at hr
      obtain ⟨rfl, hrest⟩ : x = i ∧ rest = List.range' (i + 1) (es.size - (i + 1)) := by
        have e : es.size - i = (es.size - (i + 1)) + 1 := by omega
        rw [e, List.range'_succ] at hr
        injection hr with h1 h2
        exact ⟨h1, h2⟩
      refine wpAny_bind (wpAny_dictEntries hoa hda ?_)
      rw [Array.getElem?_eq_getElem hlt]
      have hlt' : x < ka.length := by rw [hla]; exact hlt
      obtain ⟨k, p, hkv⟩ : ∃ k p, ka[x] = (k, p) := ⟨_, _, rfl⟩
      have hdrop : ka.drop x = (k, p) :: ka.drop (x + 1) := by rw [← hkv]; exact List.drop_eq_getElem_cons hlt'
      have hent : es[x] = ⟨knd.hash k, .ref p.1, p.2⟩ := by
        have e1 := entry_at hea x
        rw [Array.getElem?_eq_getElem hlt, List.getElem?_eq_getElem hlt', hkv] at e1
        exact Option.some.inj e1
      have hkey : knd.is s'.heap k p.1 := hka (k, p) (by rw [← hkv]; exact List.getElem_mem hlt')
      rw [hdrop] at hpre
      show wpAny _ _ (holding [es[x].key, es[x].val] _ >>= _) _ _ _
      rw [hent]
      refine wpAny_bind (wpAny_holding (wpAny_bind (wpAny_dictFind_heap hu hkey hob hdb heb hkb hnb (fun hno => ?_) fun j q hj => ?_)))
      · have hn : atKey kb k = none := atKey_none_of_get hno
        rcases hpre.inv with ⟨_, er⟩ | ⟨y, _, _, hy, _⟩
        · rw [er] at h'
          refine wpAny_pure ?_
          show wpAny _ _ (if (!false) = true then _ else _) _ _ _
          rw [if_pos (by decide)]
          exact wpAny_pure (wpAny_pure h')
        · rw [hn] at hy; exact nomatch hy
      · have hv' : atKey kb k = some q := atKey_of_get hnb hj
        refine wpAny_bind (wpAny_dictEntries hob hdb ?_)
        rw [entry_at heb j, hj]
        rcases hpre.inv with ⟨hn, _⟩ | ⟨y, e, b', hy, he, hrr, er⟩
        · rw [hv'] at hn; exact nomatch hn
        · have ey : q = y := Option.some.inj (hv'.symm.trans hy)
          rw [← ey] at he
          refine wpAny_holding (he prog w _ _ ?_)
          cases e with
          | false =>
            rw [er, Bool.false_and] at h'
            show wpAny _ _ (if (!false) = true then _ else _) _ _ _
            rw [if_pos (by decide)]
            exact wpAny_pure (wpAny_pure h')
          | true =>
            rw [Bool.true_and] at er
            rw [← er] at hrr
            show wpAny _ _ (if (!true) = true then _ else _) _ _ _
            rw [if_neg (by decide)]
            refine wpAny_bind (wpAny_dictEpoch hoa hda ?_)
            rw [if_neg (by simp)]
            exact wpAny_pure ⟨rfl, rfl, x + 1, hrest, hlt, hrr⟩
    · rintro q s' ⟨rfl, rfl, i, hr, hi, hpre⟩
      have hin : i = es.size := by
        rcases Nat.lt_or_ge i es.size with h | h
        · have e : es.size - i = (es.size - (i + 1)) + 1 := by omega
          rw [e, List.range'_succ] at hr; exact nomatch hr
        · exact Nat.le_antisymm hi h
      refine wpAny_pure ?_
      rw [hin, ← hla, List.drop_length] at hpre
      cases hpre
      exact h'
end PySem.W
set_option Elab.async false
set_option linter.all false
set_option maxRecDepth 100000
set_option maxHeartbeats 4000000
/-! == and != of two dicts whose keys are tuples, their values data. -/
namespace PySem.W
open Lean Elab Tactic Meta PySem PySem.Calls PyProof.Rows PyProof.V PySem.Spec
section
variable {prog : Program} {w : World} {A : Around} {E : Value → Shared → Prop} {s : Shared} {K : Type} [DecidableEq K] {knd : HeapKind prog w K}
theorem keqH_eq {a b : Addr} {ka kb : List (K × Addr × Value)} {r : Bool} {Q : Value → Shared → Prop} (ha : (a == sysModules) = false) (hb : (b == sysModules) = false)
    (da : s.heap.DictOfH knd a ka) (db : s.heap.DictOfH knd b kb) (hu : A.units < cLine) (hr : knd.room A.in1) (hits : ka.length = kb.length → HitsH A.in1 s kb ka r) (h : Q (.bool (ka.length == kb.length && r)) s) :
    wpAny (model prog w) A (compareOp .Eq (.ref a) (.ref b)) Q E s := by
  refine wpAny_richCompare_same_room (op := .Eq) da.typeIs db.typeIs PySem.F.slot_dict_eq (wpAny_call_entry PySem.F.slot_dict_eq da.typeIs PySem.F.entry_dict_eq ?_ (PySem.F.args_dict_eq_2 _ _)) hu
  show wpAny _ _ (Builtin.Dict.dictSlotArgs "__eq__" ⟨[.ref a, .ref b], []⟩ >>= _) _ _ s
  refine wpAny_bind ?_
  unfold Builtin.Dict.dictSlotArgs
  refine wpAny_bind (wpAny_notOrdered_dict da.typeIs ?_)
  show wpAny _ _ (pure (Value.ref a, Value.ref b)) _ _ s
  refine wpAny_pure ?_
  refine wpAny_bind (wpAny_isInstance (T := "dict") db.typeIs PySem.F.sub_dict_dict ?_)
  simp only [Bool.not_true, Bool.false_eq_true, if_false]
  refine wpAny_bind (wpAny_pure (wpAny_bind (wpAny_pure ?_)))
  refine wpAny_bind (samePairsH ha hb da db hr hits ?_)
  refine wpAny_pure ⟨_, rfl, ?_, ?_⟩
  · exact fun x => nomatch x
  · simpa using h
theorem keqH_ne {a b : Addr} {ka kb : List (K × Addr × Value)} {r : Bool} {Q : Value → Shared → Prop} (ha : (a == sysModules) = false) (hb : (b == sysModules) = false)
    (da : s.heap.DictOfH knd a ka) (db : s.heap.DictOfH knd b kb) (hu : A.units < cLine) (hr : knd.room A.in1) (hits : ka.length = kb.length → HitsH A.in1 s kb ka r) (h : Q (.bool (!(ka.length == kb.length && r))) s) :
    wpAny (model prog w) A (compareOp .NotEq (.ref a) (.ref b)) Q E s := by
  refine wpAny_richCompare_same_room (op := .NotEq) da.typeIs db.typeIs PySem.F.slot_dict_ne (wpAny_call_entry PySem.F.slot_dict_ne da.typeIs PySem.F.entry_dict_ne ?_ (PySem.F.args_dict_ne_2 _ _)) hu
  show wpAny _ _ (Builtin.Dict.dictSlotArgs "__ne__" ⟨[.ref a, .ref b], []⟩ >>= _) _ _ s
  refine wpAny_bind ?_
  unfold Builtin.Dict.dictSlotArgs
  refine wpAny_bind (wpAny_notOrdered_dict da.typeIs ?_)
  show wpAny _ _ (pure (Value.ref a, Value.ref b)) _ _ s
  refine wpAny_pure ?_
  refine wpAny_bind (wpAny_isInstance (T := "dict") db.typeIs PySem.F.sub_dict_dict ?_)
  simp only [Bool.not_true, Bool.false_eq_true, if_false]
  refine wpAny_bind (wpAny_pure (wpAny_bind (wpAny_pure ?_)))
  refine wpAny_bind (samePairsH ha hb da db hr hits ?_)
  refine wpAny_pure ⟨_, rfl, ?_, ?_⟩
  · exact fun x => nomatch x
  · simpa using h
end
end PySem.W
namespace Q
open PySem PySem.Spec PyProof.Rows L2
/-- the data of a dict's values, by its keys -/
def RowsD (K : PySem.W.Frag) (H : Hp) (kvs : List (List Key × V)) (Ds : List (List Key × PyData)) : Prop := Paired (fun (p : List Key × V) (q : List Key × PyData) => p.1 = q.1 ∧ Dp K H p.2 q.2 ∧ SeqAt.shaped q.2 = true) kvs Ds
def lookE (Es : List (List Key × PyData)) (k : List Key) : Option PyData := (Es.find? fun x => decide (x.1 = k)).map (·.2)
/-- two such dicts are equal -/
def rowsEq (Ds Es : List (List Key × PyData)) : Bool := Ds.length == Es.length && Ds.all fun p => match lookE Es p.1 with
  | some e => PyData.eqv p.2 e
  | none => false
section
variable {X : Cx} {pins : List (Addr × Obj)} {σ : L2.St} {H : Hp} {s : Shared}
theorem rows_len {K : PySem.W.Frag} {kvs : List (List Key × V)} {Ds : List (List Key × PyData)} (h : RowsD K H kvs Ds) : kvs.length = Ds.length := Paired.length h
theorem rows_at {K : PySem.W.Frag} {k : List Key} : ∀ {kvs : List (List Key × V)} {Ds : List (List Key × PyData)} {xs : List (List Key × Addr × Value)}, RowsD K H kvs Ds →
    Paired (fun (p : List Key × V) (q : List Key × Addr × Value) => p.1 = q.1 ∧ H q.2.1 = some (.tup (p.1.map kV)) ∧ RelV p.2 q.2.2) kvs xs →
    (atKey xs k = none ∧ lookE Ds k = none) ∨ ∃ q e v, atKey xs k = some q ∧ lookE Ds k = some e ∧ Dp K H v e ∧ RelV v q.2 ∧ SeqAt.shaped e = true
  | _, _, _, .nil, .nil => .inl ⟨rfl, rfl⟩
  | _ :: _, _ :: _, _ :: _, .cons (a := p) (b := d) h t, .cons (b := x) h2 t2 => by
    obtain ⟨k1, hd, sh⟩ := h
    obtain ⟨k2, _, rv⟩ := h2
    unfold atKey lookE
    rw [List.find?_cons, List.find?_cons]
    by_cases e : p.1 = k
    · refine .inr ⟨x.2, d.2, p.2, ?_, ?_, hd, rv, sh⟩
      · rw [show decide (x.1 = k) = true from decide_eq_true (by rw [← k2, e])]
        rfl
      · rw [show decide (d.1 = k) = true from decide_eq_true (by rw [← k1, e])]
        rfl
    · rw [show decide (x.1 = k) = false from decide_eq_false (by rw [← k2]; exact e), show decide (d.1 = k) = false from decide_eq_false (by rw [← k1]; exact e)]
      exact rows_at t t2
theorem rows_hits (I : Inv X pins σ H s) {A : Around} (hu : A.in1.units + 64 < cLine) {ls : List (List Key × V)} {Es : List (List Key × PyData)} {ys : List (List Key × Addr × Value)} (hE : RowsD X.K H ls Es)
    (hy : Paired (fun (p : List Key × V) (q : List Key × Addr × Value) => p.1 = q.1 ∧ H q.2.1 = some (.tup (p.1.map kV)) ∧ RelV p.2 q.2.2) ls ys) :
    ∀ {kvs : List (List Key × V)} {Ds : List (List Key × PyData)} {xs : List (List Key × Addr × Value)}, RowsD X.K H kvs Ds →
    Paired (fun (p : List Key × V) (q : List Key × Addr × Value) => p.1 = q.1 ∧ H q.2.1 = some (.tup (p.1.map kV)) ∧ RelV p.2 q.2.2) kvs xs →
    PySem.W.HitsH A.in1 s ys xs (Ds.all fun p => match lookE Es p.1 with
      | some e => PyData.eqv p.2 e
      | none => false)
  | _, _, _, .nil, .nil => .nil
  | _ :: _, _ :: _, (kx, px) :: _, .cons (a := p) (b := d) h t, .cons h2 t2 => by
    obtain ⟨k1, hd, sh⟩ := h
    obtain ⟨k2, _, rv⟩ := h2
    have ih := rows_hits I hu hE hy t t2
    rw [List.all_cons]
    have kk : kx = d.1 := k2.symm.trans k1
    subst kk
    rcases rows_at (k := d.1) hE hy with ⟨n1, n2⟩ | ⟨q, e, v, a1, a2, hv, rq, she⟩
    · rw [n2, Bool.false_and]
      exact .miss n1
    · rw [a2]
      obtain ⟨as, r1⟩ := Dp.reads I d.2 p.2 px.2 hd rv
      obtain ⟨bs, r2⟩ := Dp.reads I e v q.2 hv rq
      exact .hit a1 (PySem.W.keq_at r1 r2 sh she hu) ih
end
section
variable {X : Cx}
def rEqRows (K : PySem.W.Frag) (ne : Bool) : R2 := fun x y H Q => ∃ a b ks ls Ds Es, x = .ref a ∧ y = .ref b ∧ H a = some (.dT ks) ∧ H b = some (.dT ls) ∧ RowsD K H ks Ds ∧ RowsD K H ls Es ∧ Q (.bl (if ne then !rowsEq Ds Es else rowsEq Ds Es)) H
theorem op_eqRows (hu : X.A.units + 66 < cLine) : OpR X (compareOp .Eq) (rEqRows X.K false) := by
  intro pins s σ H x y v u Q I rx ry h
  obtain ⟨a, b, ks, ls, Ds, Es, rfl, rfl, ha, hb, hD, hE, q⟩ := h
  obtain rfl : v = Value.ref a := rx
  obtain rfl : u = Value.ref b := ry
  obtain ⟨_, ya, xs, pa, da⟩ := dt_of I.hok ha
  obtain ⟨_, yb, ys, pb, db⟩ := dt_of I.hok hb
  have la : xs.length = Ds.length := by rw [← rows_len hD]; exact (Paired.length pa).symm
  have lb : ys.length = Es.length := by rw [← rows_len hE]; exact (Paired.length pb).symm
  refine PySem.W.keqH_eq ya yb da db (by omega) (tupleKind_room_in1 (by omega)) (fun _ => rows_hits I (by show X.A.in1.units + 64 < cLine; simp only [Around.in1]; omega) hE pb hD pa) ?_
  rw [la, lb]
  exact ⟨.bl _, H, I, rfl, q⟩
theorem op_neRows (hu : X.A.units + 66 < cLine) : OpR X (compareOp .NotEq) (rEqRows X.K true) := by
  intro pins s σ H x y v u Q I rx ry h
  obtain ⟨a, b, ks, ls, Ds, Es, rfl, rfl, ha, hb, hD, hE, q⟩ := h
  obtain rfl : v = Value.ref a := rx
  obtain rfl : u = Value.ref b := ry
  obtain ⟨_, ya, xs, pa, da⟩ := dt_of I.hok ha
  obtain ⟨_, yb, ys, pb, db⟩ := dt_of I.hok hb
  have la : xs.length = Ds.length := by rw [← rows_len hD]; exact (Paired.length pa).symm
  have lb : ys.length = Es.length := by rw [← rows_len hE]; exact (Paired.length pb).symm
  refine PySem.W.keqH_ne ya yb da db (by omega) (tupleKind_room_in1 (by omega)) (fun _ => rows_hits I (by show X.A.in1.units + 64 < cLine; simp only [Around.in1]; omega) hE pb hD pa) ?_
  rw [la, lb]
  exact ⟨.bl _, H, I, rfl, q⟩
end
end Q
set_option Elab.async false
set_option linter.all false
set_option maxRecDepth 100000
set_option maxHeartbeats 4000000
/-! max(xs, default=d) of whole numbers. -/
namespace Q
open PySem PySem.Spec PyProof.Rows L2
section
variable {P : Program} {w : World} {A : Around} {E : Value → Shared → Prop} {s : Shared}
theorem max_dflt {l : Addr} {its : List Value} {ns : List Int} {d : Value} {Q : Value → Shared → Prop} (hh : A.handled = none) (hl : s.heap.IsList l its.toArray) (hi : IntsAre its ns)
    (h0 : ns = [] → ∀ h' tk, (∀ b o, s.heap.get? b = some o → h'.get? b = some o) → Q d { s with heap := h', toks := tk })
    (h1 : ∀ h' tk M t', (∀ b o, s.heap.get? b = some o → h'.get? b = some o) → M ∈ ns → (∀ a, a ∈ ns → a ≤ M) → Q (.int M t') { s with heap := h', toks := tk }) :
    wpAny (model P w) A (call (.builtin "max") [.ref l] [(Str.ofString "default", d)]) Q E s := by
  obtain ⟨xs, e⟩ := hi.allInts.items
  have hn : numsOf (intItems xs).toList = ns := by rw [← e]; exact hi.numsOf
  rw [nums_intItems] at hn
  subst hn
  rw [e] at hl
  have back : ∀ (s2 : Shared) (h0 : Heap), s2 = { s with heap := h0 } → ∀ s' : Shared, s'.gens = s2.gens → s'.drawn = s2.drawn → s'.os = s2.os → s' = { s with heap := s'.heap, toks := s'.toks } := fun s2 h0 e s' g dr o => by
    subst e
    cases s'
    cases s
    cases g
    cases dr
    cases o
    rfl
  refine call_max_walkD (iter_intList hl fun s₂ e st hfp hlI => ?_)
  refine ⟨_, _, _, _, _, _, _, ({} : Heap), fun i j => decide (numAt xs i > numAt xs j), rfl, (Walks.list (A := A.in1) hh _ l hlI (intItems xs)).toS, ?_, hfp, fun b o z => ?_, fun b o z => ?_, fun z s' mv => ?_, fun z => ⟨fun i j vi vj s3 Q3 E3 _ hi hj hq => ?_, fun v s' hP mv => ?_⟩⟩
  · exact st
  · exact absurd z (by simp [Heap.get?])
  · exact absurd z (by simp [Heap.get?])
  · have hz : xs.size = 0 := by simpa [intItems] using z
    rw [back s₂ _ e s' mv.gens mv.drawn mv.os]
    refine h0 (List.eq_nil_of_length_eq_zero (by simpa using hz)) _ _ ?_
    subst e
    exact old_kept fun b o nb q => mv.heap b o nb q
  · exact (CmpOf.ints_gt (numAt xs) (fun _ _ => intItems_at)) i j vi vj s3 Q3 E3 hi hj hq
  · have hsz : 0 < xs.size := by simpa [intItems] using z
    have hP : (intItems xs)[argBest (fun i j => decide (numAt xs i > numAt xs j)) (xs.size - 1)]? = some v := by simpa [intItems] using hP
    obtain ⟨t, rfl⟩ := intItems_at hP
    obtain ⟨g1, g2⟩ := argBest_gt (numAt xs) (xs.size - 1)
    rw [back s₂ _ e s' mv.gens mv.drawn mv.os]
    refine h1 _ _ _ t ?_ ?_ fun a ha => ?_
    · subst e
      exact old_kept fun b o nb q => mv.heap b o nb q
    · rw [numAt_eq]; exact PySem.getD_mem (by rw [List.length_map, Array.length_toList]; omega)
    · obtain ⟨j, hj, rfl⟩ := mem_getD ha
      rw [List.length_map, Array.length_toList] at hj
      rw [← numAt_eq]; exact g2 j (by omega)
end
def rMaxD (K : PySem.W.Frag) : List V → List V → Hp → VK → Prop := fun vs zs H Q => ∃ (a : Addr) (ns : List Int) (d : V), vs = [V.ref a] ∧ zs = [d] ∧ SqL K H a (ns.map V.int) ∧ (ns = [] → Q d H) ∧ (∀ m, m ∈ ns → (∀ y, y ∈ ns → y ≤ m) → Q (.int m) H)
theorem cr_maxD {X : Cx} (hc : X.calm = true) : CallRK X (.builtin "max") [Str.ofString "default"] (rMaxD X.K) := by
  intro pins s σ H vs zs us ws Q I r rz h
  obtain ⟨a, ns, d, rfl, rfl, hs, q0, q1⟩ := h
  obtain ⟨its, rv, hl, _⟩ := I.list hs
  rw [Vals.ref1 r]
  obtain ⟨w1, rfl, e1⟩ := vals1 rz
  refine max_dflt (I.ok.hd hc) hl.isList rv.ints (fun e h' tk hk => ?_) fun h' tk m t' hk h1 h2 => ⟨.int _, H, I.kept hk, ⟨_, rfl⟩, q1 m h1 h2⟩
  exact ⟨d, H, I.kept hk, e1, q0 e⟩
end Q
set_option Elab.async false
set_option linter.all false
set_option maxRecDepth 100000
set_option maxHeartbeats 4000000
/-! != of two dicts of dicts: the keys ints and texts, the inner values data. -/
namespace PySem.W
open Lean Elab Tactic Meta PySem PySem.Calls PyProof.Rows PyProof.V PySem.Spec
open PySem.SeqAt (EqIn)
section
variable {prog : Program} {w : World} {K : Type} [DecidableEq K] {knd : KeyKind prog w K} {A : Around} {E : Value → Shared → Prop} {s : Shared}
theorem keq_neIn {a b : Addr} {ka kb : List (K × Value)} {r : Bool} {Q : Value → Shared → Prop} (ha : (a == sysModules) = false) (hb : (b == sysModules) = false)
    (da : s.heap.DictOf knd a ka) (db : s.heap.DictOf knd b kb) (hu : A.units < cLine) (hits : ka.length = kb.length → KeqHitsIn prog w A.in1 s kb ka r) (h : Q (.bool (!(ka.length == kb.length && r))) s) :
    wpAny (model prog w) A (compareOp .NotEq (.ref a) (.ref b)) Q E s := by
  refine wpAny_richCompare_same_room (op := .NotEq) da.typeIs db.typeIs PySem.F.slot_dict_ne (wpAny_call_entry PySem.F.slot_dict_ne da.typeIs PySem.F.entry_dict_ne ?_ (PySem.F.args_dict_ne_2 _ _)) hu
  show wpAny _ _ (Builtin.Dict.dictSlotArgs "__ne__" ⟨[.ref a, .ref b], []⟩ >>= _) _ _ s
  refine wpAny_bind ?_
  unfold Builtin.Dict.dictSlotArgs
  refine wpAny_bind (wpAny_notOrdered_dict da.typeIs ?_)
  show wpAny _ _ (pure (Value.ref a, Value.ref b)) _ _ s
  refine wpAny_pure ?_
  refine wpAny_bind (wpAny_isInstance (T := "dict") db.typeIs PySem.F.sub_dict_dict ?_)
  simp only [Bool.not_true, Bool.false_eq_true, if_false]
  refine wpAny_bind (wpAny_pure (wpAny_bind (wpAny_pure ?_)))
  refine wpAny_bind (keq_samePairsIn ha hb da db hits ?_)
  refine wpAny_pure ⟨_, rfl, ?_, ?_⟩
  · exact fun x => nomatch x
  · simpa using h
end
end PySem.W
namespace Q
open PySem PySem.Spec PyProof.Rows L2
def lookG {α : Type} (Es : List (Key × α)) (k : Key) : Option α := (Es.find? fun x => decide (x.1 = k)).map (·.2)
/-- two dicts are equal, eq for their values -/
def eqG {α : Type} (eq : α → α → Bool) (Ds Es : List (Key × α)) : Bool := Ds.length == Es.length && Ds.all fun p => match lookG Es p.1 with
  | some e => eq p.2 e
  | none => false
/-- the values of a dict, by its keys -/
def KeyedG {α : Type} (R : V → α → Prop) : List (Key × V) → List (Key × α) → Prop := Paired fun p q => p.1 = q.1 ∧ R p.2 q.2
section
variable {prog : Program} {w : World} {A : Around} {s : Shared}
theorem look_of {α : Type} {R : V → α → Prop} {k : Key} : ∀ {kvs : List (Key × V)} {Ds : List (Key × α)} {xs : List (Key × Value)}, KeyedG R kvs Ds → KV kvs xs →
    (valueAt xs k = none ∧ lookG Ds k = none) ∨ ∃ u e v, valueAt xs k = some u ∧ lookG Ds k = some e ∧ R v e ∧ RelV v u
  | _, _, _, .nil, .nil => .inl ⟨rfl, rfl⟩
  | _ :: _, _ :: _, _ :: _, .cons (a := p) (b := d) h t, .cons (b := x) h2 t2 => by
    obtain ⟨k1, hd⟩ := h
    obtain ⟨k2, rv⟩ := h2
    unfold valueAt lookG
    rw [List.find?_cons, List.find?_cons]
    by_cases e : p.1 = k
    · refine .inr ⟨x.2, d.2, p.2, ?_, ?_, hd, rv⟩
      · rw [show decide (x.1 = k) = true from decide_eq_true (by rw [← k2, e])]
        rfl
      · rw [show decide (d.1 = k) = true from decide_eq_true (by rw [← k1, e])]
        rfl
    · rw [show decide (x.1 = k) = false from decide_eq_false (by rw [← k2]; exact e), show decide (d.1 = k) = false from decide_eq_false (by rw [← k1]; exact e)]
      exact look_of t t2
theorem hits_of {α : Type} {R1 R2 : V → α → Prop} {eq : α → α → Bool} (he : ∀ v y d e u z, R1 v d → R2 y e → RelV v u → RelV y z → SeqAt.EqIn prog w A s u z (eq d e))
    {ls : List (Key × V)} {Es : List (Key × α)} {ys : List (Key × Value)} (hE : KeyedG R2 ls Es) (hy : KV ls ys) :
    ∀ {kvs : List (Key × V)} {Ds : List (Key × α)} {xs : List (Key × Value)}, KeyedG R1 kvs Ds → KV kvs xs → PySem.W.KeqHitsIn prog w A s ys xs (Ds.all fun p => match lookG Es p.1 with
      | some e => eq p.2 e
      | none => false)
  | _, _, _, .nil, .nil => .nil
  | _ :: _, _ :: _, (kx, px) :: _, .cons (a := p) (b := d) h t, .cons h2 t2 => by
    obtain ⟨k1, hd⟩ := h
    obtain ⟨k2, rv⟩ := h2
    have ih := hits_of he hE hy t t2
    rw [List.all_cons]
    have kk : kx = d.1 := k2.symm.trans k1
    subst kk
    rcases look_of (k := d.1) hE hy with ⟨n1, n2⟩ | ⟨u, e, v, a1, a2, hv, rq⟩
    · rw [n2, Bool.false_and]
      exact .miss n1
    · rw [a2]
      exact .hit a1 (he _ _ _ _ _ _ hd hv rv rq) ih
theorem len_of {α : Type} {R : V → α → Prop} {kvs : List (Key × V)} {Ds : List (Key × α)} {xs : List (Key × Value)} (h : KeyedG R kvs Ds) (r : KV kvs xs) : xs.length = Ds.length :=
  (Paired.length r).symm.trans (Paired.length h)
end
/-- a datum as a value of a dict; a dict of data as one, S what else is known of its address and its data -/
def RowD (K : PySem.W.Frag) (H : Hp) (v : V) (d : PyData) : Prop := Dp K H v d ∧ SeqAt.shaped d = true
def TabD (K : PySem.W.Frag) (H : Hp) (S : Addr → List (Key × PyData) → Prop) (v : V) (Ds : List (Key × PyData)) : Prop := ∃ c rows, v = .ref c ∧ S c Ds ∧ H c = some (.dK rows) ∧ KeyedG (RowD K H) rows Ds
section
variable {X : Cx} {pins : List (Addr × Obj)} {σ : L2.St} {H : Hp} {s : Shared}
theorem row_eq (I : Inv X pins σ H s) {prog : Program} {w : World} {A : Around} (hu : A.in1.units + 64 < cLine) (v y : V) (d e : PyData) (u z : Value) (h1 : RowD X.K H v d) (h2 : RowD X.K H y e) (r1 : RelV v u) (r2 : RelV y z) :
    SeqAt.EqIn prog w A.in1 s u z (PyData.eqv d e) := by
  obtain ⟨as, q1⟩ := Dp.reads I d v u h1.1 r1
  obtain ⟨bs, q2⟩ := Dp.reads I e y z h2.1 r2
  exact (PySem.W.keq_at q1 q2 h1.2 h2.2 hu).inModel prog w
def rNeTabs (K : PySem.W.Frag) : R2 := fun x y H Q => ∃ a b ks ls Ts Us S1 S2, x = .ref a ∧ y = .ref b ∧ H a = some (.dK ks) ∧ H b = some (.dK ls) ∧ KeyedG (TabD K H S1) ks Ts ∧ KeyedG (TabD K H S2) ls Us ∧
  (∀ c Ds Es, S1 c Ds → S2 c Es → eqG PyData.eqv Ds Es = true) ∧ Q (.bl (!eqG (eqG PyData.eqv) Ts Us)) H
theorem op_neTabs (hu : X.A.units + 67 < cLine) : OpR X (compareOp .NotEq) (rNeTabs X.K) := by
  intro pins s σ H x y v u Q I rx ry h
  obtain ⟨a, b, ks, ls, Ts, Us, S1, S2, rfl, rfl, ha, hb, hT, hU, hS, q⟩ := h
  obtain rfl : v = Value.ref a := rx
  obtain rfl : u = Value.ref b := ry
  obtain ⟨_, ya, xs, pa, da⟩ := dk_of I.hok ha
  obtain ⟨_, yb, ys, pb, db⟩ := dk_of I.hok hb
  refine PySem.W.keq_neIn ya yb da db (by omega) (fun _ => hits_of (eq := eqG PyData.eqv) (fun v y d e u z h1 h2 r1 r2 => ?_) hU pb hT pa) ?_
  · obtain ⟨c, rows, rfl, s1, hc, kc⟩ := h1
    obtain ⟨c', rows', rfl, s2, hc', kc'⟩ := h2
    obtain rfl : u = Value.ref c := r1
    obtain rfl : z = Value.ref c' := r2
    obtain ⟨_, yc, vs, pc, dc⟩ := dk_of I.hok hc
    obtain ⟨_, yc', vs', pc', dc'⟩ := dk_of I.hok hc'
    by_cases same : c = c'
    · subst same
      rw [hS _ _ _ s1 s2]
      exact (SeqAt.EqAt.same _).inModel _ _
    refine SeqAt.EqIn.of_refs same fun E Q hq => ?_
    refine PySem.W.keq_eqIn yc yc' dc dc' (by simp only [Around.in1]; omega) (fun _ => hits_of (fun v y d e u z h1 h2 r1 r2 => row_eq I (by simp only [Around.in1]; omega) v y d e u z h1 h2 r1 r2) kc' pc' kc pc) ?_
    rw [len_of kc pc, len_of kc' pc']
    exact hq
  · rw [len_of hT pa, len_of hU pb]
    exact ⟨.bl _, H, I, rfl, q⟩
end
end Q
set_option Elab.async false
set_option linter.all false
set_option maxRecDepth 100000
set_option maxHeartbeats 4000000
/-! dicts of the same keys compared: all values equal -/
namespace Q
open PySem PySem.Spec PyProof.Rows L2
theorem lookG_map {α : Type} (G : Str → α) {z : Str} : ∀ {zs : List Str}, z ∈ zs → lookG (zs.map fun y => ((.inr y : Key), G y)) (.inr z) = some (G z)
  | y :: zs, h => by
    unfold lookG
    rw [List.map_cons, List.find?_cons]
    by_cases e : y = z
    · subst e
      rw [show decide (((.inr y : Key), G y).1 = (.inr y : Key)) = true from decide_eq_true rfl]
      rfl
    · rw [show decide (((.inr y : Key), G y).1 = (.inr z : Key)) = false from decide_eq_false fun q => e (Sum.inr.inj q)]
      exact lookG_map G (by
        rcases List.mem_cons.mp h with q | q
        · exact absurd q.symm e
        · exact q)
theorem eqG_map {α : Type} (eq : α → α → Bool) (F G : Str → α) (zs : List Str) : eqG eq (zs.map fun z => ((.inr z : Key), F z)) (zs.map fun z => ((.inr z : Key), G z)) = true ↔ ∀ z ∈ zs, eq (F z) (G z) = true := by
  unfold eqG
  rw [List.length_map, List.length_map, Bool.and_eq_true, List.all_eq_true]
  refine ⟨fun ⟨_, h⟩ z hz => ?_, fun h => ⟨beq_self_eq_true _, fun p hp => ?_⟩⟩
  · have := h _ (List.mem_map.mpr ⟨z, hz, rfl⟩)
    rw [lookG_map G hz] at this
    exact this
  · obtain ⟨z, hz, rfl⟩ := List.mem_map.mp hp
    rw [lookG_map G hz]
    exact h z hz
/-- what holds of all entries, their keys zs, told by one function of the key -/
theorem keyed_map {α : Type} [Inhabited α] {R : V → α → Prop} : ∀ (rs : List (Str × Addr)), (rs.map (·.1)).Nodup → (∀ q ∈ rs, ∃ d, R (.ref q.2) d) → ∃ F : Str → α, KeyedG R (rs.map fun q => ((.inr q.1 : Key), V.ref q.2)) ((rs.map (·.1)).map fun z => ((.inr z : Key), F z))
  | [], _, _ => ⟨fun _ => default, .nil⟩
  | q :: rs, nd, h => by
    rw [List.map_cons, List.nodup_cons] at nd
    obtain ⟨F, hF⟩ := keyed_map rs nd.2 fun p hp => h p (List.mem_cons_of_mem _ hp)
    obtain ⟨d, hd⟩ := h q List.mem_cons_self
    refine ⟨fun z => if z = q.1 then d else F z, ?_⟩
    rw [List.map_cons, List.map_cons, List.map_cons]
    refine .cons ⟨rfl, by show R _ (if q.1 = q.1 then d else F q.1); rw [if_pos rfl]; exact hd⟩ ?_
    rw [show ((rs.map (·.1)).map fun z => ((.inr z : Key), if z = q.1 then d else F z)) = (rs.map (·.1)).map fun z => ((.inr z : Key), F z) from List.map_congr_left fun z hz => by
      rw [if_neg fun (e : z = q.1) => nd.1 (e ▸ hz)]]
    exact hF
end Q
set_option Elab.async false
set_option linter.all false
set_option maxRecDepth 100000
set_option maxHeartbeats 4000000
/-! A comprehension of two clauses whose element is a call that may raise: the exception leaves the block and the def. -/
namespace L2
open PySem PySem.Spec PyProof.Rows
/-- what the block's element may let out -/
def XF (Xb : Cx) (E : XK) (u : Value) (t : Shared) : Prop := ∃ (pins : List (Addr × Obj)) (σ : St) (H : Hp) (s : Shared), Inv Xb pins σ H s ∧ CX Xb.prog Xb.w Xb.stack H s E u t
/-- the block's context, its element's exceptions those of E -/
abbrev Cx.blkE (X : Cx) (E : XK) (s : Shared) (H : Hp) (scope : Scope) (ce : Env) (fp : List Addr) : Cx := { X.blk s H scope ce fp with xe := XF (X.blk s H scope ce fp) E }
theorem Inv.withXe {X : Cx} {pins : List (Addr × Obj)} {σ : St} {H : Hp} {s : Shared} (I : Inv X pins σ H s) (xe : Value → Shared → Prop) : Inv { X with xe := xe } pins σ H s :=
  ⟨⟨I.ok.mod, I.ok.kind, I.ok.glob, I.ok.blt, I.ok.above, I.ok.inj, I.ok.has, I.ok.cab, I.ok.hd, I.ok.frames, I.ok.stk, I.ok.exf, I.ok.bs, I.ok.bsz, I.ok.noex, I.ok.exfs, I.ok.funs, I.ok.frf⟩,
    I.os, I.bare, I.base, I.loc, I.cell, I.free, I.freeC, I.pin, I.hok, I.len⟩
theorem passE {X : Cx} {E : XK} {s : Shared} {H : Hp} {scope : Scope} {ce : Env} {fp : List Addr} : Passes (L2.CX X.prog X.w) (X.blkE E s H scope ce fp) E := fun pins σ H' t u t' I c => ⟨pins, σ, H', t, I.withXe _, c⟩
/-- an exception that the frame of X holds, the block's names at C -/
def ErrC (X : Cx) (pins : List (Addr × Obj)) (σ : St) (C : Addr) (E : XK) (u : Value) (t : Shared) : Prop :=
  ∃ (a : Addr) (G : Heap) (sI : Shared) (H : Hp) (cls : Value) (d : Option Addr) (m : Str → Option Value),
    u = .ref a ∧ Inv X pins σ H sI ∧ sI.heap.get? C = none ∧ G.get? C = none ∧ (∀ b o, sI.heap.get? b = some o → b ∉ frs X.stack → G.get? b = some o) ∧ sI.heap.UpToSlots t.heap ∧
      HandSPX.HeldZ G X.stack a (Zc cls d) X.env.locals t.heap ∧ H a = none ∧ t.os = sI.os ∧ AllBare t.gens ∧ t.heap.Ns C m ∧ E cls d H
section
variable {X : Cx} {pins : List (Addr × Obj)} {σ : St} {H : Hp} {s t : Shared} {C : Addr} {E : XK} {u : Value} {ce : Env} {m : Str → Option Value} {E₁ : Value → Shared → Prop} {M : Model}
theorem err_call (I : Inv X pins σ H s) (fC : FpOk X pins H C) (hC : s.heap.Ns C m) (hs : X.stack = X.env :: X.outer) (hf : X.env.frame = some X.env.locals) (hcf : ce.frame = X.env.frame) (c : CX X.prog X.w X.stack H s E u t) :
    wpAny M X.A (noteFrame u ce) (fun _ t' => ErrC X pins σ C E u t') E₁ t := by
  obtain ⟨a, B, H', cls, d, rfl, fl, hok, ub, na, os, ag, hE⟩ := c
  obtain ⟨oC, es, ep, hoC, hdC, rC⟩ := hC
  have Cst : C ∉ frs X.stack := fun q => (List.mem_cons.mp (I.stkSub C q)).elim fC.2.1 fC.2.2.1
  have nC : H' C = none := ub.free C oC hoC fC.1
  have tC : t.heap.get? C = some oC := fl.1 C oC (ub.keep C oC hoC fC.1 Cst)
  -- the ground without C
  have h1 : ∀ b o, (PySem.W.hideAll B [C]).get? b = some o → B.get? b = some o := fun b o q => PySem.W.of_hideAll [C] q
  have h2 : ∀ b o, b ≠ C → B.get? b = some o → (PySem.W.hideAll B [C]).get? b = some o := fun b o ne q => PySem.W.hideAll_get [C] q fun z => ne (List.mem_singleton.mp z)
  have h3 : ∀ b, B.get? b = none → (PySem.W.hideAll B [C]).get? b = none := fun b n => by
    cases q : (PySem.W.hideAll B [C]).get? b with
    | none => rfl
    | some o =>
      rw [h1 b o q] at n
      cases n
  have h4 : (PySem.W.hideAll B [C]).get? C = none := PySem.W.hideAll_none [C] List.mem_cons_self
  generalize PySem.W.hideAll B [C] = G at h1 h2 h3 h4
  obtain ⟨g1, g2, g3, g4⟩ := fl
  have fl' : HandSPX.FlyingZ G X.stack a (Zc cls d) t.heap := by
    obtain ⟨oe, vs, T, oT, ts, k1, k2, k3, k4, k5, k6⟩ := g4
    exact ⟨fun b o q => g1 b o (h1 b o q), h3 a g2, funFrames_none g3 fun b hb => h3 b (g3.mem hb).1, oe, vs, T, oT, ts, k1, k2, k3, k4, h3 T k5, k6⟩
  -- the state without the exception and without C
  obtain ⟨F, f1, f2⟩ := restrict t.heap fun b => (((B.get? b).isSome || decide (b ∈ frs X.stack)) && decide (b ≠ C))
  have FB : ∀ b o, b ≠ C → B.get? b = some o → F.get? b = some o := fun b o ne q => by
    rw [f1 b (by simp [q, ne])]
    exact g1 b o q
  have FS : ∀ b, b ∈ frs X.stack → F.get? b = t.heap.get? b := fun b hb => f1 b (by
    have : b ≠ C := fun z => Cst (z ▸ hb)
    simp [hb, this])
  have FC : F.get? C = none := f2 C (by simp)
  have Fo : ∀ b o, F.get? b = some o → t.heap.get? b = some o ∧ ((B.get? b).isSome = true ∨ b ∈ frs X.stack) ∧ b ≠ C := fun b o q => by
    cases z : (((B.get? b).isSome || decide (b ∈ frs X.stack)) && decide (b ≠ C)) with
    | false =>
      rw [f2 b z] at q
      cases q
    | true =>
      rw [f1 b z] at q
      refine ⟨q, ?_⟩
      simpa [Bool.or_eq_true, Bool.and_eq_true] using z
  have J : Inv X pins σ H' { s with heap := F, gens := t.gens, drawn := t.drawn, toks := t.toks } := by
    refine I.call (ch := [C]) ⟨fun b o q n hb hc => FB b o (fun z => hc (by simp [z])) (ub.keep b o q n hb), fun b o q n hb hc => ?_, fun b o q n _ => ub.free b o q n, fun b o q hc => ?_, ub.tups, ub.frzs, ub.tbls⟩ (fun b u e => ?_) ag (fun b hb => ?_)
    · obtain ⟨sl, z⟩ := ub.slot b o q hb
      exact ⟨sl, by rw [FS b hb]; exact z⟩
    · by_cases hb : b ∈ frs X.stack
      · obtain ⟨sl, z⟩ := ub.slot b o q hb
        exact ⟨_, by rw [FS b hb]; exact z⟩
      · obtain ⟨o', z⟩ := ub.there b o q hb
        exact ⟨o', FB b o' (fun y => hc (by simp [y])) z⟩
    · refine (hok b u e).stay (fun c v hc q => FB c v (fun z => ?_) q) (fun _ q => q) fun _ _ q => q
      rcases hc with y | y
      · rw [← y, z, nC] at e
        cases e
      · rw [z, nC] at y
        cases y
    · rw [List.mem_singleton.mp hb]
      exact ⟨fC.2.2.2.1, fC.2.1, fC.2.2.2.2.1, fC.2.2.2.2.2⟩
  rw [noteFrame_env _ hcf]
  have hfr : X.A.frames = some (X.env :: X.outer) := by rw [I.ok.frames, hs]
  rw [hs] at fl'
  refine HandSPX.looks_onZ Zc.steady hfr hf fl' fun h' hh up => ?_
  rw [← hs] at hh
  refine ⟨a, G, _, H', cls, d, m, rfl, J, FC, h4, fun b o q hb => ?_, (Heap.UpToSlots.of_keeps fun b o q => (Fo b o q).1).trans up, hh, na, os, ag, Heap.Ns.upToSlots ⟨oC, es, ep, tC, hdC, rC⟩ up, hE⟩
  obtain ⟨q', z, ne⟩ := Fo b o q
  rcases z with z | z
  · obtain ⟨o', y⟩ := Option.isSome_iff_exists.mp z
    have w := g1 b o' y
    rw [q'] at w
    cases w
    exact h2 b o ne y
  · exact absurd z hb
theorem err_note (hf : ce.frame = some X.env.locals) (e : ErrC X pins σ C E u t) : wpAny M X.A (noteFrame u ce) (fun _ t' => ErrC X pins σ C E u t') E₁ t := by
  have e0 := e
  obtain ⟨a, G, sI, H, cls, d, m, rfl, _, _, _, _, _, hh, _⟩ := e
  exact HandSPX.againZ hf hh.2.2.2 e0
theorem err_back {F : Value → Shared → Prop} (hf : ce.frame = some X.env.locals) (e : ErrC X pins σ C E u t) (k : ∀ t', ErrC X pins σ C E u t' → F u t') : cameBackBy M X.A ce F u t := by
  obtain ⟨a, G, sI, H, cls, d, m, rfl, i1, i2, i3, i4, i5, hh, i6, i7, i8, i9, i10⟩ := e
  have hh0 := hh
  obtain ⟨_, _, _, oe, vs, T, oT, ts, he, _, hd, h1, _⟩ := hh
  unfold cameBackBy
  refine wpAny_bind (wpAny_field he hd h1 ?_)
  rw [if_neg (show ¬ ((Value.ref T == Value.none) = true) from by simp), hf]
  refine HandSPX.setFlight_onZ hh0 fun h' hh' up => k _ ?_
  exact ⟨a, G, sI, H, cls, d, m, rfl, i1, i2, i3, i4, i5.trans up, hh', i6, i7, i8, Heap.Ns.upToSlots i9 up, i10⟩
theorem err_end (tk : Takes X (fun cls d _ H => E cls d H)) (hC : ce.locals = C) (hf : ce.frame = some X.env.locals) (e : ErrC X pins σ C E u t) : CompFails M X.A X.xe ce u t := by
  obtain ⟨a, G, sI, H, cls, d, m, rfl, i1, i2, i3, i4, i5, hh, i6, i7, i8, i9, i10⟩ := e
  refine ⟨m, by rw [hC]; exact i9, fun h' m' hn hb => ?_⟩
  rw [hC] at hn hb
  have hh2 : HandSPX.HeldZ G X.stack a (Zc cls d) X.env.locals h' := by
    obtain ⟨b1, b2, b3, oe, vs, T, oT, ts, k1, k2, k3, k4, k5, k6, k7, k8, k9⟩ := hh
    have aC : a ≠ C := fun z => by
      obtain ⟨oC, es, ep, q, qd, _⟩ := i9
      rw [← z, k1] at q
      cases q
      rw [k3] at qd
      cases qd
    have TC : T ≠ C := fun z => by
      obtain ⟨oC, es, ep, q, qd, _⟩ := i9
      rw [← z, k7] at q
      cases q
      rw [k8] at qd
      cases qd
    exact ⟨fun b o q => (hb.2 b fun z => by rw [z, i3] at q; cases q).trans (b1 b o q), b2, Heap.FunFrames.sameBut hb hn b3, oe, vs, T, oT, ts, (hb.2 a aC).trans k1, k2, k3, k4, k5, k6, (hb.2 T TC).trans k7, k8, k9⟩
  have hh3 := hh2
  obtain ⟨_, _, _, oe, vs, T, oT, ts, he, _, hd, h1, _⟩ := hh2
  unfold PySem.passOn
  refine wpAny_bind (wpAny_field he hd h1 ?_)
  rw [if_neg (show ¬ ((Value.ref T == Value.none) = true) from by simp), hf]
  refine wpAny_bind (HandSPX.setFlight_onZ hh3 fun h'' hh4 up => wpAny_throw ?_)
  refine tk _ _ ⟨a, G, sI, pins, σ, H, cls, d, rfl, i1, i4, fun b o q nf => ?_, .inr (.inr hh4), i6, i7, i8, i10⟩
  obtain ⟨sl, q1⟩ := i5 b o q nf
  have ne : b ≠ C := fun z => by
    rw [z, i2] at q
    cases q
  obtain ⟨sl2, q2⟩ := up b _ ((hb.2 b ne).trans q1) nf
  exact ⟨sl2, q2⟩
end
/-- the loop of the first clause, exceptions of the second's loop handed on -/
theorem loop_outE {prog : Program} {w : World} {A : Around} {R : Result → Shared → Prop} {s : Shared} {elt t0 i0 t1 i1 : Expr} {ifs0 ifs1 : List Expr} {scope : Scope} {pos : Pos} {it acc : Value} {env : Env}
    (hs : ∀ x, foldedSetIterable i1 env x = pure x) (St : Nat → Shared → Prop) {N : Value → Shared → Prop} (hN : N = notedBy (model prog w) A env fun e t => R (.error e) t)
    (turn : ∀ n s, St n s → wpAny (model prog w) A (pyNext it) (fun r s1 => match r with
      | none => R (.ok .next) s1
      | some v => wpAny (model prog w) A (letOwnedTupleGo t0 it v) (fun _ s2 => wpAny (model prog w) A (assign t0 env v) (fun _ s3 =>
          wpAny (model prog w) A (forIn ifs0 true fun c r => if r = true then do let ok ← isTrue c env (eval c env); pure (ForInStep.yield ok) else pure (ForInStep.yield r)) (fun ok s4 =>
            if ok = true then wpAny (model prog w) A (eval i1 env) (fun x s5 => wpAny (model prog w) A (pyIter x) (fun it1 s6 =>
              codeAny (model prog w) A (.compStart (.ListComp elt [⟨t0, i0, ifs0, 0⟩, ⟨t1, i1, ifs1, 0⟩] scope pos) 1 it1 acc env) (fun r t => match r with
                | .ok _ => ∃ m, m < n ∧ St m t
                | .error e => cameBackBy (model prog w) A env N e t) s6) N s5) N s4
            else ∃ m, m < n ∧ St m s4) N s3) N s2) N s1) N s)
    (n : Nat) (h : St n s) :
    codeAny (model prog w) A (.compLoop (.ListComp elt [⟨t0, i0, ifs0, 0⟩, ⟨t1, i1, ifs1, 0⟩] scope pos) 0 it acc env) R s := by
  subst hN
  refine codeAny_loop rfl St (fun n s hS => ?_) n h
  show wpAny _ A ((compTurn (.ListComp elt [⟨t0, i0, ifs0, 0⟩, ⟨t1, i1, ifs1, 0⟩] scope pos) 0 it acc env).onRaise (fun x => do noteFrame x env; theTreesLotGoes x)) _ _ s
  refine wpAny_noted ?_
  rw [compTurn2_out]
  refine wpAny_bind (wpAny_standAt (wpAny_bind (thn (turn n s hS) fun r s1 h1 => ?_)))
  cases r with
  | none => exact wpAny_pure h1
  | some v =>
    refine wpAny_bind (thn h1 fun _ s2 h2 => wpAny_bind (thn h2 fun _ s3 h3 => wpAny_bind (thn h3 fun ok s4 h4 => ?_)))
    cases ok with
    | false => exact wpAny_pure ⟨rfl, h4⟩
    | true =>
      refine wpAny_bind (thn h4 fun x s5 h5 => ?_)
      refine wpAny_bind (wpAny_standAt (wpAny_bind (wpAny_of_eq (hs x) (wpAny_bind (wpAny_holding (thn h5 fun it1 s6 h6 => ?_))))))
      refine wpAny_bind (wpAny_runOwn ?_)
      rw [Around.mark_none]
      refine codeAny_mono h6 fun r t ht => ?_
      cases r with
      | ok f =>
        first
          | exact wpAny_pure ⟨rfl, ht⟩
          | exact wpAny_bind (wpAny_pure (wpAny_pure ⟨rfl, ht⟩))
      | error e => exact ht
end L2
set_option Elab.async false
set_option linter.all false
set_option maxRecDepth 100000
set_option maxHeartbeats 4000000
namespace L2
open PySem PySem.Spec PyProof.Rows
section
variable {X : Cx}
theorem thnX {α : Type} {p : Sem α} {Q Q' : α → Shared → Prop} {M : Model} {A : Around} {E E' : Value → Shared → Prop} {s : Shared} (h : wpAny M A p Q E s) (er : ∀ e t, E e t → E' e t) (hQ : ∀ a t, Q a t → Q' a t) : wpAny M A p Q' E' s := wpAny_mono h hQ er
theorem lc2_coreE {pins : List (Addr × Obj)} {s : Shared} {σ : St} {H : Hp} {Q : VK} {E : XK} {elt tg iter tg1 iter1 : Expr} {ifs ifs1 : List Expr} {scope : Scope} {own : List (Str × Nat)} {vs1 : List Nat} {pos pos' : Pos} {wi wi1 : TI} {g g1 : TG} {tt tt1 : TT} {te : TE} {use : Option (Value → Sem Unit)} {Qf : Value → Shared → Prop}
    (hst : X.stack = X.env :: X.outer) (hfr : X.env.frame = some X.env.locals) (tk : Takes X (fun cls d _ H => E cls d H))
    (hc : X.calm = true) (hN : X.N.Nodup) (I : Inv X pins σ H s) (hi : PI X tg iter wi) (ok : BlkOk X.N X.env.scope scope own) (hv : ∀ i ∈ vs1, i ∈ own.map (·.2))
    (hg : ∀ (s : Shared) (H : Hp) (C : Addr) (cl : List (Str × Addr)) (fp : List Addr), PG (X.blkE E s H scope (compEnvC scope cl C X.env) fp) tg g) (ht : ∀ (s : Shared) (H : Hp) (C : Addr) (cl : List (Str × Addr)) (fp : List Addr), PTs (X.blkE E s H scope (compEnvC scope cl C X.env) fp) ifs tt)
    (he : ∀ (s : Shared) (H : Hp) (C : Addr) (cl : List (Str × Addr)) (fp : List Addr), PE (X.blkE E s H scope (compEnvC scope cl C X.env) fp) elt te) (hs : ∀ x, foldedSetIterable iter X.env x = pure x)
    (hi1 : ∀ (s : Shared) (H : Hp) (C : Addr) (cl : List (Str × Addr)) (fp : List Addr), PI (X.blkE E s H scope (compEnvC scope cl C X.env) fp) tg1 iter1 wi1)
    (hg1 : ∀ (s : Shared) (H : Hp) (C : Addr) (cl : List (Str × Addr)) (fp : List Addr), PG (X.blkE E s H scope (compEnvC scope cl C X.env) fp) tg1 g1)
    (ht1 : ∀ (s : Shared) (H : Hp) (C : Addr) (cl : List (Str × Addr)) (fp : List Addr), PTs (X.blkE E s H scope (compEnvC scope cl C X.env) fp) ifs1 tt1)
    (hs1 : ∀ env x, foldedSetIterable iter1 env x = pure x)
    (h : tLc2 wi g tt wi1 g1 tt1 te (own.map (·.2)) vs1 σ H Q)
    (hEnd : ∀ D ce t m H', Inv X pins σ H' t → Q (.ref D) H' → t.heap.Ns ce.locals m → FpOk X pins H' ce.locals → compEnds (model X.prog X.w) X.A X.xe use Qf (.ref D) ce (.ok .next) t) :
    wpAny (model X.prog X.w) X.A (comprehension (.ListComp elt [⟨tg, iter, ifs, 0⟩, ⟨tg1, iter1, ifs1, 0⟩] scope pos) scope X.env pos' (newList []) false (eval iter X.env) use) Qf X.xe s := by
  have hfree : ∀ y ∈ scope.names, y.2 = .free → ∃ c, X.env.cells.lookup y.1 = some c := fun y hy e => (ok.free y hy e).elim (fun k => I.ok.has _ (.inl k)) fun k => I.ok.has _ (.inr k)
  refine comprehension_at (use := use) rfl hs (closure_ok hfree) ok.kind (fun y hy e => by rw [ok.uniq y hy, e])
    (thn (hi.run pins s σ H _ I h) fun xv t1 hx => thn hx fun itv t2 h2 => ?_)
  obtain ⟨it, fp, tn, J, K2, e, I2, T, st2, fok, q⟩ := h2
  subst e
  refine wpAny_newObj_type (newEnv_comp ?_) (by show 0 ≤ sizeLine; decide)
  generalize eD : t2.heap.objs.size = D
  have nD : K2 D = none := I2.hok.fresh (Nat.le_of_eq eD)
  obtain ⟨W, ⟨m0, w0⟩, turn⟩ := q D nD
  generalize et3 : ({ t2 with heap := t2.heap.push { cls := .type "list", data := .seq ([] : List Value).toArray } } : Shared) = t3
  have I3 : Inv X pins σ (upd K2 D (.lst [])) t3 := by
    rw [← et3]
    refine I2.laid (t' := t2.toks) (fun b o e => Heap.get?_push_of_some _ e) (Nat.le_of_eq eD) ⟨Nat.zero_le _, [], 0, .nil, ?_⟩
    rw [← eD]
    exact Heap.get?_push_size _ rfl
  have ht3 : t3.heap = t2.heap.push { cls := .type "list", data := .seq ([] : List Value).toArray } := by rw [← et3]
  have sz : ∀ b ∈ fp, b < t2.heap.objs.size := fun b hb => by
    obtain ⟨o, z, _⟩ := T.obj _ _ st2 b hb
    exact Heap.lt_size z
  have f3 : ∀ b ∈ fp, FpOk X pins (upd K2 D (.lst [])) b ∧ b < t3.heap.objs.size := fun b hb => by
    have lt := sz b hb
    refine ⟨⟨?_, (fok b hb).2⟩, by rw [ht3, Heap.size_push]; exact Nat.lt_succ_of_lt lt⟩
    rw [upd_ne (by rw [← eD]; exact Nat.ne_of_lt lt)]
    exact (fok b hb).1
  have st3 : tn 0 t3.heap := T.keep _ _ _ st2 fun b _ o z => by rw [ht3]; exact Heap.get?_push_of_some _ z
  have I4 := block_start I3 ok hN f3
  have pg := hg t3 (upd K2 D (.lst [])) t3.heap.objs.size (cellsFrom (t3.heap.objs.size + 1) scope.names (cloFrom X.env.cells scope.names [])) fp
  have pt := ht t3 (upd K2 D (.lst [])) t3.heap.objs.size (cellsFrom (t3.heap.objs.size + 1) scope.names (cloFrom X.env.cells scope.names [])) fp
  have pe := he t3 (upd K2 D (.lst [])) t3.heap.objs.size (cellsFrom (t3.heap.objs.size + 1) scope.names (cloFrom X.env.cells scope.names [])) fp
  have pi1 := hi1 t3 (upd K2 D (.lst [])) t3.heap.objs.size (cellsFrom (t3.heap.objs.size + 1) scope.names (cloFrom X.env.cells scope.names [])) fp
  have pg1 := hg1 t3 (upd K2 D (.lst [])) t3.heap.objs.size (cellsFrom (t3.heap.objs.size + 1) scope.names (cloFrom X.env.cells scope.names [])) fp
  have pt1 := ht1 t3 (upd K2 D (.lst [])) t3.heap.objs.size (cellsFrom (t3.heap.objs.size + 1) scope.names (cloFrom X.env.cells scope.names [])) fp
  show codeAny _ _ (.compStart (.ListComp elt [⟨tg, iter, ifs, 0⟩, ⟨tg1, iter1, ifs1, 0⟩] scope pos) 0 (.ref it) (.ref D) (compEnvC scope (cellsFrom (t3.heap.objs.size + 1) scope.names (cloFrom X.env.cells scope.names [])) t3.heap.objs.size X.env)) (compEnds (model X.prog X.w) X.A X.xe use Qf (.ref D) (compEnvC scope (cellsFrom (t3.heap.objs.size + 1) scope.names (cloFrom X.env.cells scope.names [])) t3.heap.objs.size X.env)) { t3 with heap := pushCells (t3.heap.push { cls := .type "dict", data := .dict #[] }) scope.names }
  have nfp : ∀ b ∈ fp, (upd K2 D (.lst [])) b = none := fun b hb => (f3 b hb).1.1
  generalize ece : compEnvC scope (cellsFrom (t3.heap.objs.size + 1) scope.names (cloFrom X.env.cells scope.names [])) t3.heap.objs.size X.env = ce at I4 pg pt pe pi1 pg1 pt1 ⊢
  have cL : ce.locals = t3.heap.objs.size := by subst ece; rfl
  have cF : ce.frame = X.env.frame := by subst ece; rfl
  have cF2 : ce.frame = some X.env.locals := cF.trans hfr
  generalize eK3 : upd K2 D (.lst []) = K3 at I3 I4 pg pt pe pi1 pg1 pt1 w0 nfp f3
  generalize et4 : ({ t3 with heap := pushCells (t3.heap.push { cls := .type "dict", data := .dict #[] }) scope.names } : Shared) = t4 at I4 ⊢
  have st4 : tn 0 t4.heap := T.keep _ _ _ st3 fun b _ o z => by rw [← et4]; exact pushCells_keeps _ _ _ _ (Heap.get?_push_of_some _ z)
  have I4 : Inv (X.blkE E t3 K3 scope ce fp) [] (wipe σ (own.map (·.2))) K3 t4 := I4.withXe _
  -- back in the def's context
  have home : ∀ {ps : List (Addr × Obj)} {σ' : St} {H' : Hp} {t' : Shared}, Inv (X.blk t3 K3 scope ce fp) ps σ' H' t' → Inv X pins σ H' t' ∧ FpOk X pins H' ce.locals ∧ ∃ m, t'.heap.Ns ce.locals m := fun {ps σ' H' t'} Ib => by
    have z : H' ce.locals = none := Ib.free
    obtain ⟨m, hn, _⟩ := Ib.loc
    refine ⟨I3.call' (ch := fp) Ib.os Ib.base Ib.hok Ib.bare fun b hb => ⟨(f3 b hb).1.2.2.2.1, (f3 b hb).1.2.1, (f3 b hb).1.2.2.2.2.1, (f3 b hb).1.2.2.2.2.2⟩, ?_, m, hn⟩
    exact I3.fpOk (by rw [cL]; exact Nat.le_refl _) z
  -- where an exception goes
  let R : Result → Shared → Prop := compEnds (model X.prog X.w) X.A X.xe use Qf (.ref D) ce
  let N : Value → Shared → Prop := notedBy (model X.prog X.w) X.A ce fun e t => R (.error e) t
  have rEnd : ∀ e t, ErrC X pins σ ce.locals E e t → R (.error e) t := fun e t z => by
    show compEnds (model X.prog X.w) X.A X.xe use Qf (.ref D) ce (.error e) t
    have := err_end (M := model X.prog X.w) tk rfl cF2 z
    cases use <;> exact this
  have erN : ∀ e t, ErrC X pins σ ce.locals E e t → N e t := fun e t z => thn (err_note cF2 z) fun _ t' z' => rEnd e t' z'
  have erO : ∀ e t, XF (X.blk t3 K3 scope ce fp) E e t → N e t := fun e t ⟨ps, σ', H', t', Ib, c⟩ => by
    obtain ⟨J, fC, m, hn⟩ := home Ib
    exact thn (err_call J fC hn hst hfr cF c) fun _ t' z' => rEnd e t' z'
  have erI : ∀ e t, XF (X.blk t3 K3 scope ce fp) E e t → notedBy (model X.prog X.w) X.A ce (fun e t => cameBackBy (model X.prog X.w) X.A ce N e t) e t := fun e t ⟨ps, σ', H', t', Ib, c⟩ => by
    obtain ⟨J, fC, m, hn⟩ := home Ib
    exact thn (err_call J fC hn hst hfr cF c) fun _ t' z' => err_back cF2 z' fun t'' z'' => erN e t'' z''
  have stat : ∀ {ps : List (Addr × Obj)} {σ' : St} {H' : Hp} {t' : Shared}, Inv (X.blkE E t3 K3 scope ce fp) [] σ' H' t' → (∀ b ∈ fp, H' b = none) → ∀ b ∈ fp, FpOk (X.blkE E t3 K3 scope ce fp) [] H' b := fun {ps σ' H' t'} Ib hn b hb =>
    ⟨hn b hb, (Ib.ok.exf b hb).1, Ib.ok.exfs b hb, .inl hb, fun x c z => (Ib.ok.exf b hb).2 x c z, fun p hp => absurd (show p ∈ ([] : List (Addr × Obj)) ++ [] from hp) (by simp)⟩
  have loop : codeAny (model X.prog X.w) X.A (.compLoop (.ListComp elt [⟨tg, iter, ifs, 0⟩, ⟨tg1, iter1, ifs1, 0⟩] scope pos) 0 (.ref it) (.ref D) ce) R t4 := by
    refine loop_outE (hs1 ce) (fun n t => ∃ i H', Inv (X.blkE E t3 K3 scope ce fp) [] (wipe σ (own.map (·.2))) H' t ∧ tn i t.heap ∧ (∀ b ∈ fp, H' b = none) ∧ W i n H') (N := N) rfl ?_ m0 ⟨0, K3, I4, st4, nfp, w0⟩
    rintro n t5 ⟨i, H5, I5, st5, n5, w5⟩
    rcases turn i n H5 w5 with ⟨stop, qq⟩ | ⟨go, Nx, hNx, step⟩
    · refine thnF (T.done (X.blkE E t3 K3 scope ce fp) rfl rfl rfl hc i [] t5 _ H5 (fun _ _ => False) I5 (stat (ps := []) I5 n5) st5 stop) fun r t6 ⟨hr, I6⟩ => ?_
      subst hr
      obtain ⟨J6, fC, m, hn⟩ := home (I6.withXe (fun _ _ => False))
      exact hEnd D ce t6 m H5 J6 qq hn fC
    · refine thnF (T.item (X.blkE E t3 K3 scope ce fp) rfl rfl rfl hc i [] t5 _ H5 (fun _ _ => False) I5 (stat (ps := []) I5 n5) st5 go) fun r t6 ⟨u, hr, h6⟩ => ?_
      subst hr
      refine thnF h6 fun _ t7 ⟨x, H7, I7, r7, y7, st7, n7⟩ => ?_
      have P7 := I7.pinned (stat (ps := []) I7 n7) (T.obj _ _ st7)
      refine thnX (pg.run _ t7 _ H7 x u _ P7 r7 (step x H7 y7)) erO fun _ t8 ⟨σ8, H8, I8, hw8, q8⟩ => ?_
      refine thnX (pt.run _ t8 σ8 H8 _ I8 q8) erO fun b t9 ⟨H9, I9, q9⟩ => ?_
      have fin : ∀ {σ9 : St} {t' : Shared} {H' : Hp}, Inv (X.blkE E t3 K3 scope ce fp) ([] ++ pinsAt fp t7.heap) σ9 H' t' → (wipe σ (own.map (·.2))).length = σ9.length → (∀ (j : Nat) v, (wipe σ (own.map (·.2)))[j]? = some (some v) → σ9[j]? = some (some v)) → Nx H' →
          ∃ m, m < n ∧ ∃ i H', Inv (X.blkE E t3 K3 scope ce fp) [] (wipe σ (own.map (·.2))) H' t' ∧ tn i t'.heap ∧ (∀ b ∈ fp, H' b = none) ∧ W i m H' := fun {σ9 t' H'} Ib hl hk nx => by
        obtain ⟨m', hm, w'⟩ := hNx H' nx
        have pin : ∀ b ∈ fp, ∀ o, t7.heap.get? b = some o → t'.heap.get? b = some o ∧ H' b = none := fun b hb o z =>
          have y := Ib.pin (b, o) (List.mem_append_right _ (List.mem_append_right _ (mem_pinsAt hb z)))
          ⟨y.1, y.2.1⟩
        refine ⟨m', hm, i + 1, H', (Ib.unpinned (pins := [])).weak hl hk, T.keep _ _ _ st7 fun b hb o z => (pin b hb o z).1, fun b hb => ?_, w'⟩
        obtain ⟨o, z, _⟩ := T.obj _ _ st7 b hb
        exact (pin b hb o z).2
      have hl8 : (wipe σ (own.map (·.2))).length = σ8.length := by rw [← hw8, wipe_length]
      have hk8 : ∀ (j : Nat) v, (wipe σ (own.map (·.2)))[j]? = some (some v) → σ8[j]? = some (some v) := fun j v z => by
        rw [← hw8] at z
        exact (wipe_some z).1
      have hk9 : ∀ (j : Nat) v, (wipe σ (own.map (·.2)))[j]? = some (some v) → (wipe σ8 vs1)[j]? = some (some v) := fun j v z => by
        rw [← hw8] at z
        obtain ⟨z1, z2⟩ := wipe_some z
        rw [wipe_out fun y => z2 (hv j y)]
        exact z1
      cases b with
      | false =>
        simp only [Bool.false_eq_true, if_false] at q9 ⊢
        exact fin I9 hl8 hk8 q9
      | true =>
        simp only [if_true] at q9 ⊢
        refine thnX (pi1.run _ t9 σ8 H9 _ I9 q9) erO fun xv t10 hx => thnX hx erO fun itv t11 h11 => ?_
        obtain ⟨it1, fp1, tn1, J1, H11, e1, I11, T1, st11, f11, W1, ⟨m1, w1⟩, turn1⟩ := h11
        subst e1
        have stat1 : ∀ {H' : Hp}, (∀ b ∈ fp1, H' b = none) → ∀ b ∈ fp1, FpOk (X.blkE E t3 K3 scope ce fp) ([] ++ pinsAt fp t7.heap) H' b := fun hn b hb => ⟨hn b hb, (f11 b hb).2⟩
        have inner : codeAny (model X.prog X.w) X.A (.compLoop (.ListComp elt [⟨tg, iter, ifs, 0⟩, ⟨tg1, iter1, ifs1, 0⟩] scope pos) 1 (.ref it1) (.ref D) ce)
            (fun r t => match r with
              | .ok _ => ∃ m, m < n ∧ ∃ i H', Inv (X.blkE E t3 K3 scope ce fp) [] (wipe σ (own.map (·.2))) H' t ∧ tn i t.heap ∧ (∀ b ∈ fp, H' b = none) ∧ W i m H'
              | .error e => cameBackBy (model X.prog X.w) X.A ce N e t) t11 := by
          refine compLoop2_in (fun k t => ∃ j H', Inv (X.blkE E t3 K3 scope ce fp) ([] ++ pinsAt fp t7.heap) (wipe σ8 vs1) H' t ∧ tn1 j t.heap ∧ (∀ b ∈ fp1, H' b = none) ∧ W1 j k H') ?_ m1 ⟨0, H11, I11.weak (wipe_length _ _) (fun j v z => (wipe_some z).1), st11, fun b hb => (f11 b hb).1, w1⟩
          rintro k t12 ⟨j, H12, I12, st12, n12, w12⟩
          rcases turn1 j k H12 w12 with ⟨stop1, nx1⟩ | ⟨go1, Nx1, hNx1, step1⟩
          · refine thnF (T1.done (X.blkE E t3 K3 scope ce fp) rfl rfl rfl hc j _ t12 (wipe σ8 vs1) H12 (fun _ _ => False) I12 (stat1 n12) st12 stop1) fun r t13 ⟨hr, I13⟩ => ?_
            subst hr
            exact fin I13 (hl8.trans (wipe_length σ8 vs1).symm) hk9 nx1
          · refine thnF (T1.item (X.blkE E t3 K3 scope ce fp) rfl rfl rfl hc j _ t12 (wipe σ8 vs1) H12 (fun _ _ => False) I12 (stat1 n12) st12 go1) fun r t13 ⟨u1, hr, h13⟩ => ?_
            subst hr
            refine thnF h13 fun _ t14 ⟨x1, H14, I14, r14, y14, st14, n14⟩ => ?_
            have P14 := I14.pinned (stat1 n14) (T1.obj _ _ st14)
            refine thnX (pg1.run _ t14 (wipe σ8 vs1) H14 x1 u1 _ P14 r14 (step1 x1 H14 y14)) erI fun _ t15 ⟨σ15, H15, I15, hw15, q15⟩ => ?_
            refine thnX (pt1.run _ t15 σ15 H15 _ I15 q15) erI fun b1 t16 ⟨H16, I16, q16⟩ => ?_
            have fin1 : ∀ {t' : Shared} {H' : Hp}, Inv (X.blkE E t3 K3 scope ce fp) (([] ++ pinsAt fp t7.heap) ++ pinsAt fp1 t14.heap) σ15 H' t' → Nx1 H' → ∃ m, m < k ∧ ∃ j H', Inv (X.blkE E t3 K3 scope ce fp) ([] ++ pinsAt fp t7.heap) (wipe σ8 vs1) H' t' ∧ tn1 j t'.heap ∧ (∀ b ∈ fp1, H' b = none) ∧ W1 j m H' := fun {t' H'} Ib nx => by
              obtain ⟨m', hm, w'⟩ := hNx1 H' nx
              have pin : ∀ b ∈ fp1, ∀ o, t14.heap.get? b = some o → t'.heap.get? b = some o ∧ H' b = none := fun b hb o z =>
                have y := Ib.pin (b, o) (List.mem_append_right _ (List.mem_append_right _ (mem_pinsAt hb z)))
                ⟨y.1, y.2.1⟩
              refine ⟨m', hm, j + 1, H', Ib.unpinned.weak (by rw [← hw15, wipe_length]) (fun j v z => by rw [← hw15] at z; exact (wipe_some z).1), T1.keep _ _ _ st14 fun b hb o z => (pin b hb o z).1, fun b hb => ?_, w'⟩
              obtain ⟨o, z, _⟩ := T1.obj _ _ st14 b hb
              exact (pin b hb o z).2
            cases b1 with
            | false =>
              simp only [Bool.false_eq_true, if_false] at q16 ⊢
              exact fin1 I16 q16
            | true =>
              simp only [if_true] at q16 ⊢
              refine thnX (pe.run _ t16 σ15 H16 _ I16 q16) erI fun z t17 ⟨yv, H17, I17, r17, acc, hD17, hz17, nx⟩ => ?_
              exact app_ok (X := X.blkE E t3 K3 scope ce fp) I17 hD17 hz17 r17 fun t18 I18 => fin1 I18 nx
        exact compStart1_ok inner (T1.self X.A 0 _ _ _ st11 inner)
  exact codeAny_compStart_list loop (T.self X.A 0 _ _ _ st4 loop)
/-- name = [..] of two clauses, the element a call that may raise -/
theorem ps_setLc2E {E : XK} {i : Nat} {y : Str} {py : Pos} {elt tg iter tg1 iter1 : Expr} {ifs ifs1 : List Expr} {scope : Scope} {own : List (Str × Nat)} {vs1 : List Nat} {pos spos : Pos} {wi wi1 : TI} {g g1 : TG} {tt tt1 : TT} {te : TE}
    (hst : X.stack = X.env :: X.outer) (hfr : X.env.frame = some X.env.locals) (tk : Takes X (fun cls d _ H => E cls d H)) (hc : X.calm = true) (hN : X.N.Nodup) (hy : X.N[i]? = some y) (hyl : X.env.scope.names.lookup y = some .local)
    (hsw : swapsWith (.ListComp elt [⟨tg, iter, ifs, 0⟩, ⟨tg1, iter1, ifs1, 0⟩] scope pos) (some (.Name y py)) spos.line X.env = pure true) (hi : PI X tg iter wi) (ok : BlkOk X.N X.env.scope scope own) (hv : ∀ i ∈ vs1, i ∈ own.map (·.2))
    (hg : ∀ (s : Shared) (H : Hp) (C : Addr) (cl : List (Str × Addr)) (fp : List Addr), PG (X.blkE E s H scope (compEnvC scope cl C X.env) fp) tg g) (ht : ∀ (s : Shared) (H : Hp) (C : Addr) (cl : List (Str × Addr)) (fp : List Addr), PTs (X.blkE E s H scope (compEnvC scope cl C X.env) fp) ifs tt)
    (hi1 : ∀ (s : Shared) (H : Hp) (C : Addr) (cl : List (Str × Addr)) (fp : List Addr), PI (X.blkE E s H scope (compEnvC scope cl C X.env) fp) tg1 iter1 wi1)
    (hg1 : ∀ (s : Shared) (H : Hp) (C : Addr) (cl : List (Str × Addr)) (fp : List Addr), PG (X.blkE E s H scope (compEnvC scope cl C X.env) fp) tg1 g1) (ht1 : ∀ (s : Shared) (H : Hp) (C : Addr) (cl : List (Str × Addr)) (fp : List Addr), PTs (X.blkE E s H scope (compEnvC scope cl C X.env) fp) ifs1 tt1)
    (he : ∀ (s : Shared) (H : Hp) (C : Addr) (cl : List (Str × Addr)) (fp : List Addr), PE (X.blkE E s H scope (compEnvC scope cl C X.env) fp) elt te) (hs : ∀ x, foldedSetIterable iter X.env x = pure x := by intro _; rfl) (hs1 : ∀ env x, foldedSetIterable iter1 env x = pure x := by intro _ _; rfl) :
    PS X (.Assign [.Name y py] (.ListComp elt [⟨tg, iter, ifs, 0⟩, ⟨tg1, iter1, ifs1, 0⟩] scope pos) spos) (tAsg (tLc2 wi g tt wi1 g1 tt1 te (own.map (·.2)) vs1) (gName i)) := by
  refine ⟨fun pins s σ H D I h => ?_⟩
  rw [exec_Assign_Name_used _ _ _ _ hsw]
  refine wpAny_bind (wpAny_standAt (wpAny_bind ?_))
  show wpAny _ X.A (do let _ ← comprehension (.ListComp elt [⟨tg, iter, ifs, 0⟩, ⟨tg1, iter1, ifs1, 0⟩] scope pos) scope X.env (firstIterPos [⟨tg, iter, ifs, 0⟩, ⟨tg1, iter1, ifs1, 0⟩] pos) (newList []) false (eval iter X.env) (some (assign (.Name y py) X.env))) _ _ s
  have h : tLc2 wi g tt wi1 g1 tt1 te (own.map (·.2)) vs1 σ H (fun x H1 => gName i x σ H1 D.nx) := h
  refine wpAny_bind (thn (lc2_coreE (Qf := fun _ t => SP X pins D .next t) hst hfr tk hc hN I hi ok hv hg ht he hs hi1 hg1 ht1 hs1 h fun L ce t m H' I' q hn f => ?_) fun _ t hq => wpAny_pure (wpAny_pure hq))
  show wpAny _ _ (assign (.Name y py) X.env (.ref L)) _ _ _
  refine wpAny_assign_Name (store_ok2 (v := V.ref L) I' hN hy (.inl hyl) rfl (fun t2 I2 ⟨a, sb, ha⟩ => ?_) (.inr hyl))
  obtain ⟨f0, f1, f2, f3, f4, f5⟩ := f
  have ne : ce.locals ≠ a := by
    rcases ha with z | z
    · rw [z]
      exact f1
    · exact fun e => f4 y a z e.symm
  refine ⟨m, hn.sameBut sb ne, fun h3 sb3 => ?_⟩
  exact ⟨_, H', I2.turned (t' := t2.toks) (fun b o hb e => (sb3.2 b hb).trans e) f0 f1 f3 f4 f5, q⟩
end
end L2
set_option Elab.async false
set_option linter.all false
set_option maxRecDepth 100000
set_option maxHeartbeats 4000000
/-! the entries of a dict by one function of the key, which keeps what is known by the key; the data at an address -/
namespace Q
open PySem PySem.Spec PyProof.Rows L2
theorem keyed_mapP {α : Type} [Inhabited α] {R : V → α → Prop} {P : Str → α → Prop} : ∀ (rs : List (Str × Addr)), (rs.map (·.1)).Nodup → (∀ q ∈ rs, ∃ d, R (.ref q.2) d ∧ P q.1 d) →
    ∃ F : Str → α, KeyedG R (rs.map fun q => ((.inr q.1 : Key), V.ref q.2)) ((rs.map (·.1)).map fun z => ((.inr z : Key), F z)) ∧ ∀ z ∈ rs.map (·.1), P z (F z)
  | [], _, _ => ⟨fun _ => default, .nil, fun z hz => nomatch hz⟩
  | q :: rs, nd, h => by
    rw [List.map_cons, List.nodup_cons] at nd
    obtain ⟨F, hF, hP⟩ := keyed_mapP rs nd.2 fun p hp => h p (List.mem_cons_of_mem _ hp)
    obtain ⟨d, hd, pd⟩ := h q List.mem_cons_self
    refine ⟨fun z => if z = q.1 then d else F z, ?_, fun z hz => ?_⟩
    · rw [List.map_cons, List.map_cons, List.map_cons]
      refine .cons ⟨rfl, by show R _ (if q.1 = q.1 then d else F q.1); rw [if_pos rfl]; exact hd⟩ ?_
      rw [show ((rs.map (·.1)).map fun z => ((.inr z : Key), if z = q.1 then d else F z)) = (rs.map (·.1)).map fun z => ((.inr z : Key), F z) from List.map_congr_left fun z hz => by
        rw [if_neg fun (e : z = q.1) => nd.1 (e ▸ hz)]]
      exact hF
    · show P z (if z = q.1 then d else F z)
      by_cases e : z = q.1
      · rw [if_pos e, e]
        exact pd
      · rw [if_neg e]
        rw [List.map_cons] at hz
        exact hP z ((List.mem_cons.mp hz).resolve_left e)
/-- the data of a tuple of texts -/
def dataV (H : Hp) : V → PyData
  | .ref a => match H a with
    | some (.tup xs) => .tuple (xs.map fun | .str z => .str z | _ => .none)
    | _ => .none
  | _ => .none
theorem dataV_tup {H : Hp} {a : Addr} {ys : List Str} (h : H a = some (.tup (ys.map V.str))) : dataV H (.ref a) = .tuple (ys.map PyData.str) := by
  unfold dataV
  simp only [h]
  rw [List.map_map]
  rfl
/-- .. of a dict of such -/
def rowsAt (H : Hp) (c : Addr) : List (Key × PyData) := match H c with
  | some (.dK rows) => rows.map fun p => (p.1, dataV H p.2)
  | _ => []
theorem keyed_data {H : Hp} {R : V → PyData → Prop} (hR : ∀ v d, R v d → d = dataV H v) : ∀ {rows : List (Key × V)} {Ds : List (Key × PyData)}, KeyedG R rows Ds → Ds = rows.map fun p => (p.1, dataV H p.2)
  | _, _, .nil => rfl
  | _, _, .cons (a := p) (b := q) h t => by
    rw [List.map_cons, ← keyed_data hR t, ← hR _ _ h.2, h.1]
theorem keyed_imp {α : Type} {R S : V → α → Prop} (h : ∀ v d, R v d → S v d) : ∀ {rows : List (Key × V)} {Ds : List (Key × α)}, KeyedG R rows Ds → KeyedG S rows Ds
  | _, _, .nil => .nil
  | _, _, .cons a t => .cons ⟨a.1, h _ _ a.2⟩ (keyed_imp h t)
end Q
set_option Elab.async false
set_option linter.all false
set_option maxRecDepth 100000
set_option maxHeartbeats 4000000
/-! set(xs) of a tuple of texts, whatever comes twice; sorted of it -/
namespace Q
open PySem PySem.Spec PyProof.Rows L2 PySem.Froz
def walkerT (l : Addr) : Obj :=
  { cls := .type "tuple_iterator"
    data := .fields #[.ref l, .int 0 0] }
def laidTup (w : World) (h : Heap) (l : Addr) : Heap := (h.push (noneYet w)).push (walkerT l)
section
variable {P : Program} {w : World} {A : Around} {E : Value → Shared → Prop} {s : Shared}
theorem laidT_set (h : Heap) (l : Addr) : (laidTup w h l).get? h.objs.size = some (noneYet w) := Heap.get?_push_of_some _ (Heap.get?_push_size _ rfl)
theorem laidT_old {h : Heap} {l b : Addr} {o : Obj} (e : h.get? b = some o) : (laidTup w h l).get? b = some o := Heap.get?_push_of_some _ (Heap.get?_push_of_some _ e)
set_option maxRecDepth 100000 in
set_option maxHeartbeats 3200000 in
theorem set_shellT {l : Addr} {items : Array Value} {Q : Value → Shared → Prop} (Post : Heap → Prop) (hl : s.heap.IsTuple l items)
    (loop : codeAny (model P w) A.in1.in1 (.builtin "set.update.loop" ⟨[.ref s.heap.objs.size, .ref (s.heap.push (noneYet w)).objs.size], []⟩)
      (fun r z => r = .ok (.ret .none) ∧ z.gens = s.gens ∧ z.drawn = s.drawn ∧ z.os = s.os ∧ Post z.heap) { s with heap := laidTup w s.heap l })
    (next : ∀ (h' : Heap) (tk : Nat), Post h' → Q (.ref s.heap.objs.size) { s with heap := h', toks := tk }) :
    wpAny (model P w) A (call (.type "set") [.ref l]) Q E s := by
  obtain ⟨mroHead, mroTail, ofMro⟩ := F.called_set.mro
  have g1 := F.called_set.made
  have g2 := F.called_set.sub
  refine wpAny_call (codeAny_of_tree ?_)
  show wpAny _ _ (callAny (.type "set") _) _ _ _
  refine wpAny_pure ⟨Code.quiet_builtin _ (by decide +kernel), codeAny_builtin F.entry_type_call ?_⟩
  rw [Around.under_plain (weight_type_call_type "set" [.ref l] []) rfl]
  have g3 := F.called_set.notType
  have g4 := F.called_set.canCreate
  have g5 := F.typeCall_set_1 (.ref l)
  repeat (any_goals (first | assumption | wp_step))
  refine codeAny_mono (code_set_led1 (.ref l) (E := E) (Q₁ := fun v z => v = .ref s.heap.objs.size ∧ z = { s with heap := s.heap.push (noneYet w) }) ⟨rfl, rfl⟩) fun r z hz => ?_
  cases r with
  | error e => exact hz
  | ok fl =>
    cases fl with
    | ret v =>
      obtain ⟨rfl, rfl⟩ := hz
      have at1 : (s.heap.push (noneYet w)).get? s.heap.objs.size = some (noneYet w) := Heap.get?_push_size _ rfl
      have isSet : Shared.TypeIs { s with heap := s.heap.push (noneYet w) } (.ref s.heap.objs.size) "set" := ⟨_, at1, rfl⟩
      have g6 := F.called_set.init.lookup
      have g7 := F.called_set.init.bind (.ref s.heap.objs.size)
      repeat (any_goals (first | assumption | wp_step))
      refine codeAny_mono (codeAny_call_builtin (R := wants (fun r z => r = .none ∧ ∃ h' tk, z = { s with heap := h', toks := tk } ∧ Post h') E)
        F.called_set.init.plain F.entry_set_init (check_set_init_1 isSet ?_)) fun r z hz => ?_
      · obtain ⟨⟨lcls, ldict, ldata, lslots⟩, lat, lc, ln, ld⟩ := hl
        simp only at lc ld
        subst lc
        subst ld
        have lat1 : (s.heap.push (noneYet w)).get? l = some { cls := .type "tuple", dict := ldict, data := .seq items ln, slots := lslots } := Heap.get?_push_of_some _ lat
        have lis1 : (s.heap.push (noneYet w)).IsTuple l items := ⟨_, lat1, rfl, ln, rfl⟩
        have g8 := F.sub_tuple_set
        have g9 := F.sub_tuple_frozenset
        have g10 : (Value.type "tuple" == Value.type "dict") = false := by decide
        unfold Builtin.«set.__init__» noKeywords Builtin.Frozenset.updateFrom
        generalize hold : pyIter = PI
        wp_walk
        subst hold
        refine wpAny_pyIter_tuple lis1 ?_
        refine wpAny_bind (wpAny_runValue ?_)
        refine codeAny_mono loop fun r z hz => ?_
        obtain ⟨rfl, e1, e2, e3, hp⟩ := hz
        obtain ⟨zh, zg, zd, zt, zo⟩ := z
        dsimp only at e1 e2 e3 hp
        subst e1; subst e2; subst e3
        show wpAny _ _ _ _ _ _
        refine wpAny_pure ?_
        show wpAny _ _ (ret Value.none) _ _ _
        exact wpAny_pure ⟨rfl, zh, zt, rfl, hp⟩
      · cases r with
        | error e => exact hz
        | ok fl =>
          cases fl with
          | ret v =>
            obtain ⟨rfl, h', tk, rfl, hp⟩ := hz
            repeat (any_goals (first | assumption | wp_step))
            exact next _ _ hp
          | _ => exact hz.elim
    | _ => exact hz.elim
/-- a set of a tuple, by what each item's coming in does -/
theorem set_filledT {l : Addr} {items : Array Value} {Q : Value → Shared → Prop} (J : Nat → Heap → Prop) (hh : A.handled = none) (hl : s.heap.IsTuple l items)
    (begin_ : J 0 (laidTup w s.heap l))
    (moves : ∀ i h h', J i h → (∀ b o, b ≠ (s.heap.push (noneYet w)).objs.size → h.get? b = some o → h'.get? b = some o) → J i h')
    (step : ∀ (E : Value → Shared → Prop) (i : Nat) (v : Value) (z : Shared) (Q : Bool → Shared → Prop), i < items.size → items[i]? = some v → J i z.heap →
      (∀ b h' tk, z.toks ≤ tk → Heap.SameBut s.heap.objs.size z.heap h' → J (i + 1) h' → Q b { z with heap := h', toks := tk }) → wpAny (model P w) A.in1.in1.in1 (setAdd s.heap.objs.size v) Q E z)
    (next : ∀ (h' : Heap) (tk : Nat), (∀ b o, s.heap.get? b = some o → h'.get? b = some o) → J items.size h' → Q (.ref s.heap.objs.size) { s with heap := h', toks := tk }) :
    wpAny (model P w) A (call (.type "set") [.ref l]) Q E s := by
  obtain ⟨o, ho, hc, n, hd⟩ := id hl
  have ll : l < s.heap.objs.size := Heap.lt_size ho
  have z1 : (s.heap.push (noneYet w)).objs.size = s.heap.objs.size + 1 := Heap.size_push ..
  have lis1 : (s.heap.push (noneYet w)).IsTuple l items := ⟨o, Heap.get?_push_of_some _ ho, hc, n, hd⟩
  have h3 : A.in1.in1.in1.handled = none := by simp [hh]
  have nI : l ≠ (s.heap.push (noneYet w)).objs.size := by rw [z1]; exact Nat.ne_of_lt (Nat.lt_succ_of_lt ll)
  have apart : s.heap.objs.size ∉ [(s.heap.push (noneYet w)).objs.size, l] := by
    rw [z1]
    simp only [List.mem_cons, List.mem_singleton, List.not_mem_nil, or_false, not_or]
    exact ⟨Nat.ne_of_lt (Nat.lt_succ_self _), Nat.ne_of_gt ll⟩
  refine set_shellT (fun h' => J items.size h' ∧ ∀ b o, s.heap.get? b = some o → h'.get? b = some o) hl ?_ fun h' tk q => next h' tk q.2 q.1
  refine fill_loop (A := A.in1.in1) (n := items.size) (Walks.tuple h3 (s.heap.push (noneYet w)).objs.size l nI items).toS s.heap.objs.size apart J
    (fun i h h' j k => moves i h h' j fun b o nb q => k b o (by simpa using nb) q) (fun E i v z Q lt pv j k => step E i v z Q lt pv j k)
    (items.size - 0) 0 _ rfl (Nat.zero_le _) ⟨⟨_, Heap.get?_push_size _ rfl, rfl, rfl⟩, lis1.push _⟩ begin_ fun z' mv j => ⟨rfl, mv.gens, mv.drawn, mv.os, j, fun b o q => ?_⟩
  have lb : b < s.heap.objs.size := Heap.lt_size q
  refine mv.heap b o ?_ (laidT_old q)
  rw [z1]
  simp only [List.mem_cons, List.mem_singleton, List.not_mem_nil, or_false, not_or]
  exact ⟨Nat.ne_of_lt lb, Nat.ne_of_lt (Nat.lt_succ_of_lt lb)⟩
/-- a text that is there already comes once more -/
theorem add_old {a : Addr} {T : String} {D : SD} {l : List Str} {k : Str} {u : Tok} {Q : Bool → Shared → Prop} (ho : s.heap.get? a = some (sObj T D)) (F : TxOk P w D l) (hk : k ∈ l) (hb : l.length + 1 < scanBound)
    (h : Q false s) : wpAny (model P w) A (setAddHashed a (.str k u) (hashStr w k)) Q E s := by
  obtain ⟨es, ep, t⟩ := D
  have fit : t.fits es.size = true := F.fit
  have els : ElemsOf (strKind P w) es.toList := F.el
  have len : es.size = l.length := F.sz
  have b0 : es.size < scanBound := by omega
  obtain ⟨j, hj⟩ : ∃ j, List.findIdx? (fun e => (strKind P w).is k e.2) es.toList = some j := by
    cases hr : List.findIdx? (fun e => (strKind P w).is k e.2) es.toList with
    | some j => exact ⟨j, rfl⟩
    | none =>
      obtain ⟨e, he, ek⟩ := (F.mem k).mp hk
      have := List.findIdx?_eq_none_iff.mp hr e he
      rw [ek] at this
      cases this
  unfold setAddHashed setAddHashedIn
  refine wpAny_holding (wpAny_bind (wpAny_setState_of ho rfl fit ?_))
  dsimp only
  rw [byScan_of rfl b0 els]
  simp only [↓reduceIte]
  unfold setAddByScan
  refine wpAny_bind ?_
  refine wpAny_bind (wpAny_rule ?_)
  refine wpAny_bind (wpAny_setScan_of (knd := strKind P w) (k := k) (is_str k u) ho rfl fit els ?_)
  rw [hj]
  dsimp only
  exact wpAny_pure (wpAny_pure h)
/-- behind i texts: those met so far, each once -/
def TxtD (P : Program) (w : World) (S : Addr) (ys : List Str) (i : Nat) (h : Heap) : Prop :=
  ∃ (D : SD) (zs : List Str) (us : List Value), h.get? S = some (sObj "set" D) ∧ TxOk P w D zs ∧ Ris D.2.2.place.toList ∧ (w.params.followText "set-order" = true ∨ D.2.2.led = true) ∧
    zs.Nodup ∧ (∀ z, z ∈ zs ↔ z ∈ ys.take i) ∧ zs.length ≤ i ∧ StrsAre us zs ∧ (D.1.toList.map (·.2)).Perm us
theorem set_textsD {l : Addr} {items : Array Value} {ys : List Str} {Q : Value → Shared → Prop} (hh : A.handled = none) (hl : s.heap.IsTuple l items) (r : StrsAre items.toList ys) (few : ys.length < 4000)
    (next : ∀ (h' : Heap) (tk : Nat) (zs : List Str) (us : List Value), (∀ b o, s.heap.get? b = some o → h'.get? b = some o) → zs.Nodup → (∀ z, z ∈ zs ↔ z ∈ ys) → zs.length ≤ ys.length → StrsAre us zs → Members w h' s.heap.objs.size us → Q (.ref s.heap.objs.size) { s with heap := h', toks := tk }) :
    wpAny (model P w) A (call (.type "set") [.ref l]) Q E s := by
  have ly : items.size = ys.length := by rw [← StrsAre.len_eq r, Array.length_toList]
  refine set_filledT (TxtD P w s.heap.objs.size ys) hh hl ?_ (fun i h h' j k => ?_) (fun E i v z Q lt pv j k => ?_) fun h' tk kp j => ?_
  · refine ⟨(#[], 0, .fresh 0 0 (!w.params.followText "set-order")), [], [], laidT_set _ _, TxOk.nil (by rfl), List.Pairwise.nil, ?_, .nil, fun z => by simp, Nat.le_refl _, .nil, .nil⟩
    show _ ∨ (!w.params.followText "set-order") = true
    cases w.params.followText "set-order"
    · exact .inr rfl
    · exact .inl rfl
  · obtain ⟨D, zs, us, e, rest⟩ := j
    refine ⟨D, zs, us, k _ _ ?_ e, rest⟩
    rw [Heap.size_push]
    exact Nat.ne_of_lt (Nat.lt_succ_self _)
  · obtain ⟨D, zs, us, e, tx, ri, ld, nd, mem, len, su, pm⟩ := j
    obtain ⟨y, t, ey, rfl⟩ := strs_get r (i := i) (v := v) (by rw [Array.getElem?_toList]; exact pv)
    have tk1 : ys.take (i + 1) = ys.take i ++ [y] := by
      rw [List.take_add_one, ey]
      rfl
    unfold setAdd
    refine wpAny_holding ?_
    refine wpAny_bind ((PySem.strKind P w).pyHash (k := y) (is_str y t) ?_)
    have lt2 : zs.length + 1 < scanBound := by
      show _ < 4096
      omega
    by_cases hm : y ∈ zs
    · refine add_old (s := { z with toks := z.toks + 1 }) e tx hm lt2 (k false _ _ (Nat.le_succ _) (Heap.SameBut.refl _ _) ⟨D, zs, us, e, tx, ri, ld, nd, fun x => ?_, by omega, su, pm⟩)
      rw [mem, tk1, List.mem_append, List.mem_singleton]
      refine ⟨.inl, fun q => q.elim id fun q => ?_⟩
      rw [q]
      exact (mem y).mp hm
    · refine add_x (s := { z with toks := z.toks + 1 }) e tx hm lt2 (k true _ _ (Nat.le_succ _) (Heap.SameBut.update ..) ?_)
      obtain ⟨m1, m2, m3⟩ := addTx_more (x := hashStr w y) (v := .str y t) ri
      refine ⟨addTx (hashStr w y) (.str y t) D, y :: zs, .str y t :: us, get_upd _ e rfl, add_ok t tx (k := y), m1, by rw [m2]; exact ld, List.nodup_cons.mpr ⟨hm, nd⟩, fun x => ?_, Nat.succ_le_succ len, .cons y t su, (m3.map (·.2)).trans (List.Perm.cons _ pm)⟩
      rw [List.mem_cons, mem, tk1, List.mem_append, List.mem_singleton, or_comm]
  · obtain ⟨D, zs, us, e, tx, ri, ld, nd, mem, len, su, pm⟩ := j
    rw [ly] at len
    refine next h' tk zs us kp nd (fun z => by rw [mem, ly, List.take_length]) len su ⟨D.1, D.2.1, D.2.2, ⟨_, e, rfl, rfl⟩, pm, tx.fit, ?_, ri, ld⟩
    have q := tx.sz
    show _ < 4096
    omega
end
theorem vals_strs : ∀ {us : List Value} {zs : List Str}, StrsAre us zs → Vals (zs.map V.str) us
  | _, _, .nil => .nil
  | _, _, .cons y t r => .cons ⟨t, rfl⟩ (vals_strs r)
section
variable {X : Cx}
def rSetTxD (K : PySem.W.Frag) (w : World) : List V → Hp → VK → Prop := fun xs H Q => ∃ (l : Addr) (ys : List Str), xs = [V.ref l] ∧ SqT K H l (ys.map V.str) ∧ ys.length < 4000 ∧
  ∀ (a : Addr) (us : List Value) (zs : List Str), zs.Nodup → (∀ z, z ∈ zs ↔ z ∈ ys) → zs.length ≤ ys.length → Vals (zs.map V.str) us → H a = none → Q (.ref a) (upd H a (SetM w a us))
theorem cr_setTxD (hc : X.calm = true) : CallR X (.type "set") (rSetTxD X.K X.w) := by
  intro pins s σ H xs us Q I r h
  obtain ⟨l, ys, rfl, hl, few, q⟩ := h
  rw [Vals.ref1 r]
  obtain ⟨its, rv, pl, _⟩ := I.tuple hl
  refine set_textsD (P := X.prog) (w := X.w) (items := its.toArray) (I.ok.hd hc) pl (strsAre_of rv) few fun h' tk zs us kp nd mem len su m => ?_
  exact ⟨.ref s.heap.objs.size, _, I.laid (t' := tk) kp (Nat.le_refl _) (setM_new m), rfl, q _ us zs nd mem len (vals_strs su) (I.hok.fresh (Nat.le_refl _))⟩
end
end Q
set_option Elab.async false
set_option linter.all false
set_option maxRecDepth 100000
set_option maxHeartbeats 4000000
/-! list(zip(t, u)) of two tuples: a new list of new pairs -/
namespace Q.ZL
open PySem PySem.Spec PyProof.Rows L2 RZ
open PySem.Sem (wp)
section
variable {prog : Program} {w : World} {A : Around} {E : Value → Shared → Prop} {s : Shared}
variable {z TI TO T i1 i2 l1 l2 : Addr} {f : Bool} {oT : Obj} {k1 k2 : Nat} {xs ys : Array Value} {x y : Value}
/-- the next pair, while the one before is still kept -/
theorem held_item {R : Option Value → Shared → Prop} (D : ZipApart z TI TO i1 i2 l1 l2) (zz : IsZipHeld s.heap z TI TO T f) (tt : s.heap.get? T = some oT) (ti : IsPair s.heap TI (.ref i1) (.ref i2))
    (j1 : s.heap.IsTupleIter i1 l1 k1) (j2 : s.heap.IsTupleIter i2 l2 k2) (t1 : s.heap.IsTuple l1 xs) (t2 : s.heap.IsTuple l2 ys) (e1 : xs[k1]? = some x) (e2 : ys[k2]? = some y)
    (go : ∀ h', IsZipHeld h' z TI TO T true → h'.IsTupleIter i1 l1 (k1 + 1) → h'.IsTupleIter i2 l2 (k2 + 1) → IsPair h' s.heap.objs.size x y → h'.objs.size = s.heap.objs.size + 1 →
      (∀ c o, c ≠ z → c ≠ i1 → c ≠ i2 → s.heap.get? c = some o → h'.get? c = some o) → R (some (.ref s.heap.objs.size)) { s with heap := h' }) :
    wpAny (model prog w) A (pyNext (.ref z)) R E s := by
  have ty : s.TypeIs (.ref z) "zip" := ⟨_, zz, rfl⟩
  unfold pyNext
  refine wpAny_bind (wpAny_attempt (wpAny_callSpecial?_slot (name := Str.ofString "__next__") ty F.slot_zip_next (wpAny_call_entry F.slot_zip_next ty F.entry_zip_next ?_ (F.args_zip_next_1 _))))
  show wpAny _ _ (field (.ref z) 2 >>= _) _ _ s
  refine wpAny_bind (wpAny_field zz rfl (x := .bool false) rfl (show wpAny _ _ (field (.ref z) 3 >>= _) _ _ s from wpAny_bind (wpAny_field zz rfl (x := .ref TI) rfl (wpAny_bind (wpAny_seqItems ti rfl ?_)))))
  show wpAny _ _ (Builtin.SmallTypes.ownedTupleIsFree (.ref z) >>= _) _ _ s
  refine wpAny_bind (wpAny_tupleHeld_zip zz tt fun g1 za sa => ?_)
  simp only [Bool.false_eq_true, if_false]
  refine wpAny_bind ?_
  rw [← Array.forIn_toList]
  simp only [List.forIn_cons, List.forIn_nil]
  refine wpAny_bind (wpAny_bind (wpAny_holding (show wpAny _ _ (Builtin.SmallTypes.nextOf (.ref i1) >>= _) _ _ _ from wpAny_bind (nextOf_tuple_item (s := { s with heap := g1 }) (j1.extBut sa.extBut D.i1z) (t1.extBut sa.extBut D.l1z) e1 fun g2 ja sb => wpAny_pure (wpAny_pure ?_)))))
  refine wpAny_bind (wpAny_bind (wpAny_holding (show wpAny _ _ (Builtin.SmallTypes.nextOf (.ref i2) >>= _) _ _ _ from wpAny_bind (nextOf_tuple_item (s := { s with heap := g2 }) ((j2.extBut sa.extBut D.i2z).extBut sb.extBut D.i12.symm) ((t2.extBut sa.extBut D.l2z).extBut sb.extBut D.l2i1) e2 fun g3 jb sc => wpAny_pure (wpAny_pure (wpAny_pure ?_))))))
  have zs : g3.objs.size = s.heap.objs.size := by rw [sc.1, sb.1, sa.1]
  have zc : IsZipHeld g3 z TI TO T true := sc.extBut _ _ D.i2z.symm (sb.extBut _ _ D.i1z.symm za)
  have kp : ∀ c o, c ≠ z → c ≠ i1 → c ≠ i2 → s.heap.get? c = some o → g3.get? c = some o := fun c o c1 c2 c3 e => sc.extBut _ _ c3 (sb.extBut _ _ c2 (sa.extBut _ _ c1 e))
  have jc : g3.IsTupleIter i1 l1 (k1 + 1) := ja.extBut sc.extBut D.i12
  show wpAny _ _ (newTuple [x, y] >>= _) _ _ { s with heap := g3 }
  refine wpAny_bind (wpAny_newTuple (wpAny_pure ⟨_, rfl, wpAny_pure ?_⟩))
  have pp : IsPair (g3.push { cls := .type "tuple", data := .seq #[x, y] }) g3.objs.size x y := Heap.get?_push_size _ rfl
  have pz : (g3.push { cls := .type "tuple", data := .seq #[x, y] }).objs.size = g3.objs.size + 1 := Heap.size_push ..
  show R (some (.ref g3.objs.size)) _
  rw [zs] at pp pz ⊢
  exact go _ (Heap.get?_push_of_some _ zc) (jc.at fun o e => Heap.get?_push_of_some _ e) (jb.at fun o e => Heap.get?_push_of_some _ e) pp pz fun c o c1 c2 c3 e => Heap.get?_push_of_some _ (kp c o c1 c2 c3 e)
theorem held_end {R : Option Value → Shared → Prop} (hh : A.handled = none) (D : ZipApart z TI TO i1 i2 l1 l2) (zz : IsZipHeld s.heap z TI TO T f) (tt : s.heap.get? T = some oT) (ti : IsPair s.heap TI (.ref i1) (.ref i2))
    (j1 : s.heap.IsTupleIter i1 l1 k1) (t1 : s.heap.IsTuple l1 xs) (e1 : xs[k1]? = none)
    (go : ∀ h', (∀ c o, c ≠ z → c ≠ i1 → c ≠ i2 → s.heap.get? c = some o → h'.get? c = some o) → R none { s with heap := h' }) : wpAny (model prog w) A (pyNext (.ref z)) R E s := by
  have ty : s.TypeIs (.ref z) "zip" := ⟨_, zz, rfl⟩
  unfold pyNext
  refine wpAny_bind (wpAny_attempt (wpAny_callSpecial?_slot (name := Str.ofString "__next__") ty F.slot_zip_next (wpAny_call_entry F.slot_zip_next ty F.entry_zip_next ?_ (F.args_zip_next_1 _))))
  show wpAny _ _ (field (.ref z) 2 >>= _) _ _ s
  refine wpAny_bind (wpAny_field zz rfl (x := .bool false) rfl (show wpAny _ _ (field (.ref z) 3 >>= _) _ _ s from wpAny_bind (wpAny_field zz rfl (x := .ref TI) rfl (wpAny_bind (wpAny_seqItems ti rfl ?_)))))
  show wpAny _ _ (Builtin.SmallTypes.ownedTupleIsFree (.ref z) >>= _) _ _ s
  refine wpAny_bind (wpAny_tupleHeld_zip zz tt fun g1 za sa => ?_)
  simp only [Bool.false_eq_true, if_false]
  refine wpAny_bind ?_
  rw [← Array.forIn_toList]
  simp only [List.forIn_cons, List.forIn_nil]
  refine wpAny_bind (wpAny_bind (wpAny_holding (show wpAny _ _ (Builtin.SmallTypes.nextOf (.ref i1) >>= _) _ _ _ from wpAny_bind (nextOf_tuple_end (s := { s with heap := g1 }) hh (j1.extBut sa.extBut D.i1z) (t1.extBut sa.extBut D.l1z) e1 fun g2 e sb he => ?_))))
  obtain ⟨o, ho, hc⟩ := he
  exact wpAny_bind (wpAny_isInstance (T := "StopIteration") (b := true) ⟨o, ho, hc⟩ isSubtype_stop (wpAny_pure (go _ fun c o c1 c2 _ e => sb _ _ c2 (sa.extBut _ _ c1 e))))
/-- how the zip stands while it is emptied into the list S -/
structure St (h : Heap) (S z TI TO i1 i2 l1 l2 k : Addr) (xs ys : Array Value) : Prop where
  D : ZipApart z TI TO i1 i2 l1 l2
  at_ : (IsZip h z TI TO .none ∧ ∃ a b, IsPair h TO a b) ∨ ∃ T f oT, IsZipHeld h z TI TO T f ∧ h.get? T = some oT ∧ S < T
  ti : IsPair h TI (.ref i1) (.ref i2)
  j1 : h.IsTupleIter i1 l1 k
  j2 : h.IsTupleIter i2 l2 k
  t1 : h.IsTuple l1 xs
  t2 : h.IsTuple l2 ys
  low : z < S ∧ TI < S ∧ TO < S ∧ i1 < S ∧ i2 < S ∧ l1 < S ∧ l2 < S
theorem St.keep {h h' : Heap} {S k : Addr} (q : St h S z TI TO i1 i2 l1 l2 k xs ys) (kp : ∀ b o, b ≠ S → h.get? b = some o → h'.get? b = some o) : St h' S z TI TO i1 i2 l1 l2 k xs ys := by
  obtain ⟨D, at_, ti, j1, j2, t1, t2, lz, lt, lo, la, lb, lc, ld⟩ := q
  refine ⟨D, ?_, kp _ _ (Nat.ne_of_lt lt) ti, j1.at fun o e => kp _ o (Nat.ne_of_lt la) e, j2.at fun o e => kp _ o (Nat.ne_of_lt lb) e, ?_, ?_, lz, lt, lo, la, lb, lc, ld⟩
  · rcases at_ with ⟨e, a, b, e2⟩ | ⟨T, f, oT, e, e2, l⟩
    · exact .inl ⟨kp _ _ (Nat.ne_of_lt lz) e, a, b, kp _ _ (Nat.ne_of_lt lo) e2⟩
    · exact .inr ⟨T, f, oT, kp _ _ (Nat.ne_of_lt lz) e, kp _ _ (Nat.ne_of_gt l) e2, l⟩
  · obtain ⟨o, e, r⟩ := t1
    exact ⟨o, kp _ _ (Nat.ne_of_lt lc) e, r⟩
  · obtain ⟨o, e, r⟩ := t2
    exact ⟨o, kp _ _ (Nat.ne_of_lt ld) e, r⟩
theorem St.item {S k : Addr} {R : Option Value → Shared → Prop} (q : St s.heap S z TI TO i1 i2 l1 l2 k xs ys) (hS : S < s.heap.objs.size) (e1 : xs[k]? = some x) (e2 : ys[k]? = some y)
    (go : ∀ h', St h' S z TI TO i1 i2 l1 l2 (k + 1) xs ys → IsPair h' s.heap.objs.size x y → (∀ c o, S ≤ c → s.heap.get? c = some o → h'.get? c = some o) → (∀ c o, c ∉ [z, TO, i1, i2] → s.heap.get? c = some o → h'.get? c = some o) → R (some (.ref s.heap.objs.size)) { s with heap := h' }) :
    wpAny (model prog w) A (pyNext (.ref z)) R E s := by
  obtain ⟨D, at_, ti, j1, j2, t1, t2, lz, lt, lo, la, lb, lc, ld⟩ := q
  have tk : ∀ {h' : Heap} {l : Addr} {us : Array Value}, (∀ c o, c ∉ [z, TO, i1, i2] → s.heap.get? c = some o → h'.get? c = some o) → l ∉ [z, TO, i1, i2] → s.heap.IsTuple l us → h'.IsTuple l us := fun kp n t => by
    obtain ⟨o, e, r⟩ := t
    exact ⟨o, kp _ _ n e, r⟩
  have n1 : l1 ∉ [z, TO, i1, i2] := by
    simp only [List.mem_cons, List.not_mem_nil, or_false, not_or]
    exact ⟨D.l1z, D.l1TO, D.l1i1, D.l1i2⟩
  have n2 : l2 ∉ [z, TO, i1, i2] := by
    simp only [List.mem_cons, List.not_mem_nil, or_false, not_or]
    exact ⟨D.l2z, D.l2TO, D.l2i1, D.l2i2⟩
  have nt : TI ∉ [z, TO, i1, i2] := by
    simp only [List.mem_cons, List.not_mem_nil, or_false, not_or]
    exact ⟨D.TIz, D.TITO, D.TIi1, D.TIi2⟩
  have hi : ∀ c, S ≤ c → c ∉ [z, TO, i1, i2] := fun c l => by
    simp only [List.mem_cons, List.not_mem_nil, or_false, not_or]
    exact ⟨Nat.ne_of_gt (Nat.lt_of_lt_of_le lz l), Nat.ne_of_gt (Nat.lt_of_lt_of_le lo l), Nat.ne_of_gt (Nat.lt_of_lt_of_le la l), Nat.ne_of_gt (Nat.lt_of_lt_of_le lb l)⟩
  rcases at_ with ⟨zz, a, b, to⟩ | ⟨T, f, oT, zz, tt, l⟩
  · refine pyNext_zipT_item D zz ti to j1 j2 t1 t2 e1 e2 fun h' z' to' j1' j2' pp sz kp => ?_
    have kp' : ∀ c o, c ∉ [z, TO, i1, i2] → s.heap.get? c = some o → h'.get? c = some o := fun c o n e => by
      simp only [List.mem_cons, List.not_mem_nil, or_false, not_or] at n
      exact kp c o n.1 n.2.1 n.2.2.1 n.2.2.2 e
    exact go h' ⟨D, .inr ⟨s.heap.objs.size, false, _, z', pp, hS⟩, kp' _ _ nt ti, j1', j2', tk kp' n1 t1, tk kp' n2 t2, lz, lt, lo, la, lb, lc, ld⟩ pp (fun c o h e => kp' c o (hi c h) e) kp'
  · refine held_item D zz tt ti j1 j2 t1 t2 e1 e2 fun h' z' j1' j2' pp sz kp => ?_
    have kp' : ∀ c o, c ∉ [z, TO, i1, i2] → s.heap.get? c = some o → h'.get? c = some o := fun c o n e => by
      simp only [List.mem_cons, List.not_mem_nil, or_false, not_or] at n
      exact kp c o n.1 n.2.2.1 n.2.2.2 e
    exact go h' ⟨D, .inr ⟨T, true, oT, z', kp' _ _ (hi T (Nat.le_of_lt l)) tt, l⟩, kp' _ _ nt ti, j1', j2', tk kp' n1 t1, tk kp' n2 t2, lz, lt, lo, la, lb, lc, ld⟩ pp (fun c o h e => kp' c o (hi c h) e) kp'
theorem St.done {S k : Addr} {R : Option Value → Shared → Prop} (hh : A.handled = none) (q : St s.heap S z TI TO i1 i2 l1 l2 k xs ys) (e1 : xs[k]? = none)
    (go : ∀ h', (∀ c o, c ∉ [z, TO, i1, i2] → s.heap.get? c = some o → h'.get? c = some o) → R none { s with heap := h' }) : wpAny (model prog w) A (pyNext (.ref z)) R E s := by
  obtain ⟨D, at_, ti, j1, j2, t1, t2, _⟩ := q
  rcases at_ with ⟨zz, a, b, to⟩ | ⟨T, f, oT, zz, tt, l⟩
  · exact pyNext_zipT_end hh D zz ti to j1 j2 t1 t2 (.inl e1) fun h' kp => go h' fun c o n e => by
      simp only [List.mem_cons, List.not_mem_nil, or_false, not_or] at n
      exact kp c o n.1 n.2.1 n.2.2.1 n.2.2.2 e
  · exact held_end hh D zz tt ti j1 t1 e1 fun h' kp => go h' fun c o n e => by
      simp only [List.mem_cons, List.not_mem_nil, or_false, not_or] at n
      exact kp c o n.1 n.2.2.1 n.2.2.2 e
/-- the pairs that have been laid -/
structure Prs (h : Heap) (S : Addr) (xs ys : Array Value) (as : List Addr) : Prop where
  rise : as.Pairwise (· < ·)
  above : ∀ a ∈ as, S < a
  at_ : ∀ (j : Nat) (a : Addr), as[j]? = some a → ∃ x y, xs[j]? = some x ∧ ys[j]? = some y ∧ IsPair h a x y
theorem Prs.lt {h : Heap} {S : Addr} {as : List Addr} (p : Prs h S xs ys as) {a : Addr} (m : a ∈ as) : a < h.objs.size := by
  obtain ⟨j, hj⟩ := List.getElem?_of_mem m
  obtain ⟨_, _, _, _, e⟩ := p.at_ j a hj
  exact Heap.lt_size e
theorem empties {S : Addr} {R : Result → Shared → Prop} (hh : A.handled = none) (res : Value) (few : xs.size ≤ sizeLine) (same : ys.size = xs.size) (h0 : Heap)
    (fin : ∀ h' tk acc c as, (∀ b o, b ∉ [S, z, TO, i1, i2] → h0.get? b = some o → h'.get? b = some o) → h'.get? S = some { cls := .type "list", dict := none, data := .seq acc c, slots := #[] } → as.length = xs.size → Prs h' S xs ys as →
      acc.toList = as.map Value.ref → R (.ok (.ret res)) { s with heap := h', toks := tk }) :
    ∀ (n i : Nat) (h : Heap) (tk c : Nat) (acc : Array Value) (as : List Addr), i + n = xs.size → St h S z TI TO i1 i2 l1 l2 i xs ys → (∀ b o, b ∉ [S, z, TO, i1, i2] → h0.get? b = some o → h.get? b = some o) →
      h.get? S = some { cls := .type "list", dict := none, data := .seq acc c, slots := #[] } → acc.toList = as.map Value.ref → as.length = i → Prs h S xs ys as →
      codeAny (model prog w) A (.builtin "list.extend.loop" ⟨[.ref S, .ref z, res], []⟩) R { s with heap := h, toks := tk } := fun n => by
  induction n with
  | zero =>
    intro i h tk c acc as hi q kp hS ha hl hp
    refine codeAny_builtin PySem.F.entry_extend_loop ?_
    rw [Around.under_plainId PySem.F.plain_extend_loop _]
    refine show wpAny _ A.in1 (pyNext (.ref z) >>= _) _ _ _ from wpAny_bind (St.done (s := { s with heap := h, toks := tk }) (A := A.in1) hh q (Array.getElem?_eq_none (by omega)) fun h' k' => ?_)
    have ns : ∀ c, S ≤ c → c ∉ [z, TO, i1, i2] := fun c l => by
      obtain ⟨lz, _, lo, la, lb, _⟩ := q.low
      simp only [List.mem_cons, List.not_mem_nil, or_false, not_or]
      exact ⟨Nat.ne_of_gt (Nat.lt_of_lt_of_le lz l), Nat.ne_of_gt (Nat.lt_of_lt_of_le lo l), Nat.ne_of_gt (Nat.lt_of_lt_of_le la l), Nat.ne_of_gt (Nat.lt_of_lt_of_le lb l)⟩
    refine wpAny_pure (fin h' tk acc c as (fun b o n e => k' b o (fun m => n (List.mem_cons_of_mem _ m)) (kp b o n e)) (k' S _ (ns S (Nat.le_refl _)) hS) (by omega) ⟨hp.rise, hp.above, fun j a hj => ?_⟩ ha)
    obtain ⟨x, y, e1, e2, e3⟩ := hp.at_ j a hj
    exact ⟨x, y, e1, e2, k' a _ (ns a (Nat.le_of_lt (hp.above a (List.mem_of_getElem? hj)))) e3⟩
  | succ n ih =>
    intro i h tk c acc as hi q kp hS ha hl hp
    have i1' : i < xs.size := by omega
    have i2' : i < ys.size := by omega
    have sz : acc.size = i := by rw [← Array.length_toList, ha, List.length_map, hl]
    have Sl : S < h.objs.size := Heap.lt_size hS
    refine codeAny_builtin PySem.F.entry_extend_loop ?_
    rw [Around.under_plainId PySem.F.plain_extend_loop _]
    refine show wpAny _ A.in1 (pyNext (.ref z) >>= _) _ _ _ from wpAny_bind (St.item (s := { s with heap := h, toks := tk }) (A := A.in1) q Sl (Array.getElem?_eq_getElem i1') (Array.getElem?_eq_getElem i2') fun h' q' pp kS kn => ?_)
    dsimp only at pp kS kn ⊢
    have hS' := kS S _ (Nat.le_refl _) hS
    have up : ∀ b o, b ≠ S → h'.get? b = some o → (h'.update S (Obj.mapSeq (·.push (Value.ref h.objs.size)))).get? b = some o := fun b o nb e => by
      rw [Heap.get?_update_other _ _ (Ne.symm nb)]
      exact e
    refine show wpAny _ A.in1 (updateSeq S (·.push (Value.ref h.objs.size)) >>= _) _ _ _ from wpAny_bind (wpAny_updateSeq hS' rfl (wpAny_pure ⟨plainId_quiet PySem.F.plain_extend_loop _, ?_⟩) (by rw [sz]; omega) (by show (acc.push (Value.ref h.objs.size)).size ≤ sizeLine + 1; rw [Array.size_push, sz]; omega))
    refine ih (i + 1) _ tk _ (acc.push (Value.ref h.objs.size)) (as ++ [h.objs.size]) (by omega) (q'.keep up) (fun b o nb e => up b o (fun z => nb (by rw [z]; exact List.mem_cons_self)) (kn b o (fun m => nb (List.mem_cons_of_mem _ m)) (kp b o nb e))) (Heap.get?_update_self _ hS' rfl)
      (by rw [Array.toList_push, ha, List.map_append]; rfl) (by rw [List.length_append, hl]; rfl) ⟨?_, ?_, ?_⟩
    · refine List.pairwise_append.mpr ⟨hp.rise, List.pairwise_singleton _ _, fun a m b mb => ?_⟩
      rw [List.mem_singleton.mp mb]
      exact hp.lt m
    · intro a m
      rcases List.mem_append.mp m with m | m
      · exact hp.above a m
      · rw [List.mem_singleton.mp m]
        exact Sl
    · intro j a hj
      by_cases lj : j < as.length
      · rw [List.getElem?_append_left lj] at hj
        obtain ⟨x, y, e1, e2, e3⟩ := hp.at_ j a hj
        have ab := hp.above a (List.mem_of_getElem? hj)
        exact ⟨x, y, e1, e2, up a _ (Nat.ne_of_gt ab) (kS a _ (Nat.le_of_lt ab) e3)⟩
      · rw [List.getElem?_append_right (by omega)] at hj
        obtain ⟨e0, e⟩ := List.getElem?_eq_some_iff.mp hj
        have e0 : j - as.length < 1 := e0
        have jj : j = i := by omega
        subst jj
        have ea : h.objs.size = a := by
          rw [← e]
          simp
        subst ea
        exact ⟨_, _, Array.getElem?_eq_getElem i1', Array.getElem?_eq_getElem i2', up _ _ (Nat.ne_of_gt Sl) pp⟩
theorem no_len : typeLookup (.type "zip") "__len__" = pure none := am_miss_of_fast (by decide +kernel)
theorem no_hint : typeLookup (.type "zip") "__length_hint__" = pure none := am_miss_of_fast (by decide +kernel)
/-- list(z) of a zip that nothing was drawn from -/
theorem call_list {Q : Value → Shared → Prop} (hh : A.handled = none) (few : xs.size ≤ sizeLine) (same : ys.size = xs.size) (D : ZipApart z TI TO i1 i2 l1 l2) (zz : IsZip s.heap z TI TO .none) (ti : IsPair s.heap TI (.ref i1) (.ref i2)) (to : ∃ a b, IsPair s.heap TO a b)
    (j1 : s.heap.IsTupleIter i1 l1 0) (j2 : s.heap.IsTupleIter i2 l2 0) (t1 : s.heap.IsTuple l1 xs) (t2 : s.heap.IsTuple l2 ys)
    (go : ∀ h' tk acc c as, (∀ b o, b ∉ [z, TO, i1, i2] → s.heap.get? b = some o → h'.get? b = some o) → h'.get? s.heap.objs.size = some { cls := .type "list", dict := none, data := .seq acc c, slots := #[] } → as.length = xs.size → Prs h' s.heap.objs.size xs ys as →
      acc.toList = as.map Value.ref → Q (.ref s.heap.objs.size) { s with heap := h', toks := tk }) :
    wpAny (model prog w) A (call (.type "list") [.ref z]) Q E s := by
  have lz : z < s.heap.objs.size := Heap.lt_size zz
  have nz : s.heap.objs.size ≠ z := Nat.ne_of_gt lz
  refine callType_codes (Q₁ := fun obj s₁ => obj = .ref s.heap.objs.size ∧ s₁ = { s with heap := s.heap.push { cls := .type "list", data := .seq #[] } }) F.called_list (F.typeCall_list_1 _) F.entry_list_init (code_list_new _ ⟨rfl, rfl⟩) fun obj s₁ h₁ => ?_
  obtain ⟨rfl, rfl⟩ := h₁
  have S1 : (s.heap.push { cls := .type "list", data := .seq #[] }).get? s.heap.objs.size = some { cls := .type "list", data := .seq #[] } := Heap.get?_push_size _ rfl
  refine ⟨⟨_, S1, rfl⟩, F.args_list_init_2 _ _, ?_⟩
  show wpAny _ A.in1.in1 (do let old ← Builtin.List.listItems (.ref s.heap.objs.size); Builtin.List.listUpdate (.ref s.heap.objs.size) (fun _ => #[]); letGo old.toList.reverse; Builtin.List.listExtendWith (.ref s.heap.objs.size) (.ref z) .none) _ _ _
  refine wpAny_bind ?_
  unfold Builtin.List.listItems
  refine wpAny_bind (wpAny_seqItems S1 rfl (wpAny_pure (show wpAny _ A.in1.in1 (updateSeq s.heap.objs.size (fun _ => #[]) >>= fun _ => letGo (#[] : Array Value).toList.reverse >>= fun _ => Builtin.List.listExtendWith (.ref s.heap.objs.size) (.ref z) .none) _ _ _ from wpAny_bind (wpAny_updateSeq S1 rfl (wpAny_bind (wpAny_letGo ?_))))))
  have S2 := Heap.get?_update_self (Obj.mapSeq (fun _ => (#[] : Array Value))) S1 rfl
  have up : ∀ (h : Heap) (g : Obj → Obj), (∀ b o, s.heap.get? b = some o → h.get? b = some o) → ∀ b o, s.heap.get? b = some o → (h.update s.heap.objs.size g).get? b = some o := fun h g q b o e => by
    rw [Heap.get?_update_other _ _ (Ne.symm (Nat.ne_of_lt (Heap.lt_size e)))]
    exact q b o e
  have k1 : ∀ b o, s.heap.get? b = some o → (s.heap.push { cls := .type "list", data := .seq #[] }).get? b = some o := fun b o e => Heap.get?_push_of_some _ e
  have k2 := up _ (Obj.mapSeq (fun _ => (#[] : Array Value))) k1
  unfold Builtin.List.listExtendWith
  have z2 := k2 _ _ zz
  have ty : ∀ {h : Heap} {tk : Nat}, IsZip h z TI TO .none → ({ s with heap := h, toks := tk } : Shared).TypeIs (.ref z) "zip" := fun {h tk} e => ⟨_, e, rfl⟩
  refine wpAny_bind (wpAny_typeOf (ty z2) ?_)
  have b1 : Builtin.List.listSameRef (.ref s.heap.objs.size) (.ref z) = false := by simp [Builtin.List.listSameRef, nz]
  have b2 : (Value.type "zip" == Value.type "list") = false := by decide
  have b3 : (Value.type "zip" == Value.type "tuple") = false := by decide
  simp only [b1, b2, b3, Bool.or_false, Bool.false_eq_true, if_false]
  refine wpAny_bind (wpAny_pyIter_zip z2 (wpAny_bind (wpAny_holding ?_)))
  unfold Builtin.List.listLengthHint
  refine wpAny_bind (wpAny_specialOf (ty z2) no_len (show wpAny _ A.in1.in1 (specialOf (Value.ref z) (Str.ofString "__length_hint__") >>= _) _ _ _ from wpAny_bind (wpAny_specialOf (ty z2) no_hint (wpAny_pure ?_))))
  show wpAny _ A.in1.in1 (rule "list.extend.makes-room" >>= fun _ => Builtin.List.listTouch (.ref s.heap.objs.size) >>= fun _ => again (.builtin "list.extend.loop" ⟨[.ref s.heap.objs.size, .ref z, .none], []⟩)) _ _ _
  refine wpAny_bind (wpAny_rule (wpAny_bind (show wpAny _ A.in1.in1 (updateSeq s.heap.objs.size (·.push .none) >>= fun _ => updateSeq s.heap.objs.size (·.pop)) _ _ _ from wpAny_bind (wpAny_updateSeq S2 rfl ?_))))
  have S3 := Heap.get?_update_self (Obj.mapSeq (·.push Value.none)) S2 rfl
  refine wpAny_updateSeq (hz := by seq_fits) S3 rfl ?_
  have S4 := Heap.get?_update_self (Obj.mapSeq (·.pop)) S3 rfl
  have k4 := up _ (Obj.mapSeq (·.pop)) (up _ (Obj.mapSeq (·.push Value.none)) k2)
  obtain ⟨a, b, to⟩ := to
  have lt_ : ∀ {l : Addr} {us : Array Value}, s.heap.IsTuple l us → l < s.heap.objs.size := fun t => by
    obtain ⟨o, e, _⟩ := t
    exact Heap.lt_size e
  have li_ : ∀ {i l : Addr} {k : Nat}, s.heap.IsTupleIter i l k → i < s.heap.objs.size := fun t => by
    obtain ⟨o, e, _⟩ := t
    exact Heap.lt_size e
  refine wpAny_pure ⟨plainId_quiet F.plain_extend_loop _, empties (s := s) (A := A.in1) hh .none few same s.heap (fun h' tk acc c as kp hS hl hp ha => ⟨rfl, go h' tk acc c as (fun b o n e => kp b o (fun m => ?_) e) hS hl hp ha⟩) xs.size 0 _ _ _ #[] [] (Nat.zero_add _)
    ⟨D, .inl ⟨k4 _ _ zz, a, b, k4 _ _ to⟩, k4 _ _ ti, j1.at fun o e => k4 _ o e, j2.at fun o e => k4 _ o e, ?_, ?_, lz, Heap.lt_size ti, Heap.lt_size to, li_ j1, li_ j2, lt_ t1, lt_ t2⟩ (fun b o _ e => k4 b o e) S4 rfl rfl ⟨List.Pairwise.nil, (fun _ m => (nomatch m)), (fun j a hj => by simp at hj)⟩⟩
  · obtain ⟨o, e, r⟩ := t1
    exact ⟨o, k4 _ _ e, r⟩
  · obtain ⟨o, e, r⟩ := t2
    exact ⟨o, k4 _ _ e, r⟩
  · rcases List.mem_cons.mp m with m | m
    · exact absurd (Heap.lt_size e) (by rw [m]; exact Nat.lt_irrefl _)
    · exact n m
end
end Q.ZL
set_option Elab.async false
set_option linter.all false
set_option maxRecDepth 100000
set_option maxHeartbeats 4000000
/-! list(zip(t, u)), by hand -/
namespace Q
open PySem PySem.Spec PyProof.Rows L2 RZ
/-- pairs tracked at their addresses -/
def putP : Hp → List Addr → List (V × V) → Hp
  | H, a :: as, p :: ps => putP (upd H a (.tup [p.1, p.2])) as ps
  | H, _, _ => H
theorem putP_off {b : Addr} : ∀ (as : List Addr) (ps : List (V × V)) (H : Hp), b ∉ as → putP H as ps b = H b
  | [], _, _, _ => rfl
  | _ :: _, [], _, _ => rfl
  | a :: as, p :: ps, H, h => by
    show putP (upd H a (.tup [p.1, p.2])) as ps b = _
    rw [putP_off as ps _ fun m => h (List.mem_cons_of_mem _ m)]
    exact upd_ne fun e => h (e ▸ List.mem_cons_self)
theorem putP_at : ∀ (as : List Addr) (ps : List (V × V)) (H : Hp), as.Nodup → ∀ (j : Nat) (a : Addr) (p : V × V), as[j]? = some a → ps[j]? = some p → putP H as ps a = some (.tup [p.1, p.2])
  | [], _, _, _, j, a, p, h, _ => by simp at h
  | _ :: _, [], _, _, j, a, p, _, h => by simp at h
  | a :: as, p :: ps, H, nd, 0, b, q, h1, h2 => by
    have e1 : a = b := by simpa using h1
    have e2 : p = q := by simpa using h2
    subst e1
    subst e2
    show putP (upd H a (.tup [p.1, p.2])) as ps a = _
    rw [putP_off as ps _ (List.nodup_cons.mp nd).1, upd_same]
  | a :: as, p :: ps, H, nd, j + 1, b, q, h1, h2 => putP_at as ps _ (List.nodup_cons.mp nd).2 j b q (by simpa using h1) (by simpa using h2)
/-- what list(zip(t, u)) promises of two tuples of one length -/
def rListZip (K : PySem.W.Frag) : List V → Hp → VK → Prop := fun vs H Q => ∃ (a b : Addr) (xs ys : List V), vs = [.ref a, .ref b] ∧ SqT K H a xs ∧ SqT K H b ys ∧ ys.length = xs.length ∧
  ∀ (H' : Hp) (p : Addr) (ts : List Addr), (∀ b o, H b = some o → H' b = some o) → H p = none → (∀ t ∈ ts, H t = none) → p ∉ ts → ts.Nodup → H' p = some (.lst (ts.map V.ref)) → ts.length = xs.length →
    (∀ (j : Nat) (t : Addr), ts[j]? = some t → ∃ x y, xs[j]? = some x ∧ ys[j]? = some y ∧ H' t = some (.tup [x, y])) → Q (.ref p) H'
def tListZip (K : PySem.W.Frag) (ta : TA) : TE := fun σ H Q => ta σ H fun vs H1 => rListZip K vs H1 Q
section
variable {X : Cx} {e e2 : Expr} {ta : TA} {p p2 q pos : Pos}
theorem zip_laid {pins : List (Addr × Obj)} {σ : L2.St} {H : Hp} {s : Shared} {h' : Heap} {tk c : Nat} {S : Addr} {xs ys : List V} {us ws : List Value} {acc : Array Value} {as : List Addr} (I : Inv X pins σ H s) (few : xs.length ≤ sizeLine) (vx : Vals xs us) (vy : Vals ys ws) (same : ys.length = xs.length) (hS0 : s.heap.objs.size ≤ S)
    (hk : ∀ b o, s.heap.get? b = some o → h'.get? b = some o) (hS : h'.get? S = some { cls := .type "list", dict := none, data := .seq acc c, slots := #[] }) (hl : as.length = xs.length) (hp : ZL.Prs h' S us.toArray ws.toArray as) (ha : acc.toList = as.map Value.ref) :
    ∃ H' : Hp, (∀ b o, H b = some o → H' b = some o) ∧ H S = none ∧ (∀ t ∈ as, H t = none) ∧ S ∉ as ∧ as.Nodup ∧ H' S = some (.lst (as.map V.ref)) ∧ (∀ (j : Nat) (t : Addr), as[j]? = some t → ∃ x y, xs[j]? = some x ∧ ys[j]? = some y ∧ H' t = some (.tup [x, y])) ∧ Inv X pins σ H' { s with heap := h', toks := tk } := by
  have nS : S ∉ as := fun m => Nat.lt_irrefl _ (hp.above _ m)
  have nd : as.Nodup := hp.rise.imp fun l => Nat.ne_of_lt l
  have new : ∀ t ∈ as, H t = none := fun t m => I.hok.fresh (Nat.le_trans hS0 (Nat.le_of_lt (hp.above t m)))
  have newS : H S = none := I.hok.fresh hS0
  have H'e : ∃ H', H' = putP (upd H S (.lst (as.map V.ref))) as (xs.zip ys) := ⟨_, rfl⟩
  obtain ⟨H', eH⟩ := H'e
  have pr : ∀ (j : Nat) (t : Addr), as[j]? = some t → ∃ x y, xs[j]? = some x ∧ ys[j]? = some y ∧ H' t = some (.tup [x, y]) := fun j t hj => by
    have jl : j < xs.length := by
      rw [← hl]
      exact (List.getElem?_eq_some_iff.mp hj).1
    have jy : j < ys.length := by omega
    refine ⟨xs[j], ys[j], List.getElem?_eq_getElem jl, List.getElem?_eq_getElem jy, ?_⟩
    rw [eH]
    exact putP_at as (xs.zip ys) _ nd j t (xs[j], ys[j]) hj (by rw [List.getElem?_zip_eq_some]; exact ⟨List.getElem?_eq_getElem jl, List.getElem?_eq_getElem jy⟩)
  have off : ∀ b, b ∉ as → b ≠ S → H' b = H b := fun b h1 h2 => by
    rw [eH, putP_off as _ _ h1, upd_ne h2]
  have eS : H' S = some (.lst (as.map V.ref)) := by
    rw [eH, putP_off as _ _ nS, upd_same]
  have kp : ∀ b u, H b = some u → H' b = some u := fun b u e => by
    rw [off b (fun z => by rw [new b z] at e; cases e) (fun z => by rw [z, newS] at e; cases e)]
    exact e
  have low : ∀ b o, s.heap.get? b = some o → b ∉ as ∧ b ≠ S := fun b o e =>
    ⟨fun z => Nat.lt_irrefl _ (Nat.lt_of_lt_of_le (Heap.lt_size e) (Nat.le_trans hS0 (Nat.le_of_lt (hp.above b z)))), Nat.ne_of_lt (Nat.lt_of_lt_of_le (Heap.lt_size e) hS0)⟩
  refine ⟨H', kp, newS, new, nS, nd, eS, pr, ?_⟩
  refine I.call' (ch := []) rfl ⟨fun b o q _ _ _ => hk b o q, fun b o q _ _ _ => ⟨o.slots, hk b o q⟩, fun b o q n _ => ?_, fun b o q _ => ⟨o, hk b o q⟩, fun b xs q => kp b _ q, fun b o u q => kp b _ q, fun b ps q => ⟨#[], by rw [kp b _ q]; simp⟩⟩ (fun b u q => ?_) I.bare fun b z => by simp at z
  · obtain ⟨z1, z2⟩ := low b o q
    rw [off b z1 z2]
    exact n
  · by_cases hb : b ∈ as
    · obtain ⟨j, hj⟩ := List.getElem?_of_mem hb
      obtain ⟨x, y, e1, e2, e3⟩ := pr j b hj
      obtain ⟨u, v, f1, f2, f3⟩ := hp.at_ j b hj
      rw [e3] at q
      cases q
      obtain ⟨u', g1, r1⟩ := vx.get e1
      obtain ⟨v', g2, r2⟩ := vy.get e2
      have q1 : us[j]? = some u := by simpa using f1
      have q2 : ws[j]? = some v := by simpa using f2
      rw [q1] at g1
      rw [q2] at g2
      cases g1
      cases g2
      exact ⟨by show 2 ≤ sizeLine; decide, [u, v], .cons r1 (.cons r2 .nil), ⟨_, f3, rfl, _, rfl⟩⟩
    · by_cases hb2 : b = S
      · rw [hb2] at q ⊢
        rw [eS] at q
        cases q
        refine ⟨by rw [List.length_map]; omega, acc.toList, c, by rw [ha]; exact LiI.vals_refs as, ?_⟩
        rw [Array.toArray_toList]
        exact hS
      · rw [off b hb hb2] at q
        exact (I.hok b u q).stay (fun d v _ y => hk d v y) (fun d y => kp d _ y) fun d xs y => kp d _ y
/-- list(zip(e, e2)) of two tuples -/
theorem pe_listZip (hc : X.calm = true) (hg : Gl X "list") (hm : X.mg "list" = none) (hg2 : Gl X "zip") (hm2 : X.mg "zip" = none) (ha : PA X [e, e2] ta)
    (hs : starEach [.Call (.Name "zip" p2) [e, e2] [] q] X.env = (false, eval (.Call (.Name "zip" p2) [e, e2] [] q) X.env) :: starEach [] X.env := by rfl)
    (hs2 : starEach [e, e2] X.env = (false, eval e X.env) :: starEach [e2] X.env := by rfl) (hpl : (backTo q (starEach [e2] X.env)).any (·.1) = false := by rfl) :
    PE X (.Call (.Name "list" p) [.Call (.Name "zip" p2) [e, e2] [] q] [] pos) (tListZip X.K ta) := by
  refine ⟨fun pins s σ H R I h => ?_⟩
  refine Call_ (ld_blt I hg hm boot_list ?_)
  refine PyProof.Rows.callWith_type1 ?_ hs rfl
  rw [hs]
  show wpAny _ _ (spliced ((false, eval (.Call (.Name "zip" p2) [e, e2] [] q) X.env) :: backTo pos (starEach [] X.env))) _ _ s
  refine Calls.spliced_cons ?_
  refine Call_ (ld_blt I hg2 hm2 boot_zip (PyProof.Rows.callWith_type1 (thn (ha.run q pins s σ H _ I h) fun us s1 ⟨vs, H1, I1, r1, q1⟩ => ?_) hs2 hpl))
  obtain ⟨a, b, xs, ys, ex, hx, hy, same, go⟩ := q1
  subst ex
  cases r1 with
  | cons r rr =>
    cases rr with
    | cons r' rr =>
      cases rr
      cases r
      cases r'
      obtain ⟨its, rv, t1, few⟩ := I1.tuple hx
      obtain ⟨its2, rv2, t2, _⟩ := I1.tuple hy
      obtain ⟨o1, ho1, _⟩ := id t1
      obtain ⟨o2, ho2, _⟩ := id t2
      have l1 := rv.length
      have l2 := rv2.length
      refine call_zipT (show s1.heap.IsTuple a its.toArray from t1) (show s1.heap.IsTuple b its2.toArray from t2) fun h' zz ti to j1 j2 sz hk => ?_
      refine Calls.spliced_nil ?_
      refine ZL.call_list (I1.ok.hd hc) (show its.length ≤ sizeLine by omega) (show its2.length = its.length by omega) (PySem.W.ktu_apart s1.heap.objs.size a b (Heap.lt_size ho1) (Heap.lt_size ho2)) zz ti ⟨_, _, to⟩ j1 j2 ?_ ?_ fun h2 tk acc c as kp hS hl hp ea => ?_
      · obtain ⟨o, e, r⟩ := t1
        exact ⟨o, hk _ _ e, r⟩
      · obtain ⟨o, e, r⟩ := t2
        exact ⟨o, hk _ _ e, r⟩
      · have hk2 : ∀ b o, s1.heap.get? b = some o → h2.get? b = some o := fun b o e => kp b o (fun m => by
          have lt := Heap.lt_size e
          simp only [List.mem_cons, List.not_mem_nil, or_false] at m
          rcases m with m | m | m | m
          · rw [m] at lt
            exact Nat.lt_irrefl _ (Nat.lt_of_le_of_lt (Nat.le_add_right _ 4) lt)
          · rw [m] at lt
            exact Nat.lt_irrefl _ (Nat.lt_of_le_of_lt (Nat.le_add_right _ 3) lt)
          · rw [m] at lt
            exact Nat.lt_irrefl _ lt
          · rw [m] at lt
            exact Nat.lt_irrefl _ (Nat.lt_of_le_of_lt (Nat.le_add_right _ 1) lt)) (hk b o e)
        obtain ⟨H', k1, k2, k3, k4, k5, k6, k7, J⟩ := zip_laid (tk := tk) I1 few rv rv2 same (show s1.heap.objs.size ≤ h'.objs.size by rw [sz]; exact Nat.le_add_right _ 5) hk2 hS (by rw [hl, List.size_toArray, l1]) hp ea
        exact ⟨.ref _, H', J, rfl, go H' _ as k1 k2 k3 k4 k5 k6 (by rw [hl, List.size_toArray, l1]) k7⟩
end
end Q
set_option Elab.async false
set_option linter.all false
set_option maxRecDepth 100000
namespace Q
open PySem PySem.Spec PyProof.Rows L2
/-- len(s), whatever else the set carries -/
theorem len_set {prog : Program} {w : World} {A : Around} {E : Value → Shared → Prop} {s : Shared} {a : Addr} {o : Obj} {es : Array (Int × Value)} {ep : Nat} {t : SetTable} {R : Value → Shared → Prop}
    (at_ : s.heap.get? a = some o) (cls : o.cls = .type "set") (dat : o.data = .set es ep t) (fit : t.fits es.size = true) (few : (es.size : Int) < 2 ^ 63)
    (go : R (.int es.size (s.toks + 1)) { s with toks := s.toks + 1 + 1 }) : wpAny (model prog w) A (call (.builtin "len") [.ref a]) R E s := by
  have ty : s.TypeIs (.ref a) "set" := ⟨o, at_, cls⟩
  refine Calls.call_function_entry kind_len plain_len entry_len (args_len1 _) (show wpAny _ _ (Builtin.«len» ⟨[.ref a], []⟩) _ _ s from ?_)
  unfold Builtin.«len»
  refine wpAny_bind (m := oneArg "len" _) (wpAny_pure (wpAny_bind (m := callSpecial? (.ref a) (Str.ofString "__len__")) (wpAny_callSpecial?_slot (name := Str.ofString "__len__") ty F.slot_set_len (wpAny_call_entry F.slot_set_len ty entry_set_len ?_ (F.args_set_len_1 _)))))
  unfold Builtin.«frozenset.__len__» Builtin.Frozenset.slot0 slotArgs
  simp only [List.isEmpty_nil, List.length_nil, Bool.not_true, bne_self_eq_false, Bool.false_eq_true, bind_assoc, ↓reduceIte]
  unfold Builtin.Frozenset.sizeOf Builtin.Frozenset.addrOf
  refine wpAny_bind (wpAny_pure ?_)
  try dsimp only
  refine wpAny_bind (wpAny_pure (wpAny_bind (wpAny_bind (wpAny_setEntries_of at_ dat fit (wpAny_pure (show wpAny _ _ (retInt _) _ _ s from ?_))))))
  unfold retInt
  refine wpAny_bind (wpAny_mkInt (wpAny_pure ⟨_, rfl, ?_⟩))
  refine wpAny_bind (wpAny_holding (wpAny_pure (wpAny_bind (wpAny_letGo (show wpAny _ _ (if ((es.size : Nat) : Int) < 0 then _ else _) _ _ _ from ?_)))))
  rw [if_neg (by omega)]
  refine show wpAny _ _ (if ((es.size : Nat) : Int) ≥ 2 ^ 63 then _ else _) _ _ _ from ?_
  rw [if_neg (by omega)]
  exact wpAny_bind (wpAny_mkInt (wpAny_pure ⟨_, rfl, go⟩))
/-- .. of a set whose members are known -/
theorem cr_lenSet {X : Cx} : CallR X (.builtin "len") (fun xs H Q => ∃ (a : Addr) (us : List Value), xs = [V.ref a] ∧ H a = some (SetM X.w a us) ∧ us.length ≤ 100000 ∧ Q (.int (us.length : Nat)) H) := by
  intro pins s σ H xs vs Q I r h
  obtain ⟨a, us, rfl, hs, few, q⟩ := h
  rw [Vals.ref1 r]
  obtain ⟨m, _, _⟩ := I.hok a _ hs
  obtain ⟨es, ep, t, ⟨o, ho, hc, hd⟩, pm, hf, _⟩ := m
  have e : es.size = us.length := by
    have := pm.length_eq
    rw [List.length_map] at this
    exact this
  exact len_set ho hc hd hf (by rw [e]; omega) ⟨.int us.length, H, I.tok _, ⟨_, by rw [e]⟩, q⟩
end Q
set_option Elab.async false
set_option linter.all false
set_option maxRecDepth 100000
set_option maxHeartbeats 4000000
/-! set(xs) of tuples of texts and whole numbers, whatever comes twice -/
namespace Q
open PySem PySem.Spec PyProof.Rows L2 PySem.W
section
variable {P : Program} {w : World} {A : Around} {E : Value → Shared → Prop} {s : Shared} {a : Addr} {es : Array (Int × Value)} {ep : Nat} {t : SetTable}
/-- a key that is there: the search meets it ahead of the first empty slot -/
theorem search_seen (R : Bag P w s.heap a es ep t) {x : Addr} {k : List Key} (hx : TupAt P w s.heap k x) (hu : A.units < cLine)
    {i0 : Nat} {b0 : Addr} (h0 : es.toList[i0]? = some (tkh P w k, Value.ref b0)) (x0 : TupAt P w s.heap k b0) {K : Nat} (hK1 : K < 10 * SetTable.turns t.mask)
    (hK2 : (spot t.mask (tkh P w k) K).j ∉ t.place.toList) (hK3 : ∀ c, c < K → (spot t.mask (tkh P w k) c).j ∈ t.place.toList)
    {c0 : Nat} (hc0 : c0 < K) (p0 : t.place.toList[i0]? = some (spot t.mask (tkh P w k) c0).j)
    {Q : SetFound → Shared → Prop} (next : Q (.there none) s) :
    ∀ (f c : Nat) (stand : Option SetTable.Probe), stand.getD (t.probeStart (tkh P w k)) = spot t.mask (tkh P w k) c → c ≤ c0 → K - c < f →
      wpAny (model P w) A (setSearchFrom a (.ref x) (tkh P w k) true f stand) Q E s := by
  obtain ⟨o, ho, hex, hd⟩ := R.ob
  have at0 : (es[i0]?.map (·.1)).getD 0 = tkh P w k := by
    rw [Array.getElem?_toList] at h0
    rw [h0]
    rfl
  intro f
  induction f with
  | zero => exact fun c stand _ _ z => absurd z (Nat.not_lt_zero _)
  | succ f ih =>
    intro c stand st hc hf
    rw [setSearchFrom_succ]
    refine wpAny_bind (wpAny_setState_of ho hd R.fits ?_)
    dsimp only
    refine wp_if_neg (by unfold SetTable.gaveWay; rw [mask_odd R.tab.mok]; decide) ?_
    try refine wpAny_bind (wpAny_pure ?_)
    have spec := go_spec t R.tab.ris R.tab.dm (fun i => (es[i]?.map (·.1)).getD 0) (tkh P w k) (10 * SetTable.turns t.mask) (K - c) (spot t.mask (tkh P w k) c) (spot_dummy _ _ _) (by omega)
      (fun d hd => by rw [spot_shift]; exact hK3 _ (by omega)) (by rw [spot_shift, Nat.add_sub_cancel' (by omega)]; exact hK2)
    rcases spec with ⟨d, i, hd1, hi, hh, first, pr⟩ | ⟨never, _⟩
    · rw [spot_shift] at hi
      rw [spot_shift, spot_shift] at pr
      have pr2 : t.probe (fun i => (es[i]?.map (·.1)).getD 0) (tkh P w k) (stand.getD (t.probeStart (tkh P w k))) = some (.candidate (spot t.mask (tkh P w k) (c + d)).j i (spot t.mask (tkh P w k) (c + (d + 1)))) := by
        rw [st]
        exact pr
      rw [pr2]
      dsimp only
      -- the one that is sought has not been passed
      have behind : c + d ≤ c0 := by
        rcases Nat.lt_or_ge c0 (c + d) with z | z
        · exfalso
          refine first (c0 - c) i0 (by omega) ?_ at0
          rw [spot_shift, Nat.add_sub_cancel' hc]
          exact p0
        · exact z
      have il : i < es.size := by
        have q1 := (List.getElem?_eq_some_iff.mp hi).1
        have q2 := R.tab.sz
        rw [List.length_map, Array.length_toList] at q2
        rw [Array.length_toList] at q1
        omega
      have ei : es[i]? = some es[i] := Array.getElem?_eq_getElem il
      have em : es[i] ∈ es.toList := Array.getElem_mem_toList il
      obtain ⟨b, k2, e2, xb⟩ := R.el _ em
      rw [e2] at ei
      have onward : wpAny (model P w) A (searchRest a (.ref x) (tkh P w k) true f es t (spot t.mask (tkh P w k) (c + d)).j i (spot t.mask (tkh P w k) (c + (d + 1)))) Q E s := by
        unfold searchRest
        rw [ei]
        dsimp only
        refine wpAny_bind (wpAny_holding (wpAny_eqBool_tuple hu xb hx ?_))
        refine wpAny_bind (wpAny_setState_of ho hd R.fits ?_)
        dsimp only
        by_cases same : k2 = k
        · refine wp_if_pos (by simp [same]) ?_
          exact wpAny_pure next
        · refine wp_if_neg (by simp [same]) ?_
          try refine wpAny_bind (wpAny_pure ?_)
          rw [sameMem]
          dsimp only
          have live := slot_live R.tab.ris hi
          simp only [if_true, live, ei]
          refine wpAny_bind (wpAny_isSame_ref_self (wpAny_bind (wpAny_pure ?_)))
          simp only [if_true]
          refine wp_if_neg (by simp [same]) ?_
          have further : c + (d + 1) ≤ c0 := by
            rcases Nat.lt_or_ge (c + d) c0 with z | z
            · omega
            · exfalso
              have e : c0 = c + d := by omega
              rw [e] at p0
              have l2 := slot_live R.tab.ris p0
              rw [live] at l2
              injection l2 with l2
              rw [Array.getElem?_toList, ← l2, ei] at h0
              injection h0 with h0
              injection h0 with h1 h2
              injection h2 with h2
              rw [h2] at xb
              exact same (xb.inj x0)
          exact ih (c + (d + 1)) _ rfl further (by omega)
      by_cases hl : t.led = true
      · refine wp_if_neg (by simp [hl]) ?_
        try refine wpAny_bind (wpAny_pure ?_)
        exact onward
      · refine wp_if_pos (by simp [hl]) ?_
        refine wpAny_bind (tup_seen hx (fun y hy => ?_) ?_)
        · obtain ⟨e, he, ee⟩ := List.mem_map.mp hy
          have inE : e ∈ es.toList := by
            have z : e ∈ es ∧ e.1 = tkh P w k := by simpa using he
            simpa using z.1
          obtain ⟨b2, k3, e3, x3⟩ := R.el e inE
          exact ⟨b2, k3, by rw [← ee, e3], x3⟩
        · refine wp_if_neg (by decide) ?_
          try refine wpAny_bind (wpAny_pure ?_)
          exact onward
    · exfalso
      refine never (c0 - c) i0 (by omega) ?_ at0
      rw [spot_shift, Nat.add_sub_cancel' hc]
      exact p0
/-- a tuple that is there already comes once more -/
theorem add_seen (R : Bag P w s.heap a es ep t) {x : Addr} {k : List Key} (hx : TupAt P w s.heap k x) (hu : A.units < cLine)
    {b0 : Addr} (h0 : (tkh P w k, Value.ref b0) ∈ es.toList) (x0 : TupAt P w s.heap k b0) {Q : Bool → Shared → Prop} (next : Q false s) :
    wpAny (model P w) A (setAddHashed a (.ref x) (tkh P w k)) Q E s := by
  obtain ⟨o, ho, hex, hd⟩ := R.ob
  have room := R.room
  have lh : (es.toList.map (·.1)).length = es.size := by rw [List.length_map, Array.length_toList]
  obtain ⟨K, hK1, hK2, hK3⟩ := R.tab.first (by rw [lh]; omega) (tkh P w k)
  have hK4 : K < 100000 := by
    have q : 10 * SetTable.turns t.mask ≤ 1420 := by
      unfold SetTable.turns
      rcases R.tab.mok with e | e | e <;> omega
    omega
  obtain ⟨i0, hi0, e0⟩ := List.getElem_of_mem h0
  have g0 : es.toList[i0]? = some (tkh P w k, Value.ref b0) := by rw [List.getElem?_eq_getElem hi0, e0]
  have gh : (es.toList.map (·.1))[i0]? = some (tkh P w k) := by
    rw [List.getElem?_map, g0]
    rfl
  have lp : i0 < t.place.toList.length := by
    have q := R.tab.sz
    rw [lh] at q
    rw [Array.length_toList] at hi0 ⊢
    omega
  obtain ⟨c0, hc0, ec0⟩ := R.tab.before hK2 gh (List.getElem?_eq_getElem lp)
  have p0 : t.place.toList[i0]? = some (spot t.mask (tkh P w k) c0).j := by
    rw [List.getElem?_eq_getElem lp, ← ec0]
  unfold setAddHashed
  refine wpAny_holding ?_
  rw [show (100000 : Nat) = 99999 + 1 from rfl, setAddHashedIn_succ]
  refine wpAny_bind (wpAny_setState_of ho hd R.fits ?_)
  dsimp only
  refine wp_if_neg (by simp [byScan, Value.scannable]) ?_
  try refine wpAny_bind (wpAny_pure ?_)
  unfold setSearch
  refine wpAny_bind (search_seen R hx hu g0 x0 hK1 hK2 hK3 hc0 p0 ?_ 100000 0 none rfl (Nat.zero_le _) (by omega))
  dsimp only
  exact wpAny_pure next
/-- behind i tuples: those met so far, each once -/
def TupD (P : Program) (w : World) (S : Addr) (h0 : Heap) (ks : List (Addr × List Key)) (i : Nat) (h : Heap) : Prop :=
  (∀ b o, h0.get? b = some o → h.get? b = some o) ∧ ∃ (es : Array (Int × Value)) (ep : Nat) (t : SetTable) (L : List (Addr × List Key)), Bag P w h S es ep t ∧ es.toList.Perm (L.map fun p => (tkh P w p.2, Value.ref p.1)) ∧
    (∀ p ∈ L, p ∈ ks.take i) ∧ (∀ p ∈ ks.take i, p.2 ∈ L.map (·.2)) ∧ (L.map (·.2)).Nodup ∧ L.length ≤ i
theorem set_tupsD {l : Addr} {items : Array Value} {ks : List (Addr × List Key)} {Q : Value → Shared → Prop} (hh : A.handled = none) (hu : A.units + 3 < cLine) (hl : s.heap.IsList l items)
    (it : items.toList = ks.map fun p => Value.ref p.1) (tp : ∀ p ∈ ks, TupAt P w s.heap p.2 p.1) (few : ks.length < 64)
    (next : ∀ (h' : Heap) (tk : Nat) (L : List (Addr × List Key)), (∀ b o, s.heap.get? b = some o → h'.get? b = some o) → (∀ p ∈ L, p ∈ ks) → (∀ p ∈ ks, p.2 ∈ L.map (·.2)) → (L.map (·.2)).Nodup → L.length ≤ ks.length → Members w h' s.heap.objs.size (L.map fun p => Value.ref p.1) → Q (.ref s.heap.objs.size) { s with heap := h', toks := tk }) :
    wpAny (model P w) A (call (.type "set") [.ref l]) Q E s := by
  have lk : items.size = ks.length := by rw [← Array.length_toList, it, List.length_map]
  have none_ : ∀ b, s.heap.objs.size ≤ b → ∀ c o, s.heap.get? c = some o → c ≠ b := fun b hb c o q e => by
    have lt := Heap.lt_size q
    rw [e] at lt
    exact absurd (Nat.lt_of_lt_of_le lt hb) (Nat.lt_irrefl _)
  refine set_filled (TupD P w s.heap.objs.size s.heap ks) hh hl ?_ (fun i h h' j k => ?_) (fun E i v z Q lt pv j k => ?_) fun h' tk kp j => ?_
  · refine ⟨fun b o q => laid_old q, #[], 0, .fresh 0 0 (!w.params.followText "set-order"), [], ⟨⟨_, laid_set _ _, ⟨rfl, rfl, rfl⟩, rfl⟩, ?_, fun e he => (by cases he), ?_, ?_, ?_⟩, .nil, fun p hp => (nomatch hp), fun p hp => (by simp at hp), .nil, Nat.le_refl _⟩
    · exact ⟨List.Pairwise.nil, rfl, rfl, .inl rfl, fun x hx => (by cases hx), fun i x j hi => (by simp at hi)⟩
    · show _ ∨ (!w.params.followText "set-order") = true
      cases w.params.followText "set-order"
      · exact .inr rfl
      · exact .inl rfl
    · show 0 * 5 < 7 * 3
      decide
    · show 0 < 64
      decide
  · obtain ⟨old, es, ep, t, L, B, pm, sub, all, nd, le⟩ := j
    have kb : ∀ b o, s.heap.get? b = some o → h'.get? b = some o := fun b o q => k b o (none_ _ (by rw [Heap.size_push]; exact Nat.le_succ _) b o q) (old b o q)
    obtain ⟨o, ho, rest⟩ := B.ob
    refine ⟨kb, es, ep, t, L, ⟨⟨o, k _ _ ?_ ho, rest⟩, B.tab, fun e he => ?_, B.led, B.room, B.few⟩, pm, sub, all, nd, le⟩
    · rw [Heap.size_push]
      exact Nat.ne_of_lt (Nat.lt_succ_self _)
    · obtain ⟨p, hp, ep⟩ := List.mem_map.mp (pm.mem_iff.mp he)
      exact ⟨p.1, p.2, ep.symm, (tp p (List.mem_of_mem_take (sub p hp))).mono fun o q => kb _ o q⟩
  · obtain ⟨old, es, ep, t, L, B, pm, sub, all, nd, le⟩ := j
    have sz : es.size = L.length := by
      have q := pm.length_eq
      rw [List.length_map, Array.length_toList] at q
      exact q
    have hi : i < ks.length := by omega
    have ev : v = .ref ks[i].1 := by
      have q : items.toList[i]? = some v := by rw [Array.getElem?_toList]; exact pv
      rw [it, List.getElem?_map, List.getElem?_eq_getElem hi] at q
      exact (Option.some.inj q).symm
    have eg : ks[i]? = some ks[i] := List.getElem?_eq_getElem hi
    have hm : ks[i] ∈ ks := List.getElem_mem hi
    generalize ks[i] = p at ev eg hm
    subst ev
    have e3 : ks.take (i + 1) = ks.take i ++ [p] := by
      rw [List.take_add_one, eg]
      rfl
    have xp : TupAt P w z.heap p.2 p.1 := (tp p hm).mono fun o q => old _ o q
    have xl : ∀ q ∈ L, TupAt P w z.heap q.2 q.1 := fun q hq => (tp q (List.mem_of_mem_take (sub q hq))).mono fun o z => old _ o z
    have sub2 : ∀ q ∈ L, q ∈ ks.take (i + 1) := fun q hq => by
      rw [e3]
      exact List.mem_append_left _ (sub q hq)
    unfold setAdd
    refine wpAny_holding ?_
    refine wpAny_bind (wpAny_pyHash_tuple (by show A.units + 3 < cLine; exact hu) xp ?_)
    by_cases there : p.2 ∈ L.map (·.2)
    · obtain ⟨p2, hp2, ek⟩ := List.mem_map.mp there
      have x2 := xl p2 hp2
      rw [ek] at x2
      refine add_seen (s := { z with toks := z.toks + (p.2.length + 1) }) B xp (by show A.units + 3 < cLine; exact hu) (b0 := p2.1) (pm.mem_iff.mpr (List.mem_map.mpr ⟨p2, hp2, by rw [ek]⟩)) x2 (k false z.heap _ (Nat.le_add_right _ _) (Heap.SameBut.refl _ _) ⟨old, es, ep, t, L, B, pm, sub2, fun q hq => ?_, nd, by omega⟩)
      rw [e3] at hq
      rcases List.mem_append.mp hq with hq | hq
      · exact all q hq
      · rw [List.mem_singleton.mp hq]
        exact there
    · refine add_new (s := { z with toks := z.toks + (p.2.length + 1) }) B xp (by show A.units + 3 < cLine; exact hu) (fun e he b k2 ee xb => ?_) (by omega) fun h' es2 ep2 t2 sb B2 pm2 => ?_
      · obtain ⟨p2, hp2, e2⟩ := List.mem_map.mp (pm.mem_iff.mp he)
        rw [ee] at e2
        injection e2 with _ e4
        injection e4 with e4
        have x2 := xl p2 hp2
        rw [e4] at x2
        have ek : k2 = p2.2 := xb.inj x2
        rw [ek]
        exact fun same => there (List.mem_map.mpr ⟨p2, hp2, same⟩)
      · refine k true h' _ (Nat.le_add_right _ _) sb ⟨fun b o q => ?_, es2, ep2, t2, p :: L, B2, pm2.trans (List.Perm.cons _ pm), fun q hq => ?_, fun q hq => ?_, List.nodup_cons.mpr ⟨there, nd⟩, by rw [List.length_cons]; omega⟩
        · rw [sb.2 b (none_ _ (Nat.le_refl _) b o q)]
          exact old b o q
        · rcases List.mem_cons.mp hq with rfl | hq
          · rw [e3]
            exact List.mem_append_right _ List.mem_cons_self
          · exact sub2 q hq
        · rw [e3] at hq
          rcases List.mem_append.mp hq with hq | hq
          · exact List.mem_cons_of_mem _ (all q hq)
          · rw [List.mem_singleton.mp hq]
            exact List.mem_cons_self
  · obtain ⟨old, es, ep, t, L, B, pm, sub, all, nd, le⟩ := j
    have el : ks.take items.size = ks := List.take_of_length_le (by omega)
    rw [el] at sub all
    rw [lk] at le
    have sz : es.size = L.length := by
      have q := pm.length_eq
      rw [List.length_map, Array.length_toList] at q
      exact q
    obtain ⟨o, ho, hex, hd⟩ := B.ob
    refine next h' tk L kp sub all nd le ?_
    have pm2 := pm.map (fun e : Int × Value => e.2)
    rw [List.map_map] at pm2
    exact ⟨es, ep, t, ⟨o, ho, hex.1, hd⟩, pm2, tab_fits B.tab (by have := B.room; omega), by rw [sz]; show _ < 4096; omega, B.tab.ris, B.led⟩
end
section
variable {X : Cx} {pins : List (Addr × Obj)} {σ : L2.St} {H : Hp} {s : Shared}
/-- set(xs), xs a list of tuples of texts and numbers -/
def rSetTuD (K : PySem.W.Frag) (w : World) : List V → Hp → VK → Prop := fun xs H Q => ∃ (l : Addr) (ks : List (Addr × List Key)), xs = [V.ref l] ∧ SqL K H l (ks.map fun p => V.ref p.1) ∧
  (∀ p ∈ ks, SqT K H p.1 (p.2.map kV)) ∧ ks.length < 64 ∧ ∀ (a : Addr) (L : List (Addr × List Key)), (∀ p ∈ L, p ∈ ks) → (∀ p ∈ ks, p.2 ∈ L.map (·.2)) → (L.map (·.2)).Nodup → L.length ≤ ks.length → H a = none → Q (.ref a) (upd H a (SetM w a (L.map fun p => Value.ref p.1)))
theorem cr_setTuD (hc : X.calm = true) (hu : X.A.units + 3 < cLine) : CallR X (.type "set") (rSetTuD X.K X.w) := by
  intro pins s σ H xs us Q I r h
  obtain ⟨l, ks, rfl, hl, hk, few, q⟩ := h
  rw [Vals.ref1 r]
  obtain ⟨its, rv, pl, _⟩ := I.list hl
  have ei := vals_rows rv
  refine set_tupsD (P := X.prog) (w := X.w) (items := its.toArray) (ks := ks) (I.ok.hd hc) hu pl.isList (by simpa using ei) (fun p hp => tupAt_of I (hk p hp)) few fun h' tk L kp sub all nd le m => ?_
  exact ⟨.ref s.heap.objs.size, _, I.laid (t' := tk) kp (Nat.le_refl _) (setM_new m), rfl, q _ L sub all nd le (I.hok.fresh (Nat.le_refl _))⟩
/-! the order of rows of texts, of any lengths -/
def rowLt : List Str → List Str → Bool
  | [], [] => false
  | [], _ :: _ => true
  | _ :: _, [] => false
  | a :: as, b :: bs => if a = b then rowLt as bs else decide (tLt a b)
theorem row_lt (ks ls : List Str) : dataLt (.tuple (ks.map PyData.str)) (.tuple (ls.map PyData.str)) = rowLt ks ls := by
  have main : ∀ ks ls : List Str, lexLt itemOrd (keyToksAll (ks.map PyData.str)) (keyToksAll (ls.map PyData.str)) = rowLt ks ls := by
    intro ks
    induction ks with
    | nil =>
      intro ls
      cases ls with
      | nil => exact lex_irrefl _
      | cons b ls =>
        rw [List.map_nil, List.map_cons, keyToksAll, keyToksAll]
        rfl
    | cons a ks ih =>
      intro ls
      cases ls with
      | nil =>
        rw [List.map_nil, List.map_cons, keyToksAll, keyToksAll]
        rfl
      | cons b ls =>
        rw [List.map_cons, List.map_cons, dataLt_cons (by simp [alike]), ih ls]
        unfold rowLt
        by_cases e : a = b
        · rw [if_pos e, if_pos (by simp [PyData.eqv, e])]
          cases ks <;> cases ls <;> rfl
        · rw [if_neg e, if_neg (by simp [PyData.eqv, e]), dataLt_str]
  rw [dataLt_tuple]
  exact main ks ls
theorem rowLt_total : ∀ {ks ls : List Str}, ks ≠ ls → rowLt ls ks = false → rowLt ks ls = true
  | [], [], ne, _ => absurd rfl ne
  | [], _ :: _, _, _ => rfl
  | _ :: _, [], _, q => by
    unfold rowLt at q
    cases q
  | a :: ks, b :: ls, ne, q => by
    unfold rowLt at q ⊢
    by_cases e : a = b
    · subst e
      rw [if_pos rfl] at q ⊢
      exact rowLt_total (fun z => ne (by rw [z])) q
    · rw [if_neg (Ne.symm e), decide_eq_false_iff_not] at q
      rw [if_neg e, decide_eq_true_eq]
      exact tLe_lt (List.not_lt.mp q) e
theorem alike_rows : ∀ ks ls : List Str, alikeAll (ks.map PyData.str) (ls.map PyData.str) = true
  | [], [] => by simp [alikeAll]
  | [], _ :: _ => by simp [alikeAll]
  | _ :: _, [] => by simp [alikeAll]
  | a :: ks, b :: ls => by
    rw [List.map_cons, List.map_cons, alikeAll, alike_rows ks ls]
    simp [alike]
theorem depth_strs : ∀ ks : List Str, PyData.depthAll (ks.map PyData.str) = 0
  | [] => by simp [PyData.depthAll]
  | x :: ks => by
    rw [List.map_cons, PyData.depthAll, depth_strs ks]
    simp [PyData.depth]
theorem kD_strs (ks : List Str) : (ks.map Sum.inr : List Key).map kD = ks.map PyData.str := by
  rw [List.map_map]
  rfl
theorem kV_strs (ks : List Str) : (ks.map Sum.inr : List Key).map kV = ks.map V.str := by
  rw [List.map_map]
  rfl
theorem inr_inj : ∀ {ks ls : List Str}, (ks.map Sum.inr : List Key) = ls.map Sum.inr → ks = ls
  | [], [], _ => rfl
  | [], _ :: _, h => nomatch h
  | _ :: _, [], h => nomatch h
  | a :: ks, b :: ls, h => by
    injection h with h1 h2
    injection h1 with h1
    rw [h1, inr_inj h2]
/-- x < y of two tuples of texts -/
def rLtR (K : PySem.W.Frag) : R2 := fun x y H Q => ∃ (a b : Addr) (ks ls : List Str), x = V.ref a ∧ y = V.ref b ∧ SqT K H a (ks.map V.str) ∧ SqT K H b (ls.map V.str) ∧ Q (.bl (rowLt ks ls)) H
theorem op_ltR (hu : X.A.units + 1 < cLine) : OpR X (compareOp .Lt) (rLtR X.K) := by
  intro pins s σ H x y v u Q I rx ry h
  obtain ⟨a, b, ks, ls, rfl, rfl, ha, hb, q⟩ := h
  cases rx
  cases ry
  rw [← kV_strs] at ha hb
  have ra := (tupAt_of I ha).reads
  have rb := (tupAt_of I hb).reads
  rw [kD_strs] at ra rb
  have da : (PyData.tuple (ks.map PyData.str)).depth = 1 := by rw [PyData.depth, depth_strs]
  refine lt_data ra rb (by simpa [alike] using alike_rows ks ls) (by simp) (by
    have m := Nat.min_le_left (PyData.tuple (ks.map PyData.str)).depth (PyData.tuple (ls.map PyData.str)).depth
    omega) ?_
  rw [row_lt]
  exact ⟨.bl (rowLt ks ls), H, I, rfl, q⟩
/-- sorted(a set of tuples of texts, none empty) -/
def rSortTuR (K : PySem.W.Frag) (w : World) : List V → Hp → VK → Prop := fun xs H Q => ∃ (a : Addr) (ks : List (Addr × List Str)), xs = [V.ref a] ∧ H a = some (SetM w a (ks.map fun p => Value.ref p.1)) ∧
  (∀ p ∈ ks, SqT K H p.1 (p.2.map V.str)) ∧ (∀ p ∈ ks, p.2 ≠ []) ∧ (ks.map (·.2)).Nodup ∧ ks.length < 4000 ∧
  ∀ (p : Addr) (zs : List (Addr × List Str)), zs.Perm ks → zs.Pairwise (fun x y => rowLt x.2 y.2 = true) → H p = none → Q (.ref p) (upd H p (.lst (zs.map fun q => V.ref q.1)))
theorem each_rowsR {P : Program} {w : World} {h : Heap} : ∀ {ks : List (Addr × List Str)}, (∀ p ∈ ks, TupAt P w h (p.2.map Sum.inr) p.1) →
    EachIs (fun v p => v = Value.ref p.1 ∧ Reads h v (.tuple (p.2.map PyData.str)) []) (ks.map fun p => Value.ref p.1) ks
  | [], _ => .nil
  | p :: ks, x => .cons ⟨rfl, by
      have := (x p List.mem_cons_self).reads
      rw [kD_strs] at this
      exact this⟩ (each_rowsR fun q hq => x q (List.mem_cons_of_mem _ hq))
theorem rows_eachR {us : List Value} {ks : List (Addr × List Str)} (e : EachIs (fun v p => v = Value.ref p.1) us ks) : us = ks.map fun p => Value.ref p.1 := by
  induction e with
  | nil => rfl
  | cons h _ ih => rw [h, ih, List.map_cons]
theorem rows_valsR : ∀ (ks : List (Addr × List Str)), Vals (ks.map fun p => V.ref p.1) (ks.map fun p => Value.ref p.1)
  | [] => .nil
  | _ :: ks => .cons rfl (rows_valsR ks)
theorem cr_sortTuR (hc : X.calm = true) (hu : X.A.units + 3 < cLine) : CallR X (.builtin "sorted") (rSortTuR X.K X.w) := by
  intro pins s σ H xs us0 Q I r h
  obtain ⟨a, ks, rfl, ha, hk, ne, nd, few, q⟩ := h
  rw [Vals.ref1 r]
  have m : Members X.w s.heap a (ks.map fun p => Value.ref p.1) := (I.hok a _ ha).1
  have key : (fun (p : Addr × List Str) => PyData.tuple (p.2.map PyData.str)) = fun p => PyData.tuple (p.2.map PyData.str) := rfl
  refine sorted_members (P := X.prog) (R := fun v p => v = Value.ref p.1) (enc := fun p : Addr × List Str => PyData.tuple (p.2.map PyData.str)) m (I.ok.hd hc) (each_rowsR fun p hp => tupAt_of I (by rw [kV_strs]; exact hk p hp)) (fun cs pc => ?_) (fun cs pc => ?_) (fun b _ => ?_)
    fun z p out c cs kp g o le e pc eo => ?_
  · intro d hd d' hd'
    obtain ⟨p, hp, rfl⟩ := List.mem_map.mp hd
    obtain ⟨p', hp', rfl⟩ := List.mem_map.mp hd'
    simpa [alike] using alike_rows p.2 p'.2
  · refine .inl fun d hd => ?_
    obtain ⟨p, hp, rfl⟩ := List.mem_map.mp hd
    have e := ne p (pc.mem_iff.mp hp)
    cases hq : p.2 with
    | nil => exact absurd hq e
    | cons k0 r0 => exact ⟨_, _, by rw [List.map_cons]⟩
  · have e : (PyData.tuple (b.2.map PyData.str)).depth ≤ 1 := by
      simp [PyData.depth, depth_strs]
    show X.A.units + 2 + (PyData.tuple (b.2.map PyData.str)).depth < cLine
    omega
  · have pz : (cs.mergeSort (dataLe false fun p : Addr × List Str => PyData.tuple (p.2.map PyData.str))).Perm ks := (List.mergeSort_perm cs _).trans pc
    have pw : (cs.mergeSort (dataLe false fun p : Addr × List Str => PyData.tuple (p.2.map PyData.str))).Pairwise fun x y => rowLt x.2 y.2 = true := by
      have w1 := sort_pairwise (sortLe_total (listOrd itemOrd) false fun p : Addr × List Str => keyToks (PyData.tuple (p.2.map PyData.str))) cs
      have nd2 : ((cs.mergeSort (dataLe false fun p : Addr × List Str => PyData.tuple (p.2.map PyData.str))).map (·.2)).Nodup := (pz.map (·.2)).nodup_iff.mpr nd
      have nd3 := List.pairwise_map.mp nd2
      refine List.Pairwise.imp (fun {x y} h => ?_) (List.Pairwise.and w1 nd3)
      have e1 : (!dataLt (.tuple (y.2.map PyData.str)) (.tuple (x.2.map PyData.str))) = true := h.1
      rw [row_lt, Bool.not_eq_true'] at e1
      exact rowLt_total h.2 e1
    generalize cs.mergeSort (dataLe false fun p : Addr × List Str => PyData.tuple (p.2.map PyData.str)) = zs at pz pw eo
    have few2 : (zs.map fun q => V.ref q.1).length ≤ sizeLine := by
      rw [List.length_map, pz.length_eq, sizeLine_eq]
      omega
    have rv : Vals (zs.map fun q => V.ref q.1) out.toList := by
      rw [rows_eachR eo]
      exact rows_valsR zs
    exact ⟨.ref p, _, laid_list I kp g o le e rv few2, rfl, q p zs pz pw (I.hok.fresh le)⟩
end
end Q
set_option Elab.async false
set_option linter.all false
set_option maxRecDepth 100000
set_option maxHeartbeats 4000000
/-! zip of a tuple and the keys of a dict, either way round: a zip of any two parts that next reads from. -/
namespace RZ
open PySem PySem.Spec PyProof.Rows L2
/-- what a zip reads one side from: the iterator at it over the thing at l, the k-th item by get -/
structure ZPart (prog : Program) (w : World) (it l : Addr) (At : Nat → Heap → Prop) (Src : Heap → Prop) (get : Nat → Option Value) : Prop where
  at_ : ∀ {k : Nat} {h h' : Heap}, At k h → (∀ o, h.get? it = some o → h'.get? it = some o) → At k h'
  src : ∀ {h h' : Heap}, Src h → (∀ o, h.get? l = some o → h'.get? l = some o) → Src h'
  obj : ∀ {k : Nat} {h : Heap}, At k h → ∃ o, h.get? it = some o ∧ ∀ v, o.data ≠ .cell v
  item : ∀ {A : Around} {E : Value → Shared → Prop} {s : Shared} {k : Nat} {x : Value} {Q : Value → Shared → Prop}, At k s.heap → Src s.heap → get k = some x → (∀ h', At (k + 1) h' → Heap.SameBut it s.heap h' → Q x { s with heap := h' }) →
    wpAny (model prog w) A (Builtin.SmallTypes.nextOf (.ref it)) Q E s
  fin : ∀ {A : Around} {E : Value → Shared → Prop} {s : Shared} {k : Nat} {Q : Value → Shared → Prop}, A.handled = none → At k s.heap → Src s.heap → get k = none → (∀ h' e, Heap.ExtBut it s.heap h' → (∃ o, h'.get? e = some o ∧ o.cls = .type "StopIteration") → E (.ref e) { s with heap := h' }) →
    wpAny (model prog w) A (Builtin.SmallTypes.nextOf (.ref it)) Q E s
theorem zpart_tuple {prog : Program} {w : World} {it l : Addr} {items : Array Value} : ZPart prog w it l (fun k h => h.IsTupleIter it l k) (fun h => h.IsTuple l items) (fun k => items[k]?) where
  at_ := fun a k => a.at k
  src := fun ⟨o, e, r⟩ k => ⟨o, k o e, r⟩
  obj := fun ⟨o, e, _, d⟩ => ⟨o, e, fun v q => by rw [d] at q; cases q⟩
  item := fun a b c h => nextOf_tuple_item a b c h
  fin := fun calm0 a b c h => nextOf_tuple_end calm0 a b c h
section
variable {prog : Program} {w : World} {A : Around} {E : Value → Shared → Prop} {s : Shared} {it d : Addr} {i n ep : Nat} {od : Obj} {es : Array DictEntry} {Q : Value → Shared → Prop}
theorem nextOf_key_item {en : DictEntry} (itr : s.heap.IsKeyIter it d i n ep) (dAt : s.heap.get? d = some od) (dDat : od.data = .dict es ep)
    (many : es.size = n) (hx : es[i]? = some en) (kOut : ∀ h', h'.IsKeyIter it d (i + 1) n ep → Heap.SameBut it s.heap h' → Q en.key { s with heap := h' }) : wpAny (model prog w) A (Builtin.SmallTypes.nextOf (.ref it)) Q E s := by
  obtain ⟨o, itAt, hc, hd⟩ := id itr
  unfold Builtin.SmallTypes.nextOf
  refine wpAny_bind (wpAny_callSpecial?_slot (name := Str.ofString "__next__") itr.typeIs F.slot_dict_keyiterator_next
    (wpAny_call_entry F.slot_dict_keyiterator_next itr.typeIs F.entry_dict_keyiterator_next ?_ (F.args_dict_keyiterator_next_1 _)))
  refine wpAny_bind (wpAny_pure (wpAny_bind (wpAny_bind ?_)))
  first | refine wpAny_bind (wpAny_typeNameOfWhole_keyiter itr.typeIs (wpAny_pure ?_)) | refine wpAny_bind (wpAny_typeNameOf_keyiter itr.typeIs (wpAny_pure ?_))
  refine wpAny_bind (wpAny_fieldsOf itAt hd ?_)
  have plain : Builtin.Dict_items.ownsTuple "dict_keyiterator" = false := by decide
  simp only [plain, Bool.false_eq_true, if_false]
  show wpAny _ _ (if (Value.ref d == Value.none) = true then _ else _) _ _ s
  rw [if_neg (show ¬ ((Value.ref d == Value.none) = true) from Bool.false_ne_true)]
  refine wpAny_bind (wpAny_pure (wpAny_bind (wpAny_dictEntries dAt dDat ?_)))
  rw [if_neg (by rw [many]; simp)]
  refine wpAny_bind (wpAny_pure (wpAny_bind (wpAny_dictEpoch dAt dDat ?_)))
  rw [if_neg (by simp)]
  refine wpAny_pure ?_
  obtain ⟨lt, here⟩ := Array.getElem?_eq_some_iff.mp hx
  simp only [show ¬ ((i : Int) < 0) from by omega, if_false, Int.toNat_natCast, Array.getElem?_eq_getElem lt]
  refine wpAny_bind ?_
  first | refine wpAny_bind (wpAny_typeNameOfWhole_keyiter itr.typeIs (wpAny_pure ?_)) | refine wpAny_bind (wpAny_typeNameOf_keyiter itr.typeIs (wpAny_pure ?_))
  refine wpAny_bind (wpAny_isOneOf_keyiter itr.typeIs ?_)
  show wpAny _ _ (setField (.ref it) 1 (rawInt ((i : Int) + 1)) >>= _) _ _ s
  refine wpAny_bind (wpAny_setField itAt hd (by simp) ?_)
  have hit' : (s.heap.update it (Obj.mapFields (·.setIfInBounds 1 (rawInt ((i : Int) + 1))))).IsKeyIter it d (i + 1) n ep :=
    ⟨_, Heap.get?_update_self _ itAt (Obj.isFreed_of_fields (Obj.data_mapFields hd _)), (Obj.cls_mapFields ..).trans hc, by rw [Obj.data_mapFields hd]; simp [rawInt]⟩
  refine wpAny_bind (wpAny_holding (wpAny_bind (wpAny_isOneOf_keyiter (s := { s with heap := s.heap.update it (Obj.mapFields (·.setIfInBounds 1 (rawInt ((i : Int) + 1)))) }) hit'.typeIs ?_)))
  show wpAny _ _ (pure es[i].key) _ _ _
  rw [here]
  exact wpAny_pure (wpAny_pure ⟨_, rfl, wpAny_pure (kOut _ hit' (Heap.SameBut.update ..))⟩)
theorem nextOf_key_end (calm0 : A.handled = none) (itr : s.heap.IsKeyIter it d i n ep) (dAt : s.heap.get? d = some od) (dDat : od.data = .dict es ep)
    (many : es.size = n) (over : n ≤ i) (kErr : ∀ h' e, Heap.ExtBut it s.heap h' → (∃ o, h'.get? e = some o ∧ o.cls = .type "StopIteration") → E (.ref e) { s with heap := h' }) : wpAny (model prog w) A (Builtin.SmallTypes.nextOf (.ref it)) Q E s := by
  obtain ⟨o, itAt, hc, hd⟩ := id itr
  unfold Builtin.SmallTypes.nextOf
  refine wpAny_bind (wpAny_callSpecial?_slot (name := Str.ofString "__next__") itr.typeIs F.slot_dict_keyiterator_next
    (wpAny_call_entry F.slot_dict_keyiterator_next itr.typeIs F.entry_dict_keyiterator_next ?_ (F.args_dict_keyiterator_next_1 _)))
  refine wpAny_bind (wpAny_pure (wpAny_bind (wpAny_bind ?_)))
  first | refine wpAny_bind (wpAny_typeNameOfWhole_keyiter itr.typeIs (wpAny_pure ?_)) | refine wpAny_bind (wpAny_typeNameOf_keyiter itr.typeIs (wpAny_pure ?_))
  refine wpAny_bind (wpAny_fieldsOf itAt hd ?_)
  have plain : Builtin.Dict_items.ownsTuple "dict_keyiterator" = false := by decide
  simp only [plain, Bool.false_eq_true, if_false]
  show wpAny _ _ (if (Value.ref d == Value.none) = true then _ else _) _ _ s
  rw [if_neg (show ¬ ((Value.ref d == Value.none) = true) from Bool.false_ne_true)]
  refine wpAny_bind (wpAny_pure (wpAny_bind (wpAny_dictEntries dAt dDat ?_)))
  rw [if_neg (by rw [many]; simp)]
  refine wpAny_bind (wpAny_pure (wpAny_bind (wpAny_dictEpoch dAt dDat ?_)))
  rw [if_neg (by simp)]
  refine wpAny_pure ?_
  have past : es.size ≤ i := by rw [many]; exact over
  simp only [show ¬ ((i : Int) < 0) from by omega, if_false, Int.toNat_natCast, Array.getElem?_eq_none past]
  refine wpAny_bind ?_
  first | refine wpAny_bind (wpAny_typeNameOfWhole_keyiter itr.typeIs (wpAny_pure ?_)) | refine wpAny_bind (wpAny_typeNameOf_keyiter itr.typeIs (wpAny_pure ?_))
  show wpAny _ _ (setField (.ref it) 0 .none >>= _) _ _ s
  refine wpAny_bind (wpAny_setField itAt hd (by simp) ?_)
  show wpAny _ _ (newExc (.type "StopIteration") [] >>= _) _ _ _
  refine wpAny_bind ?_
  simp only [newExc, newTuple]
  refine wpAny_bind (wpAny_newObj_type ?_ (by size_fits))
  refine wpAny_bind (m := firstArgMember _ _) (wpAny_of_eq (a := Value.none) (by first | rfl | (simp only [firstArgMember]; rfl)) ?_)
  refine wpAny_newObj_type ?_ (by size_fits)
  simp only [raiseNew]
  refine wpAny_bind (wpAny_handled ?_)
  first | rw [show A.in1.handled = none from calm0] | rw [calm0]
  refine wpAny_bind (wpAny_pure (wpAny_throw ?_))
  exact kErr _ _ (((Heap.SameBut.update ..).extBut.push _).push _) ⟨_, Heap.get?_push_size _ rfl, rfl⟩
end
/-- the dict at d as it stands -/
def DictIs (h : Heap) (d : Addr) (es : Array DictEntry) (ep : Nat) : Prop := ∃ o, h.get? d = some o ∧ o.data = .dict es ep
theorem zpart_keys {prog : Program} {w : World} {it d : Addr} {es : Array DictEntry} {ep n : Nat} (hn : es.size = n) : ZPart prog w it d (fun k h => h.IsKeyIter it d k n ep) (fun h => DictIs h d es ep) (fun k => es[k]?.map (·.key)) where
  at_ := fun a k => a.at k
  src := fun ⟨o, e, r⟩ k => ⟨o, k o e, r⟩
  obj := fun ⟨o, e, _, d⟩ => ⟨o, e, fun v q => by rw [d] at q; cases q⟩
  item := fun {A E s k x Q} a ⟨o, e, r⟩ c h => by
    cases z : es[k]? with
    | none => rw [z] at c; cases c
    | some en =>
      rw [z] at c
      obtain rfl : en.key = x := Option.some.inj c
      exact nextOf_key_item a e r hn z h
  fin := fun {A E s k Q} calm0 a ⟨o, e, r⟩ c h => by
    refine nextOf_key_end calm0 a e r hn ?_ h
    rcases Nat.lt_or_ge k es.size with z | z
    · rw [Array.getElem?_eq_getElem z] at c
      cases c
    · omega
section
variable {prog : Program} {w : World} {A : Around} {E : Value → Shared → Prop} {s : Shared} {z TI TO i1 i2 l1 l2 : Addr} {k1 k2 : Nat} {At1 At2 : Nat → Heap → Prop} {S1 S2 : Heap → Prop} {g1 g2 : Nat → Option Value} {x y a b : Value}
theorem zipP_next_item {Q : Value → Shared → Prop} (p1 : ZPart prog w i1 l1 At1 S1 g1) (p2 : ZPart prog w i2 l2 At2 S2 g2) (D : ZipApart z TI TO i1 i2 l1 l2)
    (atZ : IsZip s.heap z TI TO .none) (atI : IsPair s.heap TI (.ref i1) (.ref i2)) (atO : IsPair s.heap TO a b) (h1 : At1 k1 s.heap) (h2 : At2 k2 s.heap) (hl1 : S1 s.heap) (hl2 : S2 s.heap) (hx : g1 k1 = some x) (hy : g2 k2 = some y)
    (kOut : ∀ h', IsZip h' z TI TO (rawInt s.heap.objs.size) → IsPair h' TO x y → At1 (k1 + 1) h' → At2 (k2 + 1) h' → IsPair h' s.heap.objs.size x y → h'.objs.size = s.heap.objs.size + 1 →
      (∀ d u, d ≠ z → d ≠ TO → d ≠ i1 → d ≠ i2 → s.heap.get? d = some u → h'.get? d = some u) → Q (.ref s.heap.objs.size) { s with heap := h' }) :
    wpAny (model prog w) A (Builtin.«zip.__next__» ⟨[.ref z], []⟩) (fun fin t => ∃ v, fin = .done (.ret v) ∧ Q v t) E s := by
  show wpAny _ _ (field (.ref z) 2 >>= _) _ _ _
  refine wpAny_bind (wpAny_field atZ rfl (x := .bool false) rfl ?_)
  show wpAny _ _ (field (.ref z) 3 >>= _) _ _ _
  refine wpAny_bind (wpAny_field atZ rfl (x := .ref TI) rfl (wpAny_bind (wpAny_seqItems atI rfl ?_)))
  show wpAny _ _ (Builtin.SmallTypes.ownedTupleIsFree (.ref z) >>= _) _ _ _
  refine wpAny_bind ?_
  unfold Builtin.SmallTypes.ownedTupleIsFree
  refine wpAny_bind (wpAny_field atZ rfl (x := .none) rfl (wpAny_pure ?_))
  simp only [if_true]
  refine wpAny_bind (wpAny_rule (wpAny_bind (wpAny_field atZ rfl (x := .ref TO) rfl (wpAny_bind (wpAny_setField_rec atZ (by simp) fun ha hza sa => ?_)))))
  replace hza : IsZip ha z TI TO .ellipsis := hza
  refine wpAny_bind ?_
  simp only [List.zipIdx_cons, List.zipIdx_nil, List.forIn_cons, List.forIn_nil]
  have ka : ∀ c, c ≠ z → ∀ o, s.heap.get? c = some o → ha.get? c = some o := fun c n o e => sa.extBut _ _ n e
  -- the first side
  refine wpAny_bind (wpAny_bind (wpAny_onRaise ?_))
  show wpAny _ _ (Builtin.SmallTypes.nextOf (.ref i1) >>= _) _ _ _
  refine wpAny_bind (p1.item (s := { s with heap := ha }) (p1.at_ h1 (ka _ D.i1z)) (p1.src hl1 (ka _ D.l1z)) hx fun hb b1 sb => wpAny_pure ?_)
  have kb : ∀ c, c ≠ z → c ≠ i1 → ∀ o, s.heap.get? c = some o → hb.get? c = some o := fun c n m o e => sb.extBut _ _ m (ka c n o e)
  have tob : IsPair hb TO a b := kb _ D.TOz D.TOi1 _ atO
  refine wpAny_bind (wpAny_seqItems tob rfl (wpAny_bind (wpAny_updateSeq_pair tob fun hc toc sc => ?_)))
  replace toc : IsPair hc TO x b := toc
  refine wpAny_bind (wpAny_letGo (wpAny_pure ?_))
  have kc : ∀ c, c ≠ z → c ≠ i1 → c ≠ TO → ∀ o, s.heap.get? c = some o → hc.get? c = some o := fun c n m q o e => sc.extBut _ _ q (kb c n m o e)
  -- the second side
  refine wpAny_bind (wpAny_bind (wpAny_onRaise ?_))
  show wpAny _ _ (Builtin.SmallTypes.nextOf (.ref i2) >>= _) _ _ _
  refine wpAny_bind (p2.item (s := { s with heap := hc }) (p2.at_ h2 (kc _ D.i2z D.i12.symm D.TOi2.symm)) (p2.src hl2 (kc _ D.l2z D.l2i1 D.l2TO)) hy fun hd d2 sd => wpAny_pure ?_)
  have tod : IsPair hd TO x b := sd.extBut _ _ D.TOi2 toc
  refine wpAny_bind (wpAny_seqItems tod rfl (wpAny_bind (wpAny_updateSeq_pair tod fun he toe se => ?_)))
  replace toe : IsPair he TO x y := toe
  refine wpAny_bind (wpAny_letGo (wpAny_pure (wpAny_pure ?_)))
  have ke : ∀ c o, c ≠ z → c ≠ TO → c ≠ i1 → c ≠ i2 → s.heap.get? c = some o → he.get? c = some o := fun c o n1 n2 n3 n4 e => se.extBut _ _ n2 (sd.extBut _ _ n4 (kc c n1 n3 n2 o e))
  have ze : IsZip he z TI TO .ellipsis := se.extBut _ _ D.TOz.symm (sd.extBut _ _ D.i2z.symm (sc.extBut _ _ D.TOz.symm (sb.extBut _ _ D.i1z.symm hza)))
  have sz : he.objs.size = s.heap.objs.size := by rw [se.1, sd.1, sc.1, sb.1, sa.1]
  have e1 : At1 (k1 + 1) he := p1.at_ b1 fun o e => se.extBut _ _ D.TOi1.symm (sd.extBut _ _ D.i12 (sc.extBut _ _ D.TOi1.symm e))
  have e2 : At2 (k2 + 1) he := p2.at_ d2 fun o e => se.extBut _ _ D.TOi2.symm e
  have zlt : z < he.objs.size := Heap.lt_size ze
  -- the pair is handed out
  refine wpAny_bind (wpAny_seqItems toe rfl (wpAny_bind (wpAny_newTuple ?_)))
  show wpAny _ _ (Builtin.SmallTypes.ownedTupleHandOut (.ref z) (.ref he.objs.size) >>= _) _ _ _
  refine wpAny_bind ?_
  unfold Builtin.SmallTypes.ownedTupleHandOut
  have zf : IsZip (he.push { cls := .type "tuple", data := .seq #[x, y] }) z TI TO .ellipsis := Heap.get?_push_of_some _ ze
  refine wpAny_bind (wpAny_setField_rec zf (by simp) fun gives zg sg => ?_)
  replace zg : IsZip gives z TI TO (rawInt he.objs.size) := zg
  refine wpAny_setField_rec zg (by simp) fun hk zk sk => ?_
  replace zk : IsZip hk z TI TO (rawInt he.objs.size) := zk
  have up : ∀ c o, c ≠ z → he.get? c = some o → hk.get? c = some o := fun c o n e => sk.extBut _ _ n (sg.extBut _ _ n (Heap.get?_push_of_some _ e))
  have new : IsPair hk he.objs.size x y := sk.extBut _ _ (Nat.ne_of_gt zlt) (sg.extBut _ _ (Nat.ne_of_gt zlt) (Heap.get?_push_size _ rfl))
  have sz2 : hk.objs.size = he.objs.size + 1 := by rw [sk.1, sg.1, Heap.size_push]
  rw [sz] at zk new sz2
  refine wpAny_pure ⟨_, rfl, ?_⟩
  show Q (.ref he.objs.size) _
  rw [sz]
  exact kOut hk zk (up _ _ D.TOz toe) (p1.at_ e1 fun o e => up _ o D.i1z e) (p2.at_ e2 fun o e => up _ o D.i2z e) new sz2 fun c o n1 n2 n3 n4 e => up c o n1 (ke c o n1 n2 n3 n4 e)
theorem zipP_next_end {Q : Fin → Shared → Prop} (calm0 : A.handled = none) (p1 : ZPart prog w i1 l1 At1 S1 g1) (p2 : ZPart prog w i2 l2 At2 S2 g2) (D : ZipApart z TI TO i1 i2 l1 l2)
    (atZ : IsZip s.heap z TI TO .none) (atI : IsPair s.heap TI (.ref i1) (.ref i2)) (atO : IsPair s.heap TO a b) (h1 : At1 k1 s.heap) (h2 : At2 k2 s.heap) (hl1 : S1 s.heap) (hl2 : S2 s.heap) (last : g1 k1 = none ∨ g2 k2 = none)
    (kErr : ∀ h' e, (∀ d u, d ≠ z → d ≠ TO → d ≠ i1 → d ≠ i2 → s.heap.get? d = some u → h'.get? d = some u) → (∃ o, h'.get? e = some o ∧ o.cls = .type "StopIteration") → E (.ref e) { s with heap := h' }) :
    wpAny (model prog w) A (Builtin.«zip.__next__» ⟨[.ref z], []⟩) Q E s := by
  show wpAny _ _ (field (.ref z) 2 >>= _) _ _ _
  refine wpAny_bind (wpAny_field atZ rfl (x := .bool false) rfl ?_)
  show wpAny _ _ (field (.ref z) 3 >>= _) _ _ _
  refine wpAny_bind (wpAny_field atZ rfl (x := .ref TI) rfl (wpAny_bind (wpAny_seqItems atI rfl ?_)))
  show wpAny _ _ (Builtin.SmallTypes.ownedTupleIsFree (.ref z) >>= _) _ _ _
  refine wpAny_bind ?_
  unfold Builtin.SmallTypes.ownedTupleIsFree
  refine wpAny_bind (wpAny_field atZ rfl (x := .none) rfl (wpAny_pure ?_))
  simp only [if_true]
  refine wpAny_bind (wpAny_rule (wpAny_bind (wpAny_field atZ rfl (x := .ref TO) rfl (wpAny_bind (wpAny_setField_rec atZ (by simp) fun ha hza sa => ?_)))))
  replace hza : IsZip ha z TI TO .ellipsis := hza
  refine wpAny_bind ?_
  simp only [List.zipIdx_cons, List.zipIdx_nil, List.forIn_cons, List.forIn_nil]
  have ka : ∀ c, c ≠ z → ∀ o, s.heap.get? c = some o → ha.get? c = some o := fun c n o e => sa.extBut _ _ n e
  refine wpAny_bind (wpAny_bind (wpAny_onRaise ?_))
  show wpAny _ _ (Builtin.SmallTypes.nextOf (.ref i1) >>= _) _ _ _
  cases hx : g1 k1 with
  | none =>
    refine wpAny_bind (p1.fin (s := { s with heap := ha }) calm0 (p1.at_ h1 (ka _ D.i1z)) (p1.src hl1 (ka _ D.l1z)) hx fun hb e sb ⟨oe, eo, ec⟩ => ?_)
    have zb : IsZip hb z TI TO .ellipsis := sb _ _ D.i1z.symm hza
    have ez : e ≠ z := fun q => by subst q; rw [zb] at eo; cases eo; simp at ec
    exact wpAny_setField_rec zb (by simp) fun hc _ sc => kErr hc e (fun c o n1 _ n3 _ q => sc.extBut _ _ n1 (sb _ _ n3 (ka c n1 o q))) ⟨oe, sc.extBut _ _ ez eo, ec⟩
  | some x =>
    have hy : g2 k2 = none := last.resolve_left fun q => by rw [hx] at q; cases q
    refine wpAny_bind (p1.item (s := { s with heap := ha }) (p1.at_ h1 (ka _ D.i1z)) (p1.src hl1 (ka _ D.l1z)) hx fun hb b1 sb => wpAny_pure ?_)
    have kb : ∀ c, c ≠ z → c ≠ i1 → ∀ o, s.heap.get? c = some o → hb.get? c = some o := fun c n m o e => sb.extBut _ _ m (ka c n o e)
    have tob : IsPair hb TO a b := kb _ D.TOz D.TOi1 _ atO
    refine wpAny_bind (wpAny_seqItems tob rfl (wpAny_bind (wpAny_updateSeq_pair tob fun hc toc sc => ?_)))
    refine wpAny_bind (wpAny_letGo (wpAny_pure ?_))
    have kc : ∀ c, c ≠ z → c ≠ i1 → c ≠ TO → ∀ o, s.heap.get? c = some o → hc.get? c = some o := fun c n m q o e => sc.extBut _ _ q (kb c n m o e)
    refine wpAny_bind (wpAny_bind (wpAny_onRaise ?_))
    show wpAny _ _ (Builtin.SmallTypes.nextOf (.ref i2) >>= _) _ _ _
    refine wpAny_bind (p2.fin (s := { s with heap := hc }) calm0 (p2.at_ h2 (kc _ D.i2z D.i12.symm D.TOi2.symm)) (p2.src hl2 (kc _ D.l2z D.l2i1 D.l2TO)) hy fun hd e sd ⟨oe, eo, ec⟩ => ?_)
    have zd : IsZip hd z TI TO .ellipsis := sd _ _ D.i2z.symm (sc.extBut _ _ D.TOz.symm (sb.extBut _ _ D.i1z.symm hza))
    have ez : e ≠ z := fun q => by subst q; rw [zd] at eo; cases eo; simp at ec
    exact wpAny_setField_rec zd (by simp) fun he _ se => kErr he e (fun c o n1 n2 n3 n4 q => se.extBut _ _ n1 (sd _ _ n4 (kc c n1 n3 n2 o q))) ⟨oe, se.extBut _ _ ez eo, ec⟩
theorem pyNext_zipP_item {Q : Option Value → Shared → Prop} (p1 : ZPart prog w i1 l1 At1 S1 g1) (p2 : ZPart prog w i2 l2 At2 S2 g2) (D : ZipApart z TI TO i1 i2 l1 l2)
    (atZ : IsZip s.heap z TI TO .none) (atI : IsPair s.heap TI (.ref i1) (.ref i2)) (atO : IsPair s.heap TO a b) (h1 : At1 k1 s.heap) (h2 : At2 k2 s.heap) (hl1 : S1 s.heap) (hl2 : S2 s.heap) (hx : g1 k1 = some x) (hy : g2 k2 = some y)
    (kOut : ∀ h', IsZip h' z TI TO (rawInt s.heap.objs.size) → IsPair h' TO x y → At1 (k1 + 1) h' → At2 (k2 + 1) h' → IsPair h' s.heap.objs.size x y → h'.objs.size = s.heap.objs.size + 1 →
      (∀ d u, d ≠ z → d ≠ TO → d ≠ i1 → d ≠ i2 → s.heap.get? d = some u → h'.get? d = some u) → Q (some (.ref s.heap.objs.size)) { s with heap := h' }) :
    wpAny (model prog w) A (pyNext (.ref z)) Q E s := by
  have isZ : s.TypeIs (.ref z) "zip" := ⟨_, atZ, rfl⟩
  unfold pyNext
  exact wpAny_bind (wpAny_attempt (wpAny_callSpecial?_slot (name := Str.ofString "__next__") isZ F.slot_zip_next
    (wpAny_call_entry F.slot_zip_next isZ F.entry_zip_next (zipP_next_item p1 p2 D atZ atI atO h1 h2 hl1 hl2 hx hy fun h' q1 q2 q3 q4 q5 q6 q7 => wpAny_pure (kOut h' q1 q2 q3 q4 q5 q6 q7)) (F.args_zip_next_1 _))))
theorem pyNext_zipP_end {Q : Option Value → Shared → Prop} (calm0 : A.handled = none) (p1 : ZPart prog w i1 l1 At1 S1 g1) (p2 : ZPart prog w i2 l2 At2 S2 g2) (D : ZipApart z TI TO i1 i2 l1 l2)
    (atZ : IsZip s.heap z TI TO .none) (atI : IsPair s.heap TI (.ref i1) (.ref i2)) (atO : IsPair s.heap TO a b) (h1 : At1 k1 s.heap) (h2 : At2 k2 s.heap) (hl1 : S1 s.heap) (hl2 : S2 s.heap) (last : g1 k1 = none ∨ g2 k2 = none)
    (kOut : ∀ h', (∀ d u, d ≠ z → d ≠ TO → d ≠ i1 → d ≠ i2 → s.heap.get? d = some u → h'.get? d = some u) → Q none { s with heap := h' }) : wpAny (model prog w) A (pyNext (.ref z)) Q E s := by
  have isZ : s.TypeIs (.ref z) "zip" := ⟨_, atZ, rfl⟩
  unfold pyNext
  refine wpAny_bind (wpAny_attempt (wpAny_callSpecial?_slot (name := Str.ofString "__next__") isZ F.slot_zip_next
    (wpAny_call_entry F.slot_zip_next isZ F.entry_zip_next (zipP_next_end calm0 p1 p2 D atZ atI atO h1 h2 hl1 hl2 last fun h' e hk ⟨o, itAt, hc⟩ => ?_) (F.args_zip_next_1 _))))
  exact wpAny_bind (wpAny_isInstance (T := "StopIteration") (b := true) ⟨o, itAt, hc⟩ isSubtype_stop (wpAny_pure (kOut _ hk)))
end
/-! the call -/
abbrev itT (l : Addr) : Obj := { cls := .type "tuple_iterator", data := .fields #[.ref l, .int 0 0] }
abbrev itK (d : Addr) (n ep : Nat) : Obj := { cls := .type "dict_keyiterator", data := .fields #[.ref d, .int 0 0, .int n 0, .int ep 0] }
/-- what zip lays over the two iterators -/
abbrev zipHeap (h : Heap) (o1 o2 : Obj) : Heap := ((((h.push o1).push o2).push { cls := .type "tuple", data := .seq #[.ref h.objs.size, .ref (h.push o1).objs.size] }).push { cls := .type "tuple", data := .seq #[.none, .none] }).push
  { cls := .type "zip", data := .fields #[.none, .bool false, .bool false, .ref ((h.push o1).push o2).objs.size, .ref (((h.push o1).push o2).push { cls := .type "tuple", data := .seq #[.ref h.objs.size, .ref (h.push o1).objs.size] }).objs.size] }
abbrev zipAddr (h : Heap) (o1 o2 : Obj) : Addr := ((((h.push o1).push o2).push { cls := .type "tuple", data := .seq #[.ref h.objs.size, .ref (h.push o1).objs.size] }).push { cls := .type "tuple", data := .seq #[.none, .none] }).objs.size
theorem meets_zipTK (l d : Addr) (xs : Array Value) (es : Array DictEntry) (ep : Nat) (hs : (d == sysModules) = false) :
    Meets (Builtin.«zip.__new__» ⟨[.type "zip", .ref l, .ref d], []⟩) (fun _ R s => (s.heap.IsTuple l xs ∧ ∃ o, s.heap.get? d = some o ∧ o.ExactDict ∧ o.data = .dict es ep) ∧
      R (.ok (.ret (.ref (zipAddr s.heap (itT l) (itK d es.size ep))))) { s with heap := zipHeap s.heap (itT l) (itK d es.size ep) }) :=
  .of_wp fun prog w A R s h => by
    obtain ⟨hp, gs, dr, tk, os⟩ := s
    obtain ⟨⟨hl, o, itAt, hx, hd⟩, h⟩ := h
    have hsub := sub_zip
    have hL : Heap.IsTuple (Shared.heap ⟨hp, gs, dr, tk, os⟩) l xs := hl
    have hD : (Shared.heap ⟨hp.push (itT l), gs, dr, tk, os⟩).get? d = some o := Heap.get?_push_of_some _ itAt
    wp_walk using wpAny_pyIter_tuple hL, iter_keys hs hD hx hd
    exact ⟨_, rfl, h⟩
theorem meets_zipKT (d l : Addr) (xs : Array Value) (es : Array DictEntry) (ep : Nat) (hs : (d == sysModules) = false) :
    Meets (Builtin.«zip.__new__» ⟨[.type "zip", .ref d, .ref l], []⟩) (fun _ R s => (s.heap.IsTuple l xs ∧ ∃ o, s.heap.get? d = some o ∧ o.ExactDict ∧ o.data = .dict es ep) ∧
      R (.ok (.ret (.ref (zipAddr s.heap (itK d es.size ep) (itT l))))) { s with heap := zipHeap s.heap (itK d es.size ep) (itT l) }) :=
  .of_wp fun prog w A R s h => by
    obtain ⟨hp, gs, dr, tk, os⟩ := s
    obtain ⟨⟨hl, o, itAt, hx, hd⟩, h⟩ := h
    have hsub := sub_zip
    have hL : Heap.IsTuple (Shared.heap ⟨hp.push (itK d es.size ep), gs, dr, tk, os⟩) l xs := Heap.IsTuple.push hl _
    have hD : (Shared.heap ⟨hp, gs, dr, tk, os⟩).get? d = some o := itAt
    wp_walk using wpAny_pyIter_tuple hL, iter_keys hs hD hx hd
    exact ⟨_, rfl, h⟩
theorem call_zipO {prog : Program} {w : World} {A : Around} {E : Value → Shared → Prop} {s : Shared} {l1 l2 : Addr} {o1 o2 : Obj} {P : Shared → Prop} {Q : Value → Shared → Prop} (f1 : o1.isFreed = false) (f2 : o2.isFreed = false)
    (M : Meets (Builtin.«zip.__new__» ⟨[.type "zip", .ref l1, .ref l2], []⟩) fun _ R s => P s ∧ R (.ok (.ret (.ref (zipAddr s.heap o1 o2)))) { s with heap := zipHeap s.heap o1 o2 }) (p : P s)
    (h : ∀ h', IsZip h' (s.heap.objs.size + 4) (s.heap.objs.size + 2) (s.heap.objs.size + 3) .none → IsPair h' (s.heap.objs.size + 2) (.ref s.heap.objs.size) (.ref (s.heap.objs.size + 1)) →
      IsPair h' (s.heap.objs.size + 3) .none .none → h'.get? s.heap.objs.size = some o1 → h'.get? (s.heap.objs.size + 1) = some o2 → (∀ c o, s.heap.get? c = some o → h'.get? c = some o) → Q (.ref (s.heap.objs.size + 4)) { s with heap := h' }) :
    wpAny (model prog w) A (call (.type "zip") [.ref l1, .ref l2]) Q E s := by
  refine callType_new F.called_zip (by decide) (F.typeCall_zip_2 _ _) (F.newCall_zip_2 _ _) (fun obj => F.args_object_init_3 obj _ _) F.entry_zip_new M ⟨p, ?_⟩
  show _ ∧ _
  dsimp only [zipAddr, zipHeap]
  generalize e1 : s.heap.push o1 = ha
  have z1 : ha.objs.size = s.heap.objs.size + 1 := by rw [← e1]; exact Heap.size_push ..
  have g1 : ha.get? s.heap.objs.size = some o1 := by rw [← e1]; exact Heap.get?_push_size _ f1
  have k1 : ∀ c o, s.heap.get? c = some o → ha.get? c = some o := fun c o e => by rw [← e1]; exact Heap.get?_push_of_some _ e
  generalize e2 : ha.push o2 = hb
  have z2 : hb.objs.size = s.heap.objs.size + 2 := by rw [← e2, Heap.size_push, z1]
  have g2 : hb.get? (s.heap.objs.size + 1) = some o2 := by rw [← e2, ← z1]; exact Heap.get?_push_size _ f2
  have k2 : ∀ c o, ha.get? c = some o → hb.get? c = some o := fun c o e => by rw [← e2]; exact Heap.get?_push_of_some _ e
  rw [z1, z2]
  generalize e3 : hb.push { cls := .type "tuple", data := .seq #[.ref s.heap.objs.size, .ref (s.heap.objs.size + 1)] } = hc
  have z3 : hc.objs.size = s.heap.objs.size + 3 := by rw [← e3, Heap.size_push, z2]
  have g3 : IsPair hc (s.heap.objs.size + 2) (.ref s.heap.objs.size) (.ref (s.heap.objs.size + 1)) := by rw [← e3, ← z2]; exact Heap.get?_push_size _ rfl
  have k3 : ∀ c o, hb.get? c = some o → hc.get? c = some o := fun c o e => by rw [← e3]; exact Heap.get?_push_of_some _ e
  rw [z3]
  generalize e4 : hc.push { cls := .type "tuple", data := .seq #[.none, .none] } = hd
  have z4 : hd.objs.size = s.heap.objs.size + 4 := by rw [← e4, Heap.size_push, z3]
  have g4 : IsPair hd (s.heap.objs.size + 3) .none .none := by rw [← e4, ← z3]; exact Heap.get?_push_size _ rfl
  have k4 : ∀ c o, hc.get? c = some o → hd.get? c = some o := fun c o e => by rw [← e4]; exact Heap.get?_push_of_some _ e
  generalize e5 : hd.push { cls := .type "zip", data := .fields #[.none, .bool false, .bool false, .ref (s.heap.objs.size + 2), .ref (s.heap.objs.size + 3)] } = he
  have g5 : IsZip he (s.heap.objs.size + 4) (s.heap.objs.size + 2) (s.heap.objs.size + 3) .none := by rw [← e5, ← z4]; exact Heap.get?_push_size _ rfl
  have k5 : ∀ c o, hd.get? c = some o → he.get? c = some o := fun c o e => by rw [← e5]; exact Heap.get?_push_of_some _ e
  rw [z4]
  exact ⟨⟨_, g5, rfl⟩, h he g5 (k5 _ _ (k4 _ _ g3)) (k5 _ _ g4) (k5 _ _ (k4 _ _ (k3 _ _ (k2 _ _ g1)))) (k5 _ _ (k4 _ _ (k3 _ _ g2))) fun c o e => k5 _ _ (k4 _ _ (k3 _ _ (k2 _ _ (k1 _ _ e))))⟩
/-! as a walk -/
/-- one side of a zip as the heap tells it: while Hs holds, the items are vs -/
structure ZSide (P : Program) (w : World) (K : PySem.W.Frag) (it l : Addr) (At : Nat → Heap → Prop) (Hs : Hp → Prop) (vs : Nat → Option V) : Prop where
  at_ : ∀ {k : Nat} {h h' : Heap}, At k h → (∀ o, h.get? it = some o → h'.get? it = some o) → At k h'
  obj : ∀ {k : Nat} {h : Heap}, At k h → ∃ o, h.get? it = some o ∧ ∀ v, o.data ≠ .cell v
  side : ∀ (X : Cx), X.prog = P → X.w = w → X.K = K → ∀ (pins : List (Addr × Obj)) (σ : L2.St) (H : Hp) (s : Shared), Inv X pins σ H s → Hs H → ∃ (S : Heap → Prop) (g : Nat → Option Value), ZPart P w it l At S g ∧ S s.heap ∧ (∀ k x, vs k = some x → ∃ u, g k = some u ∧ RelV x u) ∧ ∀ k, vs k = none → g k = none
/-- the items of two sides in new pairs -/
def ItzP (A B : Hp → Prop) (xs ys : Nat → Option V) : It :=
  ⟨fun i H => A H ∧ B H ∧ ∃ x y, xs i = some x ∧ ys i = some y, fun i H v H' => ∃ T x y, v = .ref T ∧ H T = none ∧ H' = upd H T (.tup [x, y]) ∧ xs i = some x ∧ ys i = some y, fun i H => A H ∧ B H ∧ (xs i = none ∨ ys i = none)⟩
theorem turn_zipP {P : Program} {w : World} {K : PySem.W.Frag} {elts : List Expr} {kk : Nat} {tpos : Pos} {l1 l2 z TI TO i1 i2 : Addr} {At1 At2 : Nat → Heap → Prop} {A B : Hp → Prop} {xs ys : Nat → Option V} (D : ZipApart z TI TO i1 i2 l1 l2)
    (s1 : ZSide P w K i1 l1 At1 A xs) (s2 : ZSide P w K i2 l2 At2 B ys) :
    Turn P w K (.Tuple elts kk tpos) (ItzP A B xs ys) [z, TI, TO, i1, i2] z (fun i h => IsZip h z TI TO .none ∧ IsPair h TI (.ref i1) (.ref i2) ∧ (∃ x y, IsPair h TO x y) ∧ At1 i h ∧ At2 i h) where
  mem := by simp
  obj := fun i h ⟨atZ, atI, ⟨x, y, atO⟩, h1, h2⟩ c hc => by
    have wh : c = z ∨ c = TI ∨ c = TO ∨ c = i1 ∨ c = i2 := by simpa using hc
    rcases wh with q | q | q | q | q
    · rw [q]; exact ⟨_, atZ, fun v q => nomatch q⟩
    · rw [q]; exact ⟨_, atI, fun v q => nomatch q⟩
    · rw [q]; exact ⟨_, atO, fun v q => nomatch q⟩
    · rw [q]; exact s1.obj h1
    · rw [q]; exact s2.obj h2
  keep := fun i h h' ⟨atZ, atI, ⟨x, y, atO⟩, h1, h2⟩ k => ⟨k z (by simp) _ atZ, k TI (by simp) _ atI, ⟨x, y, k TO (by simp) _ atO⟩, s1.at_ h1 fun o q => k i1 (by simp) o q, s2.at_ h2 fun o q => k i2 (by simp) o q⟩
  item := by
    intro X hP hw hK hc i pins s σ H E I hf now gives
    obtain ⟨S1, g1, p1, q1, m1, _⟩ := s1.side X hP hw hK pins σ H s I gives.1
    obtain ⟨S2, g2, p2, q2, m2, _⟩ := s2.side X hP hw hK pins σ H s I gives.2.1
    subst hP hw hK
    obtain ⟨atZ, atI, ⟨old1, old2, atO⟩, h1, h2⟩ := now
    obtain ⟨_, _, x, y, hx, hy⟩ := gives
    obtain ⟨u, hu, ru⟩ := m1 i x hx
    obtain ⟨u2, hu2, ru2⟩ := m2 i y hy
    have zl : z < s.heap.objs.size := Heap.lt_size atZ
    refine pyNext_zipP_item p1 p2 D atZ atI atO h1 h2 q1 q2 hu hu2 fun h' z' TO' h1' h2' isZ _ hk => ?_
    refine ⟨_, rfl, wpAny_letOwnedTupleGo_zip (s := { s with heap := h' }) z' fun h'' z'' sb => ?_⟩
    have kz : ∀ c, c ≠ z → ∀ o, h'.get? c = some o → h''.get? c = some o := fun c n o e => (sb.2 c n).trans e
    have hT2 : h''.get? s.heap.objs.size = some { cls := .type "tuple", data := .seq #[u, u2] } := kz _ (Nat.ne_of_gt zl) _ isZ
    have off5 : ∀ c, c ∉ [z, TI, TO, i1, i2] → ∀ o, s.heap.get? c = some o → h''.get? c = some o := fun c n o e => by
      have n5 : c ≠ z ∧ c ≠ TI ∧ c ≠ TO ∧ c ≠ i1 ∧ c ≠ i2 := by simpa using n
      exact kz c n5.1 o (hk c o n5.1 n5.2.2.1 n5.2.2.2.1 n5.2.2.2.2 e)
    have new : ObjOk X.prog X.w (upd H s.heap.objs.size (.tup [x, y])) h'' s.heap.objs.size (.tup [x, y]) :=
      ⟨by show 2 ≤ sizeLine; decide, [u, u2], .cons ru (.cons ru2 .nil), ⟨_, hT2, rfl, _, rfl⟩⟩
    have J : Inv X pins σ (upd H s.heap.objs.size (.tup [x, y])) { s with heap := h'' } :=
      I.turnedNew (t' := s.toks) (ch := [z, TI, TO, i1, i2]) (fun c o hb q => off5 c hb o q) hf (Nat.le_refl _) new
    refine ⟨.ref s.heap.objs.size, _, J, rfl, ⟨_, x, y, rfl, I.hok.fresh (Nat.le_refl _), rfl, hx, hy⟩, ⟨z'', ?_, ⟨u, u2, ?_⟩, ?_, ?_⟩, fun c inF => ?_⟩
    · exact kz _ D.TIz _ (hk _ _ D.TIz D.TITO D.TIi1 D.TIi2 atI)
    · exact kz _ D.TOz _ TO'
    · exact s1.at_ h1' (kz _ D.i1z)
    · exact s2.at_ h2' (kz _ D.i2z)
    · have lt : c < s.heap.objs.size := by
        have wh : c = z ∨ c = TI ∨ c = TO ∨ c = i1 ∨ c = i2 := by simpa using inF
        rcases wh with q | q | q | q | q
        · rw [q]; exact zl
        · rw [q]; exact Heap.lt_size atI
        · rw [q]; exact Heap.lt_size atO
        · rw [q]; exact Heap.lt_size (s1.obj h1).choose_spec.1
        · rw [q]; exact Heap.lt_size (s2.obj h2).choose_spec.1
      rw [upd_ne (Nat.ne_of_lt lt)]
      exact (hf c inF).1
  done := by
    intro X hP hw hK hc i pins s σ H E I hf now gives
    obtain ⟨S1, g1, p1, q1, _, n1⟩ := s1.side X hP hw hK pins σ H s I gives.1
    obtain ⟨S2, g2, p2, q2, _, n2⟩ := s2.side X hP hw hK pins σ H s I gives.2.1
    subst hP hw hK
    obtain ⟨atZ, atI, ⟨old1, old2, atO⟩, h1, h2⟩ := now
    exact pyNext_zipP_end (I.ok.hd hc) p1 p2 D atZ atI atO h1 h2 q1 q2 (gives.2.2.imp (n1 i) (n2 i)) fun h' hk => ⟨rfl, I.turnedL (t' := s.toks) (ch := [z, TI, TO, i1, i2]) (fun c o n e => by
      have n5 : c ≠ z ∧ c ≠ TI ∧ c ≠ TO ∧ c ≠ i1 ∧ c ≠ i2 := by simpa using n
      exact hk c o n5.1 n5.2.2.1 n5.2.2.2.1 n5.2.2.2.2 e) hf⟩
  self := fun A i s Q E now h => wpAny_pyIter_zip now.1 h
theorem zside_tup {P : Program} {w : World} {K : PySem.W.Frag} {it a : Addr} {xs : List V} : ZSide P w K it a (fun k h => h.IsTupleIter it a k) (fun H => SqT K H a xs) (fun i => xs[i]?) where
  at_ := fun q k => q.at k
  obj := fun ⟨o, e, _, d⟩ => ⟨o, e, fun v q => by rw [d] at q; cases q⟩
  side := fun X hP hw hK pins σ H s I hq => by
    subst hP hw hK
    obtain ⟨its, rv, p, _⟩ := I.tuple hq
    refine ⟨_, _, zpart_tuple (items := its.toArray), p, fun k x hx => ?_, fun k hx => ?_⟩
    · obtain ⟨u, hu, ru⟩ := rv.get hx
      exact ⟨u, by simpa using hu, ru⟩
    · have l := rv.length
      have : xs.length ≤ k := List.getElem?_eq_none_iff.mp hx
      simp
      omega
theorem zside_keys {P : Program} {w : World} {K : PySem.W.Frag} {it d : Addr} {o : Obj} {kvs : List (Key × V)} {es : Array DictEntry} {ep : Nat} (dAt : o.data = .dict es ep) :
    ZSide P w K it d (fun k h => h.IsKeyIter it d k kvs.length ep) (fun H => H d = some (.frz o (.dK kvs))) (fun i => kvs[i]?.map fun q => kV q.1) where
  at_ := fun q k => q.at k
  obj := fun ⟨o, e, _, d⟩ => ⟨o, e, fun v q => by rw [d] at q; cases q⟩
  side := fun X hP hw hK pins σ H s I hq => by
    subst hP hw hK
    obtain ⟨hs, dHp, hx, es', ep', vs, dDt, many, kv, hm⟩ := I.frzK hq
    obtain ⟨rfl, rfl⟩ := dict_ep dAt dDt
    obtain ⟨od, es2, ho2, hc2, hd2, hk2, hp2, hn2⟩ := id hm
    rw [dHp] at ho2
    cases ho2
    obtain ⟨rfl, _⟩ := dict_ep dDt hd2
    have hl : kvs.length = vs.length := Paired.length kv
    refine ⟨_, _, zpart_keys (es := es2) many, ⟨o, dHp, dDt⟩, fun k x hx => ?_, fun k hx => ?_⟩
    · cases hk : kvs[k]? with
      | none => rw [hk] at hx; cases hx
      | some q =>
        rw [hk] at hx
        obtain rfl : kV q.1 = x := Option.some.inj hx
        obtain ⟨u, hu, ru⟩ := kv_get kv (show kvs[k]? = some (q.1, q.2) from hk)
        have lt : k < es2.size := by
          have := (List.getElem?_eq_some_iff.mp hk).1
          omega
        have he : es2.toList[k]? = some es2[k] := by simp [lt]
        obtain ⟨hkey, _⟩ := hp2.get? he hu
        refine ⟨es2[k].key, by rw [Array.getElem?_eq_getElem lt]; rfl, relV_key (show keyIs q.1 es2[k].key = true from hkey)⟩
    · cases hk : kvs[k]? with
      | some q => rw [hk] at hx; cases hx
      | none =>
        have : kvs.length ≤ k := List.getElem?_eq_none_iff.mp hk
        show es2[k]?.map _ = none
        rw [Array.getElem?_eq_none (by omega)]
        rfl
/-- zip of a tuple and a locked dict of ints or texts, either way round -/
def iZipM (K : PySem.W.Frag) (ta : TA) : TI := fun σ H R => ta σ H fun vs H1 => ∃ a b, vs = [.ref a, .ref b] ∧
  ((∃ xs o kvs, SqT K H1 a xs ∧ H1 b = some (.frz o (.dK kvs)) ∧ R (ItzP (fun H => SqT K H a xs) (fun H => H b = some (.frz o (.dK kvs))) (fun i => xs[i]?) fun i => kvs[i]?.map fun q => kV q.1) H1) ∨
    ∃ xs o kvs, H1 a = some (.frz o (.dK kvs)) ∧ SqT K H1 b xs ∧ R (ItzP (fun H => H a = some (.frz o (.dK kvs))) (fun H => SqT K H b xs) (fun i => kvs[i]?.map fun q => kV q.1) fun i => xs[i]?) H1)
theorem pi_zipM {X : Cx} {e e2 : Expr} {ta : TA} {p pos tpos : Pos} {elts : List Expr} {kk : Nat} (gives : Gl X "zip") (hm : X.mg "zip" = none) (ha : PA X [e, e2] ta)
    (hs : starEach [e, e2] X.env = (false, eval e X.env) :: starEach [e2] X.env := by rfl) (plain1 : (backTo pos (starEach [e2] X.env)).any (·.1) = false := by rfl) :
    PI X (.Tuple elts kk tpos) (.Call (.Name "zip" p) [e, e2] [] pos) (iZipM X.K ta) := by
  refine ⟨fun pins s σ H R I h => ?_⟩
  refine Call_ (ld_blt I gives hm PyProof.Rows.boot_zip (PyProof.Rows.callWith_type1 (thn (ha.run pos pins s σ H _ I h) fun us t ⟨vs, H1, J, rel, q⟩ => ?_) hs plain1))
  obtain ⟨a, b, ev, q⟩ := q
  subst ev
  obtain ⟨u1, u2, rfl, r1, r2⟩ := vals2 rel
  obtain rfl : u1 = Value.ref a := r1
  obtain rfl : u2 = Value.ref b := r2
  have fresh : ∀ c, c ∈ [t.heap.objs.size + 4, t.heap.objs.size + 2, t.heap.objs.size + 3, t.heap.objs.size, t.heap.objs.size + 1] → FpOk X pins H1 c := fun c hc => by
    have le : t.heap.objs.size ≤ c := by
      simp only [List.mem_cons, List.not_mem_nil, or_false] at hc
      omega
    exact J.fpOk le (J.hok.fresh le)
  rcases q with ⟨xs, o, kvs, ht, hd, q⟩ | ⟨xs, o, kvs, hd, ht, q⟩
  · obtain ⟨its, rv, p1, _⟩ := J.tuple ht
    obtain ⟨hsys, dHp, hx, es, ep, ws, dDt, many, _, _⟩ := J.frzK hd
    have la : a < t.heap.objs.size := let ⟨_, z, _⟩ := id p1; Heap.lt_size z
    have lb := Heap.lt_size dHp
    refine call_zipO rfl rfl (meets_zipTK a b its.toArray es ep hsys) ⟨p1, o, dHp, hx, dDt⟩ fun h' atZ atI atO g1 g2 hk => wpAny_pyIter_zip atZ ?_
    exact ⟨t.heap.objs.size + 4, [t.heap.objs.size + 4, t.heap.objs.size + 2, t.heap.objs.size + 3, t.heap.objs.size, t.heap.objs.size + 1], _, _, H1, rfl, J.kept (t' := t.toks) hk,
      turn_zipP (PySem.W.ktu_apart t.heap.objs.size a b la lb) zside_tup (zside_keys dDt), ⟨atZ, atI, ⟨_, _, atO⟩, ⟨_, g1, rfl, rfl⟩, ⟨_, g2, rfl, by rw [many]; rfl⟩⟩, fresh, q⟩
  · obtain ⟨its, rv, p1, _⟩ := J.tuple ht
    obtain ⟨hsys, dHp, hx, es, ep, ws, dDt, many, _, _⟩ := J.frzK hd
    have lb : b < t.heap.objs.size := let ⟨_, z, _⟩ := id p1; Heap.lt_size z
    have la := Heap.lt_size dHp
    refine call_zipO rfl rfl (meets_zipKT a b its.toArray es ep hsys) ⟨p1, o, dHp, hx, dDt⟩ fun h' atZ atI atO g1 g2 hk => wpAny_pyIter_zip atZ ?_
    exact ⟨t.heap.objs.size + 4, [t.heap.objs.size + 4, t.heap.objs.size + 2, t.heap.objs.size + 3, t.heap.objs.size, t.heap.objs.size + 1], _, _, H1, rfl, J.kept (t' := t.toks) hk,
      turn_zipP (PySem.W.ktu_apart t.heap.objs.size a b la lb) (zside_keys dDt) zside_tup, ⟨atZ, atI, ⟨_, _, atO⟩, ⟨_, g1, rfl, by rw [many]; rfl⟩, ⟨_, g2, rfl, rfl⟩⟩, fresh, q⟩
theorem walk_zipP {A B : Hp → Prop} {xs ys : Nat → Option V} {n : Nat} (h1 : ∀ i, i < n → ∃ x y, xs i = some x ∧ ys i = some y) (h2 : xs n = none ∨ ys n = none) : Walk (ItzP A B xs ys) n (fun H => A H ∧ B H) (YPair xs ys) :=
  ⟨fun i H hi q => ⟨q.1, q.2, h1 i hi⟩, fun H q => ⟨q.1, q.2, h2⟩, fun i H x H' hi q y => y⟩
end RZ
set_option Elab.async false
set_option linter.all false
set_option maxRecDepth 100000
set_option maxHeartbeats 4000000
/-! A zip whose pair is kept by whoever got it: the next pair is a new one. dict(zip(t, u)) of two tuples. -/
namespace RZ
open PySem PySem.Spec PyProof.Rows L2
section
variable {prog : Program} {w : World} {A : Around} {E : Value → Shared → Prop} {s : Shared} {z TI TO T i1 i2 l1 l2 : Addr} {f : Bool} {oT : Obj} {k1 k2 : Nat} {At1 At2 : Nat → Heap → Prop} {S1 S2 : Heap → Prop} {g1 g2 : Nat → Option Value} {x y : Value}
theorem zipP_next_item_held {Q : Value → Shared → Prop} (p1 : ZPart prog w i1 l1 At1 S1 g1) (p2 : ZPart prog w i2 l2 At2 S2 g2) (D : ZipApart z TI TO i1 i2 l1 l2)
    (atZ : IsZipHeld s.heap z TI TO T f) (isT : s.heap.get? T = some oT) (atI : IsPair s.heap TI (.ref i1) (.ref i2)) (h1 : At1 k1 s.heap) (h2 : At2 k2 s.heap) (hl1 : S1 s.heap) (hl2 : S2 s.heap) (hx : g1 k1 = some x) (hy : g2 k2 = some y)
    (kOut : ∀ h', IsZipHeld h' z TI TO T true → At1 (k1 + 1) h' → At2 (k2 + 1) h' → IsPair h' s.heap.objs.size x y → h'.objs.size = s.heap.objs.size + 1 →
      (∀ d u, d ≠ z → d ≠ i1 → d ≠ i2 → s.heap.get? d = some u → h'.get? d = some u) → Q (.ref s.heap.objs.size) { s with heap := h' }) :
    wpAny (model prog w) A (Builtin.«zip.__next__» ⟨[.ref z], []⟩) (fun fin t => ∃ v, fin = .done (.ret v) ∧ Q v t) E s := by
  show wpAny _ _ (field (.ref z) 2 >>= _) _ _ _
  refine wpAny_bind (wpAny_field atZ rfl (x := .bool false) rfl ?_)
  show wpAny _ _ (field (.ref z) 3 >>= _) _ _ _
  refine wpAny_bind (wpAny_field atZ rfl (x := .ref TI) rfl (wpAny_bind (wpAny_seqItems atI rfl ?_)))
  show wpAny _ _ (Builtin.SmallTypes.ownedTupleIsFree (.ref z) >>= _) _ _ _
  refine wpAny_bind (wpAny_tupleHeld_zip atZ isT fun ha za sa => ?_)
  simp only [Bool.false_eq_true, if_false]
  refine wpAny_bind ?_
  rw [← Array.forIn_toList]
  simp only [List.forIn_cons, List.forIn_nil]
  have ka : ∀ c, c ≠ z → ∀ o, s.heap.get? c = some o → ha.get? c = some o := fun c n o e => sa.extBut _ _ n e
  refine wpAny_bind (wpAny_bind (wpAny_holding ?_))
  show wpAny _ _ (Builtin.SmallTypes.nextOf (.ref i1) >>= _) _ _ _
  refine wpAny_bind (p1.item (s := { s with heap := ha }) (p1.at_ h1 (ka _ D.i1z)) (p1.src hl1 (ka _ D.l1z)) hx fun hb b1 sb => wpAny_pure (wpAny_pure ?_))
  have kb : ∀ c, c ≠ z → c ≠ i1 → ∀ o, s.heap.get? c = some o → hb.get? c = some o := fun c n m o e => sb.extBut _ _ m (ka c n o e)
  refine wpAny_bind (wpAny_bind (wpAny_holding ?_))
  show wpAny _ _ (Builtin.SmallTypes.nextOf (.ref i2) >>= _) _ _ _
  refine wpAny_bind (p2.item (s := { s with heap := hb }) (p2.at_ h2 (kb _ D.i2z D.i12.symm)) (p2.src hl2 (kb _ D.l2z D.l2i1)) hy fun hc c2 sc => wpAny_pure (wpAny_pure (wpAny_pure ?_)))
  have kc : ∀ c o, c ≠ z → c ≠ i1 → c ≠ i2 → s.heap.get? c = some o → hc.get? c = some o := fun c o n m q e => sc.extBut _ _ q (kb c n m o e)
  show wpAny _ _ (newTuple [x, y] >>= _) _ _ _
  refine wpAny_bind (wpAny_newTuple ?_)
  have sz : hc.objs.size = s.heap.objs.size := by rw [sc.1, sb.1, sa.1]
  have zc : IsZipHeld hc z TI TO T true := sc.extBut _ _ D.i2z.symm (sb.extBut _ _ D.i1z.symm za)
  refine wpAny_pure ⟨_, rfl, ?_⟩
  show Q (.ref hc.objs.size) _
  have new : IsPair (hc.push { cls := .type "tuple", data := .seq #[x, y] }) hc.objs.size x y := Heap.get?_push_size _ rfl
  have sz2 : (hc.push { cls := .type "tuple", data := .seq #[x, y] }).objs.size = hc.objs.size + 1 := Heap.size_push ..
  rw [sz] at new sz2 ⊢
  exact kOut _ (Heap.get?_push_of_some _ zc) (p1.at_ b1 fun o e => Heap.get?_push_of_some _ (sc.extBut _ _ D.i12 e)) (p2.at_ c2 fun o e => Heap.get?_push_of_some _ e) new sz2 fun c o n m q e => Heap.get?_push_of_some _ (kc c o n m q e)
theorem zipP_next_end_held {Q : Fin → Shared → Prop} (calm0 : A.handled = none) (p1 : ZPart prog w i1 l1 At1 S1 g1) (p2 : ZPart prog w i2 l2 At2 S2 g2) (D : ZipApart z TI TO i1 i2 l1 l2)
    (atZ : IsZipHeld s.heap z TI TO T f) (isT : s.heap.get? T = some oT) (atI : IsPair s.heap TI (.ref i1) (.ref i2)) (h1 : At1 k1 s.heap) (h2 : At2 k2 s.heap) (hl1 : S1 s.heap) (hl2 : S2 s.heap) (last : g1 k1 = none ∨ g2 k2 = none)
    (kErr : ∀ h' e, (∀ d u, d ≠ z → d ≠ i1 → d ≠ i2 → s.heap.get? d = some u → h'.get? d = some u) → (∃ o, h'.get? e = some o ∧ o.cls = .type "StopIteration") → E (.ref e) { s with heap := h' }) :
    wpAny (model prog w) A (Builtin.«zip.__next__» ⟨[.ref z], []⟩) Q E s := by
  show wpAny _ _ (field (.ref z) 2 >>= _) _ _ _
  refine wpAny_bind (wpAny_field atZ rfl (x := .bool false) rfl ?_)
  show wpAny _ _ (field (.ref z) 3 >>= _) _ _ _
  refine wpAny_bind (wpAny_field atZ rfl (x := .ref TI) rfl (wpAny_bind (wpAny_seqItems atI rfl ?_)))
  show wpAny _ _ (Builtin.SmallTypes.ownedTupleIsFree (.ref z) >>= _) _ _ _
  refine wpAny_bind (wpAny_tupleHeld_zip atZ isT fun ha za sa => ?_)
  simp only [Bool.false_eq_true, if_false]
  refine wpAny_bind ?_
  rw [← Array.forIn_toList]
  simp only [List.forIn_cons, List.forIn_nil]
  have ka : ∀ c, c ≠ z → ∀ o, s.heap.get? c = some o → ha.get? c = some o := fun c n o e => sa.extBut _ _ n e
  refine wpAny_bind (wpAny_bind (wpAny_holding ?_))
  show wpAny _ _ (Builtin.SmallTypes.nextOf (.ref i1) >>= _) _ _ _
  cases hx : g1 k1 with
  | none => exact wpAny_bind (p1.fin (s := { s with heap := ha }) calm0 (p1.at_ h1 (ka _ D.i1z)) (p1.src hl1 (ka _ D.l1z)) hx fun hb e sb he => kErr hb e (fun c o n m _ q => sb _ _ m (ka c n o q)) he)
  | some x =>
    have hy : g2 k2 = none := last.resolve_left fun q => by rw [hx] at q; cases q
    refine wpAny_bind (p1.item (s := { s with heap := ha }) (p1.at_ h1 (ka _ D.i1z)) (p1.src hl1 (ka _ D.l1z)) hx fun hb b1 sb => wpAny_pure (wpAny_pure ?_))
    have kb : ∀ c, c ≠ z → c ≠ i1 → ∀ o, s.heap.get? c = some o → hb.get? c = some o := fun c n m o e => sb.extBut _ _ m (ka c n o e)
    refine wpAny_bind (wpAny_bind (wpAny_holding ?_))
    show wpAny _ _ (Builtin.SmallTypes.nextOf (.ref i2) >>= _) _ _ _
    exact wpAny_bind (p2.fin (s := { s with heap := hb }) calm0 (p2.at_ h2 (kb _ D.i2z D.i12.symm)) (p2.src hl2 (kb _ D.l2z D.l2i1)) hy fun hc e sc he => kErr hc e (fun c o n m q r => sc _ _ q (kb c n m o r)) he)
theorem pyNext_zipP_item_held {Q : Option Value → Shared → Prop} (p1 : ZPart prog w i1 l1 At1 S1 g1) (p2 : ZPart prog w i2 l2 At2 S2 g2) (D : ZipApart z TI TO i1 i2 l1 l2)
    (atZ : IsZipHeld s.heap z TI TO T f) (isT : s.heap.get? T = some oT) (atI : IsPair s.heap TI (.ref i1) (.ref i2)) (h1 : At1 k1 s.heap) (h2 : At2 k2 s.heap) (hl1 : S1 s.heap) (hl2 : S2 s.heap) (hx : g1 k1 = some x) (hy : g2 k2 = some y)
    (kOut : ∀ h', IsZipHeld h' z TI TO T true → At1 (k1 + 1) h' → At2 (k2 + 1) h' → IsPair h' s.heap.objs.size x y → h'.objs.size = s.heap.objs.size + 1 →
      (∀ d u, d ≠ z → d ≠ i1 → d ≠ i2 → s.heap.get? d = some u → h'.get? d = some u) → Q (some (.ref s.heap.objs.size)) { s with heap := h' }) :
    wpAny (model prog w) A (pyNext (.ref z)) Q E s := by
  have isZ : s.TypeIs (.ref z) "zip" := ⟨_, atZ, rfl⟩
  unfold pyNext
  exact wpAny_bind (wpAny_attempt (wpAny_callSpecial?_slot (name := Str.ofString "__next__") isZ F.slot_zip_next
    (wpAny_call_entry F.slot_zip_next isZ F.entry_zip_next (zipP_next_item_held p1 p2 D atZ isT atI h1 h2 hl1 hl2 hx hy fun h' q1 q2 q3 q4 q5 q6 => wpAny_pure (kOut h' q1 q2 q3 q4 q5 q6)) (F.args_zip_next_1 _))))
theorem pyNext_zipP_end_held {Q : Option Value → Shared → Prop} (calm0 : A.handled = none) (p1 : ZPart prog w i1 l1 At1 S1 g1) (p2 : ZPart prog w i2 l2 At2 S2 g2) (D : ZipApart z TI TO i1 i2 l1 l2)
    (atZ : IsZipHeld s.heap z TI TO T f) (isT : s.heap.get? T = some oT) (atI : IsPair s.heap TI (.ref i1) (.ref i2)) (h1 : At1 k1 s.heap) (h2 : At2 k2 s.heap) (hl1 : S1 s.heap) (hl2 : S2 s.heap) (last : g1 k1 = none ∨ g2 k2 = none)
    (kOut : ∀ h', (∀ d u, d ≠ z → d ≠ i1 → d ≠ i2 → s.heap.get? d = some u → h'.get? d = some u) → Q none { s with heap := h' }) : wpAny (model prog w) A (pyNext (.ref z)) Q E s := by
  have isZ : s.TypeIs (.ref z) "zip" := ⟨_, atZ, rfl⟩
  unfold pyNext
  refine wpAny_bind (wpAny_attempt (wpAny_callSpecial?_slot (name := Str.ofString "__next__") isZ F.slot_zip_next
    (wpAny_call_entry F.slot_zip_next isZ F.entry_zip_next (zipP_next_end_held calm0 p1 p2 D atZ isT atI h1 h2 hl1 hl2 last fun h' e hk ⟨o, ho, hc⟩ => ?_) (F.args_zip_next_1 _))))
  exact wpAny_bind (wpAny_isInstance (T := "StopIteration") (b := true) ⟨o, ho, hc⟩ isSubtype_stop (wpAny_pure (kOut _ hk)))
end
/-- the argument of dict: a zip of two tuples -/
theorem pairArg_zipT {prog : Program} {w : World} (z TI TO i1 i2 l1 l2 : Addr) (D : ZipApart z TI TO i1 i2 l1 l2) (xs ys : Array Value) :
    PairArg prog w "zip" z [z, TI, TO, i1, i2, l1, l2] [z, TO, i1, i2] (min xs.size ys.size) (fun i k v => xs[i]? = some k ∧ ys[i]? = some v)
      (fun h => IsZip h z TI TO .none ∧ IsPair h TI (.ref i1) (.ref i2) ∧ (∃ a b, IsPair h TO a b) ∧ h.IsTupleIter i1 l1 0 ∧ h.IsTupleIter i2 l2 0 ∧ h.IsTuple l1 xs ∧ h.IsTuple l2 ys) where
  type := fun s ok => ⟨_, ok.1, rfl⟩
  notDict := by decide
  keep := fun h h' ⟨atZ, atI, ⟨a, b, atO⟩, h1, h2, hl1, hl2⟩ hk => ⟨hk _ _ atZ, hk _ _ atI, ⟨a, b, hk _ _ atO⟩, h1.at fun o e => hk _ o e, h2.at fun o e => hk _ o e, (zpart_tuple (prog := prog) (w := w) (it := i1)).src hl1 fun o e => hk _ o e, (zpart_tuple (prog := prog) (w := w) (it := i2)).src hl2 fun o e => hk _ o e⟩
  there := fun h ⟨atZ, atI, ⟨a, c, atO⟩, ⟨o1, h1, _⟩, ⟨o2, h2, _⟩, ⟨o3, hl1, _⟩, ⟨o4, hl2, _⟩⟩ b hb => by
    simp only [List.mem_cons, List.not_mem_nil, or_false] at hb
    rcases hb with rfl | rfl | rfl | rfl | rfl | rfl | rfl
    all_goals first | exact ⟨_, atZ⟩ | exact ⟨_, atI⟩ | exact ⟨_, atO⟩ | exact ⟨_, h1⟩ | exact ⟨_, h2⟩ | exact ⟨_, hl1⟩ | exact ⟨_, hl2⟩
  sub := fun b hb => by simp at hb ⊢; rcases hb with rfl | rfl | rfl | rfl <;> simp
  noKeys := fun A s Q E hA ok h => getAttrOr_miss_zip ok.1 rfl rfl rfl zip_no_keys (by decide +kernel) hA h
  iter := fun A s d Q E hA ⟨atZ, atI, ⟨a, b, atO⟩, h1, h2, hl1, hl2⟩ hd off h => by
    have p1 : ZPart prog w i1 l1 _ _ _ := zpart_tuple (items := xs)
    have p2 : ZPart prog w i2 l2 _ _ _ := zpart_tuple (items := ys)
    simp only [List.mem_cons, List.not_mem_nil, or_false, not_or] at off
    obtain ⟨dz, dTI, dTO, di1, di2, dl1, dl2⟩ := off
    refine wpAny_pyIter_zip atZ (h z [z, TO, i1, i2] (fun i h => IsPair h TI (.ref i1) (.ref i2) ∧ h.IsTupleIter i1 l1 i ∧ h.IsTupleIter i2 l2 i ∧ h.IsTuple l1 xs ∧ h.IsTuple l2 ys ∧
      ((IsZip h z TI TO .none ∧ ∃ a b, IsPair h TO a b) ∨ ∃ T f oT, IsZipHeld h z TI TO T f ∧ h.get? T = some oT ∧ T ≠ z ∧ T ≠ i1 ∧ T ≠ i2 ∧ T ≠ d)) s.heap s.toks ?_
      ⟨atI, h1, h2, hl1, hl2, .inl ⟨atZ, a, b, atO⟩⟩ (fun _ _ e => e) fun b hb => .inl hb)
    exact {
      off := fun inW => by
        simp only [List.mem_cons, List.not_mem_nil, or_false] at inW
        rcases inW with e | e | e | e
        · exact dz e
        · exact dTO e
        · exact di1 e
        · exact di2 e
      frame := fun i ha hb ⟨atI, h1, h2, hl1, hl2, atZ⟩ hk => by
        refine ⟨hk _ _ (Ne.symm dTI) atI, h1.at fun o e => hk _ o (Ne.symm di1) e, h2.at fun o e => hk _ o (Ne.symm di2) e, p1.src hl1 fun o e => hk _ o (Ne.symm dl1) e, p2.src hl2 fun o e => hk _ o (Ne.symm dl2) e, ?_⟩
        rcases atZ with ⟨atZ, a, b, atO⟩ | ⟨T, f, oT, atZ, isT, q1z, q2z, q3z, q4z⟩
        · exact .inl ⟨hk _ _ (Ne.symm dz) atZ, a, b, hk _ _ (Ne.symm dTO) atO⟩
        · exact .inr ⟨T, f, oT, hk _ _ (Ne.symm dz) atZ, hk _ _ q4z isT, q1z, q2z, q3z, q4z⟩
      item := fun i t Q1 E1 hi ⟨atI, h1, h2, hl1, hl2, atZ⟩ hds kOut => by
        have ex := Array.getElem?_eq_getElem (Nat.lt_of_lt_of_le hi (Nat.min_le_left xs.size ys.size))
        have ey := Array.getElem?_eq_getElem (Nat.lt_of_lt_of_le hi (Nat.min_le_right xs.size ys.size))
        have new : ∀ {c o}, t.heap.get? c = some o → t.heap.objs.size ≠ c := fun e => Nat.ne_of_gt (Heap.lt_size e)
        have n1 : t.heap.objs.size ≠ i1 := let ⟨_, e, _⟩ := h1; new e
        have n2 : t.heap.objs.size ≠ i2 := let ⟨_, e, _⟩ := h2; new e
        rcases atZ with ⟨atZ, a, b, atO⟩ | ⟨T, f, oT, atZ, isT, q1z, q2z, q3z, q4z⟩
        · refine pyNext_zipP_item p1 p2 D atZ atI atO h1 h2 hl1 hl2 ex ey fun h' q1 q2 q3 q4 q5 _ hk => ?_
          exact kOut t.heap.objs.size _ _ h' t.toks ⟨ex, ey⟩ (.inl ⟨_, q5, rfl, _, rfl⟩)
            ⟨hk _ _ D.TIz D.TITO D.TIi1 D.TIi2 atI, q3, q4, p1.src hl1 fun o e => hk _ o D.l1z D.l1TO D.l1i1 D.l1i2 e, p2.src hl2 fun o e => hk _ o D.l2z D.l2TO D.l2i1 D.l2i2 e, .inr ⟨t.heap.objs.size, false, _, q1, q5, new atZ, n1, n2, Nat.ne_of_gt hds⟩⟩
            fun c o hc e => hk c o (fun x => hc (by simp [x])) (fun x => hc (by simp [x])) (fun x => hc (by simp [x])) (fun x => hc (by simp [x])) e
        · refine pyNext_zipP_item_held p1 p2 D atZ isT atI h1 h2 hl1 hl2 ex ey fun h' q1 q3 q4 q5 _ hk => ?_
          exact kOut t.heap.objs.size _ _ h' t.toks ⟨ex, ey⟩ (.inl ⟨_, q5, rfl, _, rfl⟩)
            ⟨hk _ _ D.TIz D.TIi1 D.TIi2 atI, q3, q4, p1.src hl1 fun o e => hk _ o D.l1z D.l1i1 D.l1i2 e, p2.src hl2 fun o e => hk _ o D.l2z D.l2i1 D.l2i2 e, .inr ⟨T, true, oT, q1, hk _ _ q1z q2z q3z isT, q1z, q2z, q3z, q4z⟩⟩
            fun c o hc e => hk c o (fun x => hc (by simp [x])) (fun x => hc (by simp [x])) (fun x => hc (by simp [x])) e
      done := fun t Q1 E1 ⟨atI, h1, h2, hl1, hl2, atZ⟩ kOut => by
        have last : xs[min xs.size ys.size]? = none ∨ ys[min xs.size ys.size]? = none := by
          rcases Nat.le_total xs.size ys.size with h | h
          · exact .inl (Array.getElem?_eq_none (by rw [Nat.min_eq_left h]; exact Nat.le_refl _))
          · exact .inr (Array.getElem?_eq_none (by rw [Nat.min_eq_right h]; exact Nat.le_refl _))
        rcases atZ with ⟨atZ, a, b, atO⟩ | ⟨T, f, oT, atZ, isT, q1z, q2z, q3z, q4z⟩
        · exact pyNext_zipP_end hA p1 p2 D atZ atI atO h1 h2 hl1 hl2 last fun h' hk => kOut h' t.toks fun c o hc e => hk c o (fun x => hc (by simp [x])) (fun x => hc (by simp [x])) (fun x => hc (by simp [x])) (fun x => hc (by simp [x])) e
        · exact pyNext_zipP_end_held hA p1 p2 D atZ isT atI h1 h2 hl1 hl2 last fun h' hk => kOut h' t.toks fun c o hc e => hk c o (fun x => hc (by simp [x])) (fun x => hc (by simp [x])) (fun x => hc (by simp [x])) e }
/-- dict(zip(t, u)), the keys ints or texts -/
def rDictZip (K : PySem.W.Frag) : List V → Hp → VK → Prop := fun vs H Q => ∃ (a b : Addr) (ks : List Key) (ys : List V), vs = [.ref a, .ref b] ∧ SqT K H a (ks.map kV) ∧ SqT K H b ys ∧ ys.length = ks.length ∧ ∀ p, H p = none → Q (.ref p) (upd H p (.dK (mergeK [] (ks.zip ys))))
def tDictZip (K : PySem.W.Frag) (ta : TA) : TE := fun σ H Q => ta σ H fun vs H1 => rDictZip K vs H1 Q
theorem kv_zip {ks : List Key} {ys : List V} {ws : List Value} (r : Vals ys ws) (l : ys.length = ks.length) : KV (ks.zip ys) (ks.zip ws) := by
  unfold KV
  induction r generalizing ks with
  | nil =>
    rw [List.zip_nil_right, List.zip_nil_right]
    exact .nil
  | cons h t ih =>
    cases ks with
    | nil => cases l
    | cons k ks => exact .cons ⟨rfl, h⟩ (ih (by simpa using l))
theorem pe_dictZip {X : Cx} {e e2 : Expr} {ta : TA} {p p2 q pos : Pos} (hc : X.calm = true) (hg : Gl X "dict") (inW : X.mg "dict" = none) (hg2 : Gl X "zip") (hm2 : X.mg "zip" = none) (ha : PA X [e, e2] ta)
    (hs : starEach [.Call (.Name "zip" p2) [e, e2] [] q] X.env = (false, eval (.Call (.Name "zip" p2) [e, e2] [] q) X.env) :: starEach [] X.env := by rfl)
    (star2 : starEach [e, e2] X.env = (false, eval e X.env) :: starEach [e2] X.env := by rfl) (plain1 : (backTo q (starEach [e2] X.env)).any (·.1) = false := by rfl) :
    PE X (.Call (.Name "dict" p) [.Call (.Name "zip" p2) [e, e2] [] q] [] pos) (tDictZip X.K ta) := by
  refine ⟨fun pins s σ H R I h => ?_⟩
  refine Call_ (ld_blt I hg inW PyProof.Rows.boot_dict ?_)
  refine PyProof.Rows.callWith_type1 ?_ hs rfl
  rw [hs]
  show wpAny _ _ (spliced ((false, eval (.Call (.Name "zip" p2) [e, e2] [] q) X.env) :: backTo pos (starEach [] X.env))) _ _ s
  refine Calls.spliced_cons ?_
  refine Call_ (ld_blt I hg2 hm2 PyProof.Rows.boot_zip (PyProof.Rows.callWith_type1 (thn (ha.run q pins s σ H _ I h) fun us t ⟨vs, H1, J, rel, w⟩ => ?_) star2 plain1))
  obtain ⟨a, b, ks, ys, ev, hx, hy, same, go⟩ := w
  subst ev
  obtain ⟨u1, u2, rfl, q1z, q2z⟩ := vals2 rel
  obtain rfl : u1 = Value.ref a := q1z
  obtain rfl : u2 = Value.ref b := q2z
  obtain ⟨its, rv, t1, few⟩ := J.tuple hx
  obtain ⟨its2, rv2, t2, _⟩ := J.tuple hy
  have l1 := rv.length
  have l2 := rv2.length
  rw [List.length_map] at l1 few
  have la : a < t.heap.objs.size := let ⟨_, z, _⟩ := id t1; Heap.lt_size z
  have lb : b < t.heap.objs.size := let ⟨_, z, _⟩ := id t2; Heap.lt_size z
  refine call_zipT (show t.heap.IsTuple a its.toArray from t1) (show t.heap.IsTuple b its2.toArray from t2) fun h' zz ti to j1 j2 sz hk => ?_
  refine Calls.spliced_nil ?_
  have arg := pairArg_zipT (prog := X.prog) (w := X.w) _ _ _ _ _ a b (PySem.W.ktu_apart t.heap.objs.size a b la lb) its.toArray its2.toArray
  refine PySem.call_dict_pairs (s := { t with heap := h' }) (knd := mixKind X.prog X.w) (kvs := ks.zip its2) arg (J.ok.hd hc) ⟨zz, ti, ⟨_, _, to⟩, j1, j2, (zpart_tuple (prog := X.prog) (w := X.w) (it := a)).src t1 fun o e => hk _ o e, (zpart_tuple (prog := X.prog) (w := X.w) (it := a)).src t2 fun o e => hk _ o e⟩ ⟨?_, fun i key v q => ?_⟩ ?_ fun h2 tk hd kp => ?_
  · rw [List.length_zip, List.size_toArray, List.size_toArray]
    omega
  · obtain ⟨q1, q2⟩ := q
    have q1 : its[i]? = some key := by simpa using q1
    have q2 : its2[i]? = some v := by simpa using q2
    have lt : i < ks.length := by
      have := (List.getElem?_eq_some_iff.mp q1).1
      omega
    refine ⟨ks[i], by rw [List.getElem?_zip_eq_some]; exact ⟨List.getElem?_eq_getElem lt, q2⟩, ?_⟩
    obtain ⟨u, hu, ru⟩ := rv.get (show (ks.map kV)[i]? = some (kV ks[i]) by rw [List.getElem?_map, List.getElem?_eq_getElem lt]; rfl)
    rw [q1] at hu
    cases hu
    exact kV_is ru
  · rw [List.size_toArray, List.size_toArray]
    omega
  · have low : ∀ c o, t.heap.get? c = some o → h2.get? c = some o := fun c o e => kp c o (fun m => by
      have lt := Heap.lt_size e
      simp only [List.mem_cons, List.not_mem_nil, or_false] at m
      rcases m with m | m | m | m
      · exact absurd lt (by rw [m]; exact Nat.not_lt.mpr (Nat.le_add_right _ 4))
      · exact absurd lt (by rw [m]; exact Nat.not_lt.mpr (Nat.le_add_right _ 3))
      · exact absurd lt (by rw [m]; exact Nat.lt_irrefl _)
      · exact absurd lt (by rw [m]; exact Nat.not_lt.mpr (Nat.le_add_right _ 1))) (hk c o e)
    have nS : t.heap.objs.size ≤ h'.objs.size := by rw [sz]; omega
    have room : (mergeK [] (ks.zip ys)).length ≤ sizeLine := by
      have := length_mergeK (ks.zip ys) []
      rw [List.length_zip] at this
      simp only [List.length_nil] at this
      omega
    have sys : (h'.objs.size == sysModules) = false := beq_eq_false_iff_ne.mpr (Nat.ne_of_gt (Nat.lt_of_lt_of_le J.big nS))
    exact ⟨.ref h'.objs.size, upd H1 h'.objs.size (.dK (mergeK [] (ks.zip ys))), J.laid (t' := tk) low nS (show ObjOk X.prog X.w _ _ _ (.dK (mergeK [] (ks.zip ys))) from ⟨room, sys, merged [] (ks.zip its2), KV.merge (kv_zip rv2 same) .nil, hd⟩), rfl, go _ (J.hok.fresh nS)⟩
end RZ
set_option Elab.async false
set_option linter.all false
set_option maxRecDepth 100000
set_option maxHeartbeats 4000000
/-! dict(zip(t, xs)) of a tuple and a list -/
namespace RZ
open PySem PySem.Spec PyProof.Rows L2
theorem zpart_list {prog : Program} {w : World} {it l : Addr} {items : Array Value} : ZPart prog w it l (fun k h => h.IsListIter it l k) (fun h => h.IsList l items) (fun k => items[k]?) where
  at_ := fun a k => a.at k
  src := fun ⟨o, e, r⟩ k => ⟨o, k o e, r⟩
  obj := fun ⟨o, e, _, d⟩ => ⟨o, e, fun v q => by rw [d] at q; cases q⟩
  item := fun a b c h => wpAny_nextOf_list_item a b c h
  fin := fun calm0 a b c h => wpAny_nextOf_list_end calm0 a b c h
abbrev itL (l : Addr) : Obj := { cls := .type "list_iterator", data := .fields #[.ref l, .int 0 0] }
theorem meets_zipTL (l d : Addr) (xs ys : Array Value) :
    Meets (Builtin.«zip.__new__» ⟨[.type "zip", .ref l, .ref d], []⟩) (fun _ R s => (s.heap.IsTuple l xs ∧ s.heap.IsList d ys) ∧
      R (.ok (.ret (.ref (zipAddr s.heap (itT l) (itL d))))) { s with heap := zipHeap s.heap (itT l) (itL d) }) :=
  .of_wp fun prog w A R s h => by
    obtain ⟨hp, gs, dr, tk, os⟩ := s
    obtain ⟨⟨hl, hd⟩, h⟩ := h
    have hsub := sub_zip
    have hL : Heap.IsTuple (Shared.heap ⟨hp, gs, dr, tk, os⟩) l xs := hl
    have hD : Heap.IsList (Shared.heap ⟨hp.push (itT l), gs, dr, tk, os⟩) d ys := Heap.IsList.push hd _
    wp_walk using wpAny_pyIter_tuple hL, wpAny_pyIter_list hD
    exact ⟨_, rfl, h⟩
/-- the argument of dict: a zip of a tuple and a list -/
theorem pairArg_zipTL {prog : Program} {w : World} (z TI TO i1 i2 l1 l2 : Addr) (D : ZipApart z TI TO i1 i2 l1 l2) (xs ys : Array Value) :
    PairArg prog w "zip" z [z, TI, TO, i1, i2, l1, l2] [z, TO, i1, i2] (min xs.size ys.size) (fun i k v => xs[i]? = some k ∧ ys[i]? = some v)
      (fun h => IsZip h z TI TO .none ∧ IsPair h TI (.ref i1) (.ref i2) ∧ (∃ a b, IsPair h TO a b) ∧ h.IsTupleIter i1 l1 0 ∧ h.IsListIter i2 l2 0 ∧ h.IsTuple l1 xs ∧ h.IsList l2 ys) where
  type := fun s ok => ⟨_, ok.1, rfl⟩
  notDict := by decide
  keep := fun h h' ⟨atZ, atI, ⟨a, b, atO⟩, h1, h2, hl1, hl2⟩ hk => ⟨hk _ _ atZ, hk _ _ atI, ⟨a, b, hk _ _ atO⟩, h1.at fun o e => hk _ o e, h2.at fun o e => hk _ o e, (zpart_tuple (prog := prog) (w := w) (it := i1)).src hl1 fun o e => hk _ o e, (zpart_list (prog := prog) (w := w) (it := i2)).src hl2 fun o e => hk _ o e⟩
  there := fun h ⟨atZ, atI, ⟨a, c, atO⟩, ⟨o1, h1, _⟩, ⟨o2, h2, _⟩, ⟨o3, hl1, _⟩, ⟨o4, hl2, _⟩⟩ b hb => by
    simp only [List.mem_cons, List.not_mem_nil, or_false] at hb
    rcases hb with rfl | rfl | rfl | rfl | rfl | rfl | rfl
    all_goals first | exact ⟨_, atZ⟩ | exact ⟨_, atI⟩ | exact ⟨_, atO⟩ | exact ⟨_, h1⟩ | exact ⟨_, h2⟩ | exact ⟨_, hl1⟩ | exact ⟨_, hl2⟩
  sub := fun b hb => by simp at hb ⊢; rcases hb with rfl | rfl | rfl | rfl <;> simp
  noKeys := fun A s Q E hA ok h => getAttrOr_miss_zip ok.1 rfl rfl rfl zip_no_keys (by decide +kernel) hA h
  iter := fun A s d Q E hA ⟨atZ, atI, ⟨a, b, atO⟩, h1, h2, hl1, hl2⟩ hd off h => by
    have p1 : ZPart prog w i1 l1 _ _ _ := zpart_tuple (items := xs)
    have p2 : ZPart prog w i2 l2 _ _ _ := zpart_list (items := ys)
    simp only [List.mem_cons, List.not_mem_nil, or_false, not_or] at off
    obtain ⟨dz, dTI, dTO, di1, di2, dl1, dl2⟩ := off
    refine wpAny_pyIter_zip atZ (h z [z, TO, i1, i2] (fun i h => IsPair h TI (.ref i1) (.ref i2) ∧ h.IsTupleIter i1 l1 i ∧ h.IsListIter i2 l2 i ∧ h.IsTuple l1 xs ∧ h.IsList l2 ys ∧
      ((IsZip h z TI TO .none ∧ ∃ a b, IsPair h TO a b) ∨ ∃ T f oT, IsZipHeld h z TI TO T f ∧ h.get? T = some oT ∧ T ≠ z ∧ T ≠ i1 ∧ T ≠ i2 ∧ T ≠ d)) s.heap s.toks ?_
      ⟨atI, h1, h2, hl1, hl2, .inl ⟨atZ, a, b, atO⟩⟩ (fun _ _ e => e) fun b hb => .inl hb)
    exact {
      off := fun inW => by
        simp only [List.mem_cons, List.not_mem_nil, or_false] at inW
        rcases inW with e | e | e | e
        · exact dz e
        · exact dTO e
        · exact di1 e
        · exact di2 e
      frame := fun i ha hb ⟨atI, h1, h2, hl1, hl2, atZ⟩ hk => by
        refine ⟨hk _ _ (Ne.symm dTI) atI, h1.at fun o e => hk _ o (Ne.symm di1) e, h2.at fun o e => hk _ o (Ne.symm di2) e, p1.src hl1 fun o e => hk _ o (Ne.symm dl1) e, p2.src hl2 fun o e => hk _ o (Ne.symm dl2) e, ?_⟩
        rcases atZ with ⟨atZ, a, b, atO⟩ | ⟨T, f, oT, atZ, isT, q1z, q2z, q3z, q4z⟩
        · exact .inl ⟨hk _ _ (Ne.symm dz) atZ, a, b, hk _ _ (Ne.symm dTO) atO⟩
        · exact .inr ⟨T, f, oT, hk _ _ (Ne.symm dz) atZ, hk _ _ q4z isT, q1z, q2z, q3z, q4z⟩
      item := fun i t Q1 E1 hi ⟨atI, h1, h2, hl1, hl2, atZ⟩ hds kOut => by
        have ex := Array.getElem?_eq_getElem (Nat.lt_of_lt_of_le hi (Nat.min_le_left xs.size ys.size))
        have ey := Array.getElem?_eq_getElem (Nat.lt_of_lt_of_le hi (Nat.min_le_right xs.size ys.size))
        have new : ∀ {c o}, t.heap.get? c = some o → t.heap.objs.size ≠ c := fun e => Nat.ne_of_gt (Heap.lt_size e)
        have n1 : t.heap.objs.size ≠ i1 := let ⟨_, e, _⟩ := h1; new e
        have n2 : t.heap.objs.size ≠ i2 := let ⟨_, e, _⟩ := h2; new e
        rcases atZ with ⟨atZ, a, b, atO⟩ | ⟨T, f, oT, atZ, isT, q1z, q2z, q3z, q4z⟩
        · refine pyNext_zipP_item p1 p2 D atZ atI atO h1 h2 hl1 hl2 ex ey fun h' q1 q2 q3 q4 q5 _ hk => ?_
          exact kOut t.heap.objs.size _ _ h' t.toks ⟨ex, ey⟩ (.inl ⟨_, q5, rfl, _, rfl⟩)
            ⟨hk _ _ D.TIz D.TITO D.TIi1 D.TIi2 atI, q3, q4, p1.src hl1 fun o e => hk _ o D.l1z D.l1TO D.l1i1 D.l1i2 e, p2.src hl2 fun o e => hk _ o D.l2z D.l2TO D.l2i1 D.l2i2 e, .inr ⟨t.heap.objs.size, false, _, q1, q5, new atZ, n1, n2, Nat.ne_of_gt hds⟩⟩
            fun c o hc e => hk c o (fun x => hc (by simp [x])) (fun x => hc (by simp [x])) (fun x => hc (by simp [x])) (fun x => hc (by simp [x])) e
        · refine pyNext_zipP_item_held p1 p2 D atZ isT atI h1 h2 hl1 hl2 ex ey fun h' q1 q3 q4 q5 _ hk => ?_
          exact kOut t.heap.objs.size _ _ h' t.toks ⟨ex, ey⟩ (.inl ⟨_, q5, rfl, _, rfl⟩)
            ⟨hk _ _ D.TIz D.TIi1 D.TIi2 atI, q3, q4, p1.src hl1 fun o e => hk _ o D.l1z D.l1i1 D.l1i2 e, p2.src hl2 fun o e => hk _ o D.l2z D.l2i1 D.l2i2 e, .inr ⟨T, true, oT, q1, hk _ _ q1z q2z q3z isT, q1z, q2z, q3z, q4z⟩⟩
            fun c o hc e => hk c o (fun x => hc (by simp [x])) (fun x => hc (by simp [x])) (fun x => hc (by simp [x])) e
      done := fun t Q1 E1 ⟨atI, h1, h2, hl1, hl2, atZ⟩ kOut => by
        have last : xs[min xs.size ys.size]? = none ∨ ys[min xs.size ys.size]? = none := by
          rcases Nat.le_total xs.size ys.size with h | h
          · exact .inl (Array.getElem?_eq_none (by rw [Nat.min_eq_left h]; exact Nat.le_refl _))
          · exact .inr (Array.getElem?_eq_none (by rw [Nat.min_eq_right h]; exact Nat.le_refl _))
        rcases atZ with ⟨atZ, a, b, atO⟩ | ⟨T, f, oT, atZ, isT, q1z, q2z, q3z, q4z⟩
        · exact pyNext_zipP_end hA p1 p2 D atZ atI atO h1 h2 hl1 hl2 last fun h' hk => kOut h' t.toks fun c o hc e => hk c o (fun x => hc (by simp [x])) (fun x => hc (by simp [x])) (fun x => hc (by simp [x])) (fun x => hc (by simp [x])) e
        · exact pyNext_zipP_end_held hA p1 p2 D atZ isT atI h1 h2 hl1 hl2 last fun h' hk => kOut h' t.toks fun c o hc e => hk c o (fun x => hc (by simp [x])) (fun x => hc (by simp [x])) (fun x => hc (by simp [x])) e }
/-- dict(zip(t, xs)) of a tuple and a list, the keys ints or texts -/
def rDictZipL (K : PySem.W.Frag) : List V → Hp → VK → Prop := fun vs H Q => ∃ (a b : Addr) (ks : List Key) (ys : List V), vs = [.ref a, .ref b] ∧ SqT K H a (ks.map kV) ∧ SqL K H b ys ∧ ys.length = ks.length ∧ ∀ p, H p = none → Q (.ref p) (upd H p (.dK (mergeK [] (ks.zip ys))))
def tDictZipL (K : PySem.W.Frag) (ta : TA) : TE := fun σ H Q => ta σ H fun vs H1 => rDictZipL K vs H1 Q
theorem pe_dictZipL {X : Cx} {e e2 : Expr} {ta : TA} {p p2 q pos : Pos} (hc : X.calm = true) (hg : Gl X "dict") (inW : X.mg "dict" = none) (hg2 : Gl X "zip") (hm2 : X.mg "zip" = none) (ha : PA X [e, e2] ta)
    (hs : starEach [.Call (.Name "zip" p2) [e, e2] [] q] X.env = (false, eval (.Call (.Name "zip" p2) [e, e2] [] q) X.env) :: starEach [] X.env := by rfl)
    (star2 : starEach [e, e2] X.env = (false, eval e X.env) :: starEach [e2] X.env := by rfl) (plain1 : (backTo q (starEach [e2] X.env)).any (·.1) = false := by rfl) :
    PE X (.Call (.Name "dict" p) [.Call (.Name "zip" p2) [e, e2] [] q] [] pos) (tDictZipL X.K ta) := by
  refine ⟨fun pins s σ H R I h => ?_⟩
  refine Call_ (ld_blt I hg inW PyProof.Rows.boot_dict ?_)
  refine PyProof.Rows.callWith_type1 ?_ hs rfl
  rw [hs]
  show wpAny _ _ (spliced ((false, eval (.Call (.Name "zip" p2) [e, e2] [] q) X.env) :: backTo pos (starEach [] X.env))) _ _ s
  refine Calls.spliced_cons ?_
  refine Call_ (ld_blt I hg2 hm2 PyProof.Rows.boot_zip (PyProof.Rows.callWith_type1 (thn (ha.run q pins s σ H _ I h) fun us t ⟨vs, H1, J, rel, w⟩ => ?_) star2 plain1))
  obtain ⟨a, b, ks, ys, ev, hx, hy, same, go⟩ := w
  subst ev
  obtain ⟨u1, u2, rfl, q1z, q2z⟩ := vals2 rel
  obtain rfl : u1 = Value.ref a := q1z
  obtain rfl : u2 = Value.ref b := q2z
  obtain ⟨its, rv, t1, few⟩ := J.tuple hx
  obtain ⟨its2, rv2, t2, _⟩ := J.list hy
  have l1 := rv.length
  have l2 := rv2.length
  rw [List.length_map] at l1 few
  have la : a < t.heap.objs.size := let ⟨_, z, _⟩ := id t1; Heap.lt_size z
  have lb : b < t.heap.objs.size := let ⟨_, z, _⟩ := id t2.isList; Heap.lt_size z
  refine call_zipO (o1 := itT a) (o2 := itL b) rfl rfl (meets_zipTL a b its.toArray its2.toArray) ⟨show t.heap.IsTuple a its.toArray from t1, show t.heap.IsList b its2.toArray from t2.isList⟩ fun h' zz ti to j1 j2 hk => ?_
  refine Calls.spliced_nil ?_
  have arg := pairArg_zipTL (prog := X.prog) (w := X.w) _ _ _ _ _ a b (PySem.W.ktu_apart t.heap.objs.size a b la lb) its.toArray its2.toArray
  refine PySem.call_dict_pairs (s := { t with heap := h' }) (knd := mixKind X.prog X.w) (kvs := ks.zip its2) arg (J.ok.hd hc) ⟨zz, ti, ⟨_, _, to⟩, ⟨_, j1, rfl, rfl⟩, ⟨_, j2, rfl, rfl⟩, (zpart_tuple (prog := X.prog) (w := X.w) (it := a)).src t1 fun o e => hk _ o e, (zpart_list (prog := X.prog) (w := X.w) (it := a)).src t2.isList fun o e => hk _ o e⟩ ⟨?_, fun i key v q => ?_⟩ ?_ fun h2 tk hd kp => ?_
  · rw [List.length_zip, List.size_toArray, List.size_toArray]
    omega
  · obtain ⟨q1, q2⟩ := q
    have q1 : its[i]? = some key := by simpa using q1
    have q2 : its2[i]? = some v := by simpa using q2
    have lt : i < ks.length := by
      have := (List.getElem?_eq_some_iff.mp q1).1
      omega
    refine ⟨ks[i], by rw [List.getElem?_zip_eq_some]; exact ⟨List.getElem?_eq_getElem lt, q2⟩, ?_⟩
    obtain ⟨u, hu, ru⟩ := rv.get (show (ks.map kV)[i]? = some (kV ks[i]) by rw [List.getElem?_map, List.getElem?_eq_getElem lt]; rfl)
    rw [q1] at hu
    cases hu
    exact kV_is ru
  · rw [List.size_toArray, List.size_toArray]
    omega
  · have low : ∀ c o, t.heap.get? c = some o → h2.get? c = some o := fun c o e => kp c o (fun m => by
      have lt := Heap.lt_size e
      simp only [List.mem_cons, List.not_mem_nil, or_false] at m
      rcases m with m | m | m | m
      · exact absurd lt (by rw [m]; exact Nat.not_lt.mpr (Nat.le_add_right _ 4))
      · exact absurd lt (by rw [m]; exact Nat.not_lt.mpr (Nat.le_add_right _ 3))
      · exact absurd lt (by rw [m]; exact Nat.lt_irrefl _)
      · exact absurd lt (by rw [m]; exact Nat.not_lt.mpr (Nat.le_add_right _ 1))) (hk c o e)
    have nS : t.heap.objs.size ≤ h'.objs.size := by have q : t.heap.objs.size + 4 < h'.objs.size := Heap.lt_size zz; omega
    have room : (mergeK [] (ks.zip ys)).length ≤ sizeLine := by
      have := length_mergeK (ks.zip ys) []
      rw [List.length_zip] at this
      simp only [List.length_nil] at this
      omega
    have sys : (h'.objs.size == sysModules) = false := beq_eq_false_iff_ne.mpr (Nat.ne_of_gt (Nat.lt_of_lt_of_le J.big nS))
    exact ⟨.ref h'.objs.size, upd H1 h'.objs.size (.dK (mergeK [] (ks.zip ys))), J.laid (t' := tk) low nS (show ObjOk X.prog X.w _ _ _ (.dK (mergeK [] (ks.zip ys))) from ⟨room, sys, merged [] (ks.zip its2), KV.merge (kv_zip rv2 same) .nil, hd⟩), rfl, go _ (J.hok.fresh nS)⟩
end RZ
set_option Elab.async false
set_option linter.all false
set_option maxRecDepth 100000
set_option maxHeartbeats 4000000
/-! A list comprehension over a zip with one name for the pair: whoever has the name keeps the pair, so zip lays a new one at each turn. -/
namespace Q
open PySem PySem.Spec PyProof.Rows L2 RZ
/-- tracked tuples stay -/
def Tups (H H' : Hp) : Prop := ∀ b xs, H b = some (.tup xs) → H' b = some (.tup xs)
/-- an iterator that looks at the first thing that it has handed out: T, if any -/
structure TurnZ (P : Program) (w : World) (K : PySem.W.Frag) (tg : Expr) (J : It) (fp : List Addr) (it : Addr) (tn : Option Addr → Nat → Heap → Prop) : Prop where
  obj : ∀ T i h, tn T i h → ∀ b ∈ fp, ∃ o, h.get? b = some o ∧ ∀ v, o.data ≠ .cell v
  keep : ∀ T i h h', tn T i h → (∀ b ∈ fp, ∀ o, h.get? b = some o → h'.get? b = some o) → tn T i h'
  item : ∀ (X : Cx), X.prog = P → X.w = w → X.K = K → X.calm = true → ∀ (T : Option Addr) (i : Nat) (pins : List (Addr × Obj)) (s : Shared) (σ : L2.St) (H : Hp) (E : Value → Shared → Prop), Inv X pins σ H s → (∀ b ∈ fp, FpOk X pins H b) → tn T i s.heap → (∀ t, T = some t → ∃ o, s.heap.get? t = some o) → J.go i H →
    wpAny (model P w) X.A (pyNext (.ref it)) (fun r s1 => ∃ u, r = some u ∧
      wpAny (model P w) X.A (letOwnedTupleGo tg (.ref it) u) (fun _ s2 => ∃ t H', Inv X pins σ H' s2 ∧ u = Value.ref t ∧ J.yld i H (.ref t) H' ∧ (∃ xs, H' t = some (.tup xs)) ∧ Tups H H' ∧ tn (some (T.getD t)) (i + 1) s2.heap ∧ ∀ b ∈ fp, H' b = none) E s1) E s
  done : ∀ (X : Cx), X.prog = P → X.w = w → X.K = K → X.calm = true → ∀ (T : Option Addr) (i : Nat) (pins : List (Addr × Obj)) (s : Shared) (σ : L2.St) (H : Hp) (E : Value → Shared → Prop), Inv X pins σ H s → (∀ b ∈ fp, FpOk X pins H b) → tn T i s.heap → (∀ t, T = some t → ∃ o, s.heap.get? t = some o) → J.stop i H →
    wpAny (model P w) X.A (pyNext (.ref it)) (fun r s1 => r = none ∧ Inv X pins σ H s1) E s
  self : ∀ (A : Around) (i : Nat) (s : Shared) (Q : Value → Shared → Prop) (E : Value → Shared → Prop), tn none i s.heap → Q (.ref it) s → wpAny (model P w) A (pyIter (.ref it)) Q E s
def PIEZ (X : Cx) (pins : List (Addr × Obj)) (σ : L2.St) (tg : Expr) (R : It → Hp → Prop) (itv : Value) (s2 : Shared) : Prop :=
  ∃ (it : Addr) (fp : List Addr) (tn : Option Addr → Nat → Heap → Prop) (J : It) (H' : Hp), itv = .ref it ∧ Inv X pins σ H' s2 ∧ TurnZ X.prog X.w X.K tg J fp it tn ∧ tn none 0 s2.heap ∧ (∀ b ∈ fp, FpOk X pins H' b) ∧ R J H'
structure PIZ (X : Cx) (tg iter : Expr) (wi : TI) : Prop where
  run : ∀ (pins : List (Addr × Obj)) (s : Shared) (σ : L2.St) (H : Hp) (R : It → Hp → Prop), Inv X pins σ H s → wi σ H R →
    wpAny (model X.prog X.w) X.A (eval iter X.env) (fun v s1 => wpAny (model X.prog X.w) X.A (pyIter v) (PIEZ X pins σ tg R) X.xe s1) X.xe s
/-- the zip of two tuples, its pair out or not -/
def ZipSt (z TI TO i1 i2 a b : Addr) (T : Option Addr) (i : Nat) (h : Heap) : Prop :=
  IsPair h TI (.ref i1) (.ref i2) ∧ (∃ x y, IsPair h TO x y) ∧ h.IsTupleIter i1 a i ∧ h.IsTupleIter i2 b i ∧ match T with
    | none => IsZip h z TI TO .none
    | some t => ∃ f, IsZipHeld h z TI TO t f
theorem turnZ_zipT {P : Program} {w : World} {K : PySem.W.Frag} {y : Str} {py : Pos} {a b z TI TO i1 i2 : Addr} (D : ZipApart z TI TO i1 i2 a b) : TurnZ P w K (.Name y py) (ItzT K a b) [z, TI, TO, i1, i2] z (ZipSt z TI TO i1 i2 a b) where
  obj := fun T i h st c hc => by
    obtain ⟨hTI, ⟨x, y, hTO⟩, ⟨o1, e1, _, d1⟩, ⟨o2, e2, _, d2⟩, hz⟩ := st
    have e' : c = z ∨ c = TI ∨ c = TO ∨ c = i1 ∨ c = i2 := by simpa using hc
    rcases e' with q | q | q | q | q
    · rw [q]
      cases T with
      | none => exact ⟨_, hz, fun v q => nomatch q⟩
      | some t =>
        obtain ⟨f, hz⟩ := hz
        exact ⟨_, hz, fun v q => nomatch q⟩
    · rw [q]; exact ⟨_, hTI, fun v q => nomatch q⟩
    · rw [q]; exact ⟨_, hTO, fun v q => nomatch q⟩
    · rw [q]; exact ⟨o1, e1, fun v q => by rw [d1] at q; cases q⟩
    · rw [q]; exact ⟨o2, e2, fun v q => by rw [d2] at q; cases q⟩
  keep := fun T i h h' st k => by
    obtain ⟨hTI, ⟨x, y, hTO⟩, h1, h2, hz⟩ := st
    refine ⟨k TI (by simp) _ hTI, ⟨x, y, k TO (by simp) _ hTO⟩, h1.at fun o q => k i1 (by simp) o q, h2.at fun o q => k i2 (by simp) o q, ?_⟩
    cases T with
    | none => exact k z (by simp) _ hz
    | some t =>
      obtain ⟨f, hz⟩ := hz
      exact ⟨f, k z (by simp) _ hz⟩
  item := by
    intro X hP hw hK hc T i pins s σ H E I hf st out hg
    subst hP hw hK
    obtain ⟨hTI, ⟨x0, y0, hTO⟩, h1, h2, hz⟩ := st
    obtain ⟨xs, ys, x, y, hqx, hqy, hx, hy⟩ := hg
    obtain ⟨its, rv, p, _⟩ := I.tuple hqx
    obtain ⟨its2, rv2, p2, _⟩ := I.tuple hqy
    obtain ⟨u, hu, ru⟩ := rv.get hx
    obtain ⟨u2, hu2, ru2⟩ := rv2.get hy
    have q1 : ZPart X.prog X.w i1 a _ _ _ := zpart_tuple (items := its.toArray)
    have q2 : ZPart X.prog X.w i2 b _ _ _ := zpart_tuple (items := its2.toArray)
    have lts : ∀ c ∈ [z, TI, TO, i1, i2], c < s.heap.objs.size := fun c hcm => by
      have e' : c = z ∨ c = TI ∨ c = TO ∨ c = i1 ∨ c = i2 := by simpa using hcm
      rcases e' with q | q | q | q | q
      · rw [q]
        cases T with
        | none => exact Heap.lt_size hz
        | some t =>
          obtain ⟨f, hz⟩ := hz
          exact Heap.lt_size hz
      · rw [q]; exact Heap.lt_size hTI
      · rw [q]; exact Heap.lt_size hTO
      · rw [q]; obtain ⟨_, e1, _⟩ := h1; exact Heap.lt_size e1
      · rw [q]; obtain ⟨_, e2, _⟩ := h2; exact Heap.lt_size e2
    have fin : ∀ (h' : Heap) (f : Bool), IsZipHeld h' z TI TO (T.getD s.heap.objs.size) f → (∃ x y, IsPair h' TO x y) → h'.IsTupleIter i1 a (i + 1) → h'.IsTupleIter i2 b (i + 1) → IsPair h' s.heap.objs.size u u2 →
        (∀ d o, d ≠ z → d ≠ TO → d ≠ i1 → d ≠ i2 → s.heap.get? d = some o → h'.get? d = some o) →
        ∃ v, some (Value.ref s.heap.objs.size) = some v ∧ wpAny (model X.prog X.w) X.A (letOwnedTupleGo (.Name ‹Str› ‹Pos›) (.ref z) v) (fun _ s2 => ∃ t H', Inv X pins σ H' s2 ∧ v = Value.ref t ∧ (ItzT X.K a b).yld i H (.ref t) H' ∧ (∃ xs, H' t = some (.tup xs)) ∧ Tups H H' ∧ ZipSt z TI TO i1 i2 a b (some (T.getD t)) (i + 1) s2.heap ∧ ∀ b ∈ [z, TI, TO, i1, i2], H' b = none) E { s with heap := h' } := by
      intro h' f zh to j1 j2 hT hk
      refine ⟨_, rfl, ?_⟩
      unfold letOwnedTupleGo
      refine wpAny_pure ?_
      have new : ObjOk X.prog X.w (upd H s.heap.objs.size (.tup [x, y])) h' s.heap.objs.size (.tup [x, y]) :=
        ⟨by show 2 ≤ sizeLine; decide, [u, u2], .cons ru (.cons ru2 .nil), ⟨_, hT, rfl, _, rfl⟩⟩
      have I1 : Inv X pins σ (upd H s.heap.objs.size (.tup [x, y])) { s with heap := h' } :=
        I.turnedNew (t' := s.toks) (ch := [z, TI, TO, i1, i2]) (fun c o hb q => hk c o (fun q' => hb (by simp [q'])) (fun q' => hb (by simp [q'])) (fun q' => hb (by simp [q'])) (fun q' => hb (by simp [q'])) q) hf (Nat.le_refl _) new
      refine ⟨s.heap.objs.size, _, I1, rfl, ⟨_, x, y, rfl, I.hok.fresh (Nat.le_refl _), rfl, fun l hl => by rw [I.tuple_inj hl hqx]; exact hx, fun l hl => by rw [I.tuple_inj hl hqy]; exact hy⟩, ⟨_, upd_same⟩, fun b xs e => by rw [upd_ne (ne_of_none e (I.hok.fresh (Nat.le_refl _)))]; exact e, ⟨hk _ _ D.TIz D.TITO D.TIi1 D.TIi2 hTI, to, j1, j2, f, zh⟩, fun c hcm => ?_⟩
      rw [upd_ne (Nat.ne_of_lt (lts c hcm))]
      exact (hf c hcm).1
    cases T with
    | none => exact pyNext_zipP_item q1 q2 D hz hTI hTO h1 h2 p p2 (x := u) (y := u2) (by simpa using hu) (by simpa using hu2) fun h' z' to' j1 j2 hT hsz hk => fin h' false z' ⟨_, _, to'⟩ j1 j2 hT hk
    | some t =>
      obtain ⟨f, hz⟩ := hz
      obtain ⟨oT, hoT⟩ := out t rfl
      exact pyNext_zipP_item_held q1 q2 D hz hoT hTI h1 h2 p p2 (x := u) (y := u2) (by simpa using hu) (by simpa using hu2) fun h' z' j1 j2 hT hsz hk => fin h' true z' ⟨x0, y0, hk _ _ D.TOz D.TOi1 D.TOi2 hTO⟩ j1 j2 hT fun d o n1 _ n3 n4 e => hk d o n1 n3 n4 e
  done := by
    intro X hP hw hK hc T i pins s σ H E I hf st out hg
    subst hP hw hK
    obtain ⟨hTI, ⟨x0, y0, hTO⟩, h1, h2, hz⟩ := st
    obtain ⟨xs, ys, hqx, hqy, hend⟩ := hg
    obtain ⟨its, rv, p, _⟩ := I.tuple hqx
    obtain ⟨its2, rv2, p2, _⟩ := I.tuple hqy
    have l1 := rv.length
    have l2 := rv2.length
    have q1 : ZPart X.prog X.w i1 a _ _ _ := zpart_tuple (items := its.toArray)
    have q2 : ZPart X.prog X.w i2 b _ _ _ := zpart_tuple (items := its2.toArray)
    have he : its.toArray[i]? = none ∨ its2.toArray[i]? = none := by
      rcases hend with q | q
      · exact .inl (by simp; omega)
      · exact .inr (by simp; omega)
    have fin : ∀ h' : Heap, (∀ d o, d ≠ z → d ≠ TO → d ≠ i1 → d ≠ i2 → s.heap.get? d = some o → h'.get? d = some o) → (none : Option Value) = none ∧ Inv X pins σ H { s with heap := h' } := fun h' hk =>
      ⟨rfl, I.turnedL (t' := s.toks) (ch := [z, TI, TO, i1, i2]) (fun c o hb q => hk c o (fun q' => hb (by simp [q'])) (fun q' => hb (by simp [q'])) (fun q' => hb (by simp [q'])) (fun q' => hb (by simp [q'])) q) hf⟩
    cases T with
    | none => exact pyNext_zipP_end (I.ok.hd hc) q1 q2 D hz hTI hTO h1 h2 p p2 he fun h' hk => fin h' hk
    | some t =>
      obtain ⟨f, hz⟩ := hz
      obtain ⟨oT, hoT⟩ := out t rfl
      exact pyNext_zipP_end_held (I.ok.hd hc) q1 q2 D hz hoT hTI h1 h2 p p2 he fun h' hk => fin h' fun d o n1 _ n3 n4 e => hk d o n1 n3 n4 e
  self := fun A i s Q E st h => wpAny_pyIter_zip st.2.2.2.2 h
section
variable {X : Cx}
/-- zip(t, u) of two tuples, one name for the pair -/
def iZipZ (K : PySem.W.Frag) (ta : TA) : TI := fun σ H R => ta σ H fun vs H1 => ∃ a b xs ys, vs = [V.ref a, V.ref b] ∧ SqT K H1 a xs ∧ SqT K H1 b ys ∧ R (ItzT K a b) H1
theorem piZ_zip {e e2 : Expr} {ta : TA} {p pos py : Pos} {y : Str} (hg : Gl X "zip") (hm : X.mg "zip" = none) (ha : PA X [e, e2] ta)
    (hs : starEach [e, e2] X.env = (false, eval e X.env) :: starEach [e2] X.env := by rfl) (hpl : (backTo pos (starEach [e2] X.env)).any (·.1) = false := by rfl) :
    PIZ X (.Name y py) (.Call (.Name "zip" p) [e, e2] [] pos) (iZipZ X.K ta) := by
  refine ⟨fun pins s σ H R I h => ?_⟩
  refine Call_ (ld_blt I hg hm PyProof.Rows.boot_zip (PyProof.Rows.callWith_type1 (thn (ha.run pos pins s σ H _ I h) fun us s1 ⟨vs, H1, I1, r1, q1⟩ => ?_) hs hpl))
  obtain ⟨a, b, xs, ys, ex, hqx, hqy, q⟩ := q1
  subst ex
  cases r1 with
  | cons r rr =>
    cases rr with
    | cons r' rr =>
      cases rr
      cases r
      cases r'
      have fresh5 : ∀ c, c ∈ [s1.heap.objs.size + 4, s1.heap.objs.size + 2, s1.heap.objs.size + 3, s1.heap.objs.size, s1.heap.objs.size + 1] → FpOk X pins H1 c := fun c hcm => by
        have hle : s1.heap.objs.size ≤ c := by
          have e' : c = s1.heap.objs.size + 4 ∨ c = s1.heap.objs.size + 2 ∨ c = s1.heap.objs.size + 3 ∨ c = s1.heap.objs.size ∨ c = s1.heap.objs.size + 1 := by simpa using hcm
          rcases e' with z | z | z | z | z
          · rw [z]; exact Nat.le_add_right _ _
          · rw [z]; exact Nat.le_add_right _ _
          · rw [z]; exact Nat.le_add_right _ _
          · rw [z]; exact Nat.le_refl _
          · rw [z]; exact Nat.le_add_right _ _
        exact I1.fpOk hle (I1.hok.fresh hle)
      obtain ⟨its, rv, p1, _⟩ := I1.tuple hqx
      obtain ⟨its2, rv2, p2, _⟩ := I1.tuple hqy
      obtain ⟨o1, ho1, _⟩ := id p1
      obtain ⟨o2, ho2, _⟩ := id p2
      refine call_zipT (show s1.heap.IsTuple a its.toArray from p1) (show s1.heap.IsTuple b its2.toArray from p2) fun h' hz hTI hTO h1 h2 hsz hk => wpAny_pyIter_zip hz ?_
      have I2 : Inv X pins σ H1 { s1 with heap := h' } := I1.kept (t' := s1.toks) hk
      exact ⟨s1.heap.objs.size + 4, [s1.heap.objs.size + 4, s1.heap.objs.size + 2, s1.heap.objs.size + 3, s1.heap.objs.size, s1.heap.objs.size + 1], _, _, H1, rfl, I2, turnZ_zipT (PySem.W.ktu_apart s1.heap.objs.size a b (Heap.lt_size ho1) (Heap.lt_size ho2)), ⟨hTI, ⟨_, _, hTO⟩, h1, h2, hz⟩, fresh5, q⟩
/-- [elt for name in iter if ..], as tLc; what a turn ends with has every tuple that it began with -/
def tLcZ (wi : TI) (g : TG) (tt : TT) (te : TE) (vs : List Nat) : TE := fun σ H Q => wi σ H fun J H1 => ∀ D, H1 D = none → ∃ W : Nat → Nat → Hp → Prop, (∃ m, W 0 m (upd H1 D (.lst []))) ∧ ∀ i m H, W i m H →
  (J.stop i H ∧ Q (.ref D) H) ∨ (J.go i H ∧ ∃ Nx : Hp → Prop, (∀ H', Nx H' → ∃ m', m' < m ∧ W (i + 1) m' H') ∧ ∀ x H', J.yld i H x H' → g x (wipe σ vs) H' fun σ2 H2 => wipe σ2 vs = wipe σ vs ∧ tt σ2 H2 fun b H3 =>
    if b = true then te σ2 H3 fun y H4 => ∃ acc, H4 D = some (.lst acc) ∧ acc.length < sizeLine ∧ Nx (upd H4 D (.lst (acc ++ [y]))) ∧ Tups H' (upd H4 D (.lst (acc ++ [y]))) else Nx H3 ∧ Tups H' H3)
theorem pe_lcZ {elt tg iter : Expr} {ifs : List Expr} {scope : Scope} {own : List (Str × Nat)} {pos : Pos} {wi : TI} {g : TG} {tt : TT} {te : TE} (hc : X.calm = true) (hN : X.N.Nodup) (hi : PIZ X tg iter wi) (ok : BlkOk X.N X.env.scope scope own)
    (hg : ∀ (s : Shared) (H : Hp) (C : Addr) (cl : List (Str × Addr)) (fp : List Addr), PG (X.blk s H scope (compEnvC scope cl C X.env) fp) tg g) (ht : ∀ (s : Shared) (H : Hp) (C : Addr) (cl : List (Str × Addr)) (fp : List Addr), PTs (X.blk s H scope (compEnvC scope cl C X.env) fp) ifs tt)
    (he : ∀ (s : Shared) (H : Hp) (C : Addr) (cl : List (Str × Addr)) (fp : List Addr), PE (X.blk s H scope (compEnvC scope cl C X.env) fp) elt te) (hs : ∀ x, foldedSetIterable iter X.env x = pure x := by intro _; rfl) :
    PE X (.ListComp elt [⟨tg, iter, ifs, 0⟩] scope pos) (tLcZ wi g tt te (own.map (·.2))) := by
  refine ⟨fun pins s σ H Q I h => ?_⟩
  rw [eval_ListComp]
  have hfree : ∀ y ∈ scope.names, y.2 = .free → ∃ c, X.env.cells.lookup y.1 = some c := fun y hy e => by
    rcases ok.free y hy e with k | k
    · exact I.ok.has _ (.inl k)
    · exact I.ok.has _ (.inr k)
  refine wpAny_comprehension_free (use := none) rfl hs (closure_ok hfree) ok.kind (fun y hy e => by rw [ok.uniq y hy, e])
    (thn (hi.run pins s σ H _ I h) fun xv s1 hx => thn hx fun itv s2 h2 => ?_)
  obtain ⟨it, fp, tn, J, H2, e, I2, T, st2, f2, q⟩ := h2
  subst e
  refine wpAny_newObj_type (newEnv_comp ?_) (by show 0 ≤ sizeLine; decide)
  generalize hD : s2.heap.objs.size = D
  obtain ⟨W, ⟨m0, w0⟩, turn⟩ := q D (I2.hok.fresh (Nat.le_of_eq hD))
  generalize hs3 : ({ s2 with heap := s2.heap.push { cls := .type "list", data := .seq ([] : List Value).toArray } } : Shared) = s3
  have h3 : s3.heap = s2.heap.push { cls := .type "list", data := .seq ([] : List Value).toArray } := by rw [← hs3]
  have I3 : Inv X pins σ (upd H2 D (.lst [])) s3 := by
    rw [← hs3]
    refine I2.laid (t' := s2.toks) (fun b o e => Heap.get?_push_of_some _ e) (Nat.le_of_eq hD) ⟨Nat.zero_le _, [], 0, .nil, ?_⟩
    rw [← hD]
    exact Heap.get?_push_size _ rfl
  have f3 : ∀ b ∈ fp, FpOk X pins (upd H2 D (.lst [])) b ∧ b < s3.heap.objs.size := fun b hb => by
    obtain ⟨o, e, _⟩ := T.obj _ _ _ st2 b hb
    have lt := Heap.lt_size e
    refine ⟨⟨?_, (f2 b hb).2⟩, by rw [h3, Heap.size_push]; exact Nat.lt_succ_of_lt lt⟩
    rw [upd_ne (by rw [← hD]; exact Nat.ne_of_lt lt)]
    exact (f2 b hb).1
  have st3 : tn none 0 s3.heap := T.keep _ _ _ _ st2 fun b _ o e => by rw [h3]; exact Heap.get?_push_of_some _ e
  have I4 := block_start I3 ok hN f3
  generalize hcl : cellsFrom (s3.heap.objs.size + 1) scope.names (cloFrom X.env.cells scope.names []) = cl at I4
  have pg := hg s3 (upd H2 D (.lst [])) s3.heap.objs.size cl fp
  have pt := ht s3 (upd H2 D (.lst [])) s3.heap.objs.size cl fp
  have pe := he s3 (upd H2 D (.lst [])) s3.heap.objs.size cl fp
  show codeAny _ _ (.compStart (.ListComp elt [⟨tg, iter, ifs, 0⟩] scope pos) 0 (.ref it) (.ref D) (compEnvC scope cl s3.heap.objs.size X.env)) (compPost (model X.prog X.w) X.A X.xe none (EP X pins σ Q) (.ref D) s3.heap.objs.size) { s3 with heap := pushCells (s3.heap.push { cls := .type "dict", data := .dict #[] }) scope.names }
  have nfp : ∀ b ∈ fp, (upd H2 D (.lst [])) b = none := fun b hb => (f3 b hb).1.1
  generalize hce : compEnvC scope cl s3.heap.objs.size X.env = ce at I4 pg pt pe ⊢
  have cL : ce.locals = s3.heap.objs.size := by subst hce; rfl
  generalize upd H2 D (.lst []) = H3 at I3 I4 pg pt pe w0 nfp f3
  generalize hs4 : ({ s3 with heap := pushCells (s3.heap.push { cls := .type "dict", data := .dict #[] }) scope.names } : Shared) = s4 at I4 ⊢
  have st4 : tn none 0 s4.heap := T.keep _ _ _ _ st3 fun b _ o e => by rw [← hs4]; exact pushCells_keeps _ _ _ _ (Heap.get?_push_of_some _ e)
  have stat : ∀ {σ' : L2.St} {H' : Hp} {s' : Shared}, Inv (X.blk s3 H3 scope ce fp) [] σ' H' s' → (∀ b ∈ fp, H' b = none) → ∀ b ∈ fp, FpOk (X.blk s3 H3 scope ce fp) [] H' b := fun {σ' H' s'} I' hn b hb =>
    ⟨hn b hb, (I'.ok.exf b hb).1, I'.ok.exfs b hb, .inl hb, fun x c e => (I'.ok.exf b hb).2 x c e, fun p hp => absurd (show p ∈ ([] : List (Addr × Obj)) ++ [] from hp) (by simp)⟩
  have seen : ∀ {σ' : L2.St} {H' : Hp} {s' : Shared} {o : Option Addr}, Inv (X.blk s3 H3 scope ce fp) [] σ' H' s' → (∀ t, o = some t → ∃ xs, H' t = some (.tup xs)) → ∀ t, o = some t → ∃ ob, s'.heap.get? t = some ob := fun {σ' H' s' o} I' h t e => by
    obtain ⟨xs, ht⟩ := h t e
    obtain ⟨its, _, ⟨ob, hob, _⟩, _⟩ := I'.tuple (.inl (.inl ht))
    exact ⟨ob, hob⟩
  refine codeAny_compStart_list ?_ (T.self X.A 0 _ _ _ st4 ?_)
  all_goals
    refine compLoop_any (fun n s' => ∃ i H' o, Inv (X.blk s3 H3 scope ce fp) [] (wipe σ (own.map (·.2))) H' s' ∧ tn o i s'.heap ∧ (∀ t, o = some t → ∃ xs, H' t = some (.tup xs)) ∧ (∀ b ∈ fp, H' b = none) ∧ W i n H') ?_ m0 ⟨0, H3, none, I4, st4, (fun t e => nomatch e), nfp, w0⟩
    rintro n s5 ⟨i, H5, o, I5, st5, o5, n5, w5⟩
    rcases turn i n H5 w5 with ⟨stop, qq⟩ | ⟨go, Nx, hNx, step⟩
    · refine thnF (T.done (X.blk s3 H3 scope ce fp) rfl rfl rfl hc o i [] s5 _ H5 (fun _ _ => False) I5 (stat I5 n5) st5 (seen I5 o5) stop) fun r s6 ⟨hr, I6⟩ => ?_
      subst hr
      have I7 : Inv X pins σ H5 s6 := I3.call' (ch := fp) I6.os I6.base I6.hok I6.bare fun b hb => ⟨(f3 b hb).1.2.2.2.1, (f3 b hb).1.2.1, (f3 b hb).1.2.2.2.2.1, (f3 b hb).1.2.2.2.2.2⟩
      have nC : H5 s3.heap.objs.size = none := by
        have z : H5 ce.locals = none := I6.free
        rw [cL] at z
        exact z
      obtain ⟨m, hn, _⟩ := I6.loc
      have hn : s6.heap.Ns ce.locals m := hn
      rw [cL] at hn
      refine ⟨m, hn, fun h'' sb => ?_⟩
      obtain ⟨g0, g1, g2, g3, g4, g5⟩ := I3.fpOk (Nat.le_refl _) nC
      exact ⟨.ref D, H5, I7.turned (t' := s6.toks) (fun b o hb e => (sb.2 b hb).trans e) g0 g1 g3 g4 g5, rfl, qq⟩
    · refine thnF (T.item (X.blk s3 H3 scope ce fp) rfl rfl rfl hc o i [] s5 _ H5 (fun _ _ => False) I5 (stat I5 n5) st5 (seen I5 o5) go) fun r s6 ⟨u, hr, h6⟩ => ?_
      subst hr
      refine thnF h6 fun _ s7 ⟨t, H7, I7, r7, y7, t7, k7, st7, n7⟩ => ?_
      have I7' := I7.pinned (stat I7 n7) (T.obj _ _ _ st7)
      refine thnF (pg.run _ s7 _ H7 (.ref t) u _ I7' r7 (step (.ref t) H7 y7)) fun _ s8 ⟨σ8, H8, I8, hw8, q8⟩ => ?_
      refine thnF (pt.run _ s8 σ8 H8 _ I8 q8) fun b s9 ⟨H9, I9, q9⟩ => ?_
      have fin : ∀ {s' : Shared} {H' : Hp}, Inv (X.blk s3 H3 scope ce fp) ([] ++ pinsAt fp s7.heap) σ8 H' s' → Nx H' → Tups H7 H' → ∃ m, m < n ∧ ∃ i H' o, Inv (X.blk s3 H3 scope ce fp) [] (wipe σ (own.map (·.2))) H' s' ∧ tn o i s'.heap ∧ (∀ t, o = some t → ∃ xs, H' t = some (.tup xs)) ∧ (∀ b ∈ fp, H' b = none) ∧ W i m H' := fun {s' H'} I' nx tu => by
        obtain ⟨m', hm, w'⟩ := hNx H' nx
        have pin' : ∀ b ∈ fp, ∀ o, s7.heap.get? b = some o → s'.heap.get? b = some o ∧ H' b = none := fun b hb o e =>
          let z := I'.pin (b, o) (List.mem_append_right _ (List.mem_append_right _ (mem_pinsAt hb e)))
          ⟨z.1, z.2.1⟩
        have hl : (wipe σ (own.map (·.2))).length = σ8.length := by rw [← hw8, wipe_length]
        refine ⟨m', hm, i + 1, H', some (o.getD t), (I'.unpinned (pins := [])).weak hl (fun j v e => ?_), T.keep _ _ _ _ st7 fun b hb o e => (pin' b hb o e).1, fun t' e => ?_, fun b hb => ?_, w'⟩
        · rw [← hw8] at e
          exact (wipe_some e).1
        · injection e with e
          subst e
          cases o with
          | none =>
            obtain ⟨xs, ht⟩ := t7
            exact ⟨xs, tu _ _ ht⟩
          | some t0 =>
            obtain ⟨xs, ht⟩ := o5 t0 rfl
            exact ⟨xs, tu _ _ (k7 _ _ ht)⟩
        · obtain ⟨o, e, _⟩ := T.obj _ _ _ st7 b hb
          exact (pin' b hb o e).2
      cases b with
      | false =>
        simp only [Bool.false_eq_true, if_false] at q9 ⊢
        exact fin I9 q9.1 q9.2
      | true =>
        simp only [if_true] at q9 ⊢
        refine thnF (pe.run _ s9 σ8 H9 _ I9 q9) fun z s10 ⟨yv, H10, I10, r10, acc, hD10, hz10, nx, tu⟩ => ?_
        exact app_ok (X := X.blk s3 H3 scope ce fp) I10 hD10 hz10 r10 fun s11 I11 => fin I11 nx tu
theorem lcZ_it {J : It} {n : Nat} {G : Hp → Prop} {Y : Nat → Hp → V → Hp → Prop} (w : Walk J n G Y) {g : TG} {tt : TT} {te : TE} {vs : List Nat} {σ : L2.St} {H1 : Hp} {D : Addr} {Qd : Hp → Prop} (Pv : Nat → Hp → Prop) (h0 : Pv 0 (upd H1 D (.lst []))) (hG : ∀ i H, i ≤ n → Pv i H → G H)
    (hs : ∀ i x H H', i < n → Pv i H → Y i H x H' → g x (wipe σ vs) H' fun σ2 H2 => wipe σ2 vs = wipe σ vs ∧ tt σ2 H2 fun b H3 =>
      if b = true then te σ2 H3 fun y H4 => ∃ acc, H4 D = some (.lst acc) ∧ acc.length < sizeLine ∧ Pv (i + 1) (upd H4 D (.lst (acc ++ [y]))) ∧ Tups H' (upd H4 D (.lst (acc ++ [y]))) else Pv (i + 1) H3 ∧ Tups H' H3) (hd : ∀ H, Pv n H → Qd H) :
    ∃ W : Nat → Nat → Hp → Prop, (∃ m, W 0 m (upd H1 D (.lst []))) ∧ ∀ i m H, W i m H →
      (J.stop i H ∧ Qd H) ∨ (J.go i H ∧ ∃ Nx : Hp → Prop, (∀ H', Nx H' → ∃ m', m' < m ∧ W (i + 1) m' H') ∧ ∀ x H', J.yld i H x H' → g x (wipe σ vs) H' fun σ2 H2 => wipe σ2 vs = wipe σ vs ∧ tt σ2 H2 fun b H3 =>
        if b = true then te σ2 H3 fun y H4 => ∃ acc, H4 D = some (.lst acc) ∧ acc.length < sizeLine ∧ Nx (upd H4 D (.lst (acc ++ [y]))) ∧ Tups H' (upd H4 D (.lst (acc ++ [y]))) else Nx H3 ∧ Tups H' H3) := by
  refine ⟨fun i m H => m = n - i ∧ i ≤ n ∧ Pv i H, ⟨n, by simp, Nat.zero_le _, h0⟩, ?_⟩
  rintro i m H ⟨rfl, hi, p⟩
  have q := hG i H hi p
  rcases Nat.lt_or_ge i n with lt | ge
  · exact .inr ⟨w.goes i H lt q, Pv (i + 1), fun H' p' => ⟨n - (i + 1), by omega, rfl, lt, p'⟩, fun x H' y => hs i x H H' lt p (w.yields i H x H' lt q y)⟩
  · obtain rfl : i = n := Nat.le_antisymm hi ge
    exact .inl ⟨w.stops H q, hd H p⟩
theorem walk_zipZ {K : PySem.W.Frag} {a b : Addr} {xs ys : List V} {n : Nat} (h1 : n = min xs.length ys.length) : Walk (ItzT K a b) n (fun H => SqT K H a xs ∧ SqT K H b ys) (YPair (fun i => xs[i]?) (fun i => ys[i]?)) := by
  refine ⟨fun i H hi q => ⟨xs, ys, xs[i]'(by omega), ys[i]'(by omega), q.1, q.2, List.getElem?_eq_getElem _, List.getElem?_eq_getElem _⟩, fun H q => ⟨xs, ys, q.1, q.2, by omega⟩, fun i H x H' hi q y => ?_⟩
  obtain ⟨T, x, y, e1, e2, e3, e4, e5⟩ := y
  exact ⟨T, x, y, e1, e2, e3, e4 xs q.1, e5 ys q.2⟩
end
end Q
set_option Elab.async false
set_option linter.all false
set_option maxRecDepth 100000
set_option maxHeartbeats 4000000
namespace Toy
open PySem L2 Q
def topS (i : Nat) : Stmt := PySem.Challenge.pw_quietturns_k40_rows_refused.main.body.getD i (.Pass ⟨0, 0, 0, 0⟩)
abbrev s__wall : Stmt := topS 1
abbrev N__wall : List Str := ["k"]
theorem sc__wall : FnScope N__wall ["k"] (defScope s__wall) := ⟨rfl, rfl, rfl, by decide +kernel, rfl, by decide +kernel, by decide +kernel⟩
abbrev s_is_integer : Stmt := topS 11
abbrev N_is_integer : List Str := ["value"]
theorem sc_is_integer : FnScope N_is_integer ["value"] (defScope s_is_integer) := ⟨rfl, rfl, rfl, by decide +kernel, rfl, by decide +kernel, by decide +kernel⟩
abbrev s_is_integer_from : Stmt := topS 12
abbrev N_is_integer_from : List Str := ["value", "least"]
theorem sc_is_integer_from : FnScope N_is_integer_from ["value", "least"] (defScope s_is_integer_from) := ⟨rfl, rfl, rfl, by decide +kernel, rfl, by decide +kernel, by decide +kernel⟩
abbrev s_is_tuple_of : Stmt := topS 13
abbrev N_is_tuple_of : List Str := ["value", "many"]
theorem sc_is_tuple_of : FnScope N_is_tuple_of ["value", "many"] (defScope s_is_tuple_of) := ⟨rfl, rfl, rfl, by decide +kernel, rfl, by decide +kernel, by decide +kernel⟩
abbrev s_is_name : Stmt := topS 14
abbrev N_is_name : List Str := ["value", "letter"]
theorem sc_is_name : FnScope N_is_name ["value"] (defScope s_is_name) := ⟨rfl, rfl, rfl, by decide +kernel, rfl, by decide +kernel, by decide +kernel⟩
abbrev s_is_rising : Stmt := topS 15
abbrev N_is_rising : List Str := ["values", "low", "high"]
theorem sc_is_rising : FnScope N_is_rising ["values"] (defScope s_is_rising) := ⟨rfl, rfl, rfl, by decide +kernel, rfl, by decide +kernel, by decide +kernel⟩
abbrev s_need_routers : Stmt := topS 21
abbrev N_need_routers : List Str := ["net", "a", "b"]
theorem sc_need_routers : FnScope N_need_routers ["net", "a", "b"] (defScope s_need_routers) := ⟨rfl, rfl, rfl, by decide +kernel, rfl, by decide +kernel, by decide +kernel⟩
abbrev s_need_router : Stmt := topS 22
abbrev N_need_router : List Str := ["net", "value"]
theorem sc_need_router : FnScope N_need_router ["net", "value"] (defScope s_need_router) := ⟨rfl, rfl, rfl, by decide +kernel, rfl, by decide +kernel, by decide +kernel⟩
abbrev s_is_length : Stmt := topS 23
abbrev N_is_length : List Str := ["value"]
theorem sc_is_length : FnScope N_is_length ["value"] (defScope s_is_length) := ⟨rfl, rfl, rfl, by decide +kernel, rfl, by decide +kernel, by decide +kernel⟩
abbrev s_are_routers : Stmt := topS 24
abbrev N_are_routers : List Str := ["value", "name"]
theorem sc_are_routers : FnScope N_are_routers ["value"] (defScope s_are_routers) := ⟨rfl, rfl, rfl, by decide +kernel, rfl, by decide +kernel, by decide +kernel⟩
abbrev s_are_links : Stmt := topS 25
abbrev N_are_links : List Str := ["value", "routers", "link"]
theorem sc_are_links : FnScope N_are_links ["value", "routers"] (defScope s_are_links) := ⟨rfl, rfl, rfl, by decide +kernel, rfl, by decide +kernel, by decide +kernel⟩
abbrev s_is_link : Stmt := topS 26
abbrev N_is_link : List Str := ["value", "routers", "a", "b", "there", "back"]
theorem sc_is_link : FnScope N_is_link ["value", "routers"] (defScope s_is_link) := ⟨rfl, rfl, rfl, by decide +kernel, rfl, by decide +kernel, by decide +kernel⟩
abbrev s_is_row : Stmt := topS 29
abbrev N_is_row : List Str := ["value", "routers", "router"]
theorem sc_is_row : FnScope N_is_row ["value", "routers"] (defScope s_is_row) := ⟨rfl, rfl, rfl, by decide +kernel, rfl, by decide +kernel, by decide +kernel⟩
abbrev s_distance : Stmt := topS 31
abbrev N_distance : List Str := ["net", "a", "d"]
theorem sc_distance : FnScope N_distance ["net", "a", "d"] (defScope s_distance) := ⟨rfl, rfl, rfl, by decide +kernel, rfl, by decide +kernel, by decide +kernel⟩
abbrev s_nexts : Stmt := topS 32
abbrev N_nexts : List Str := ["net", "a", "d"]
theorem sc_nexts : FnScope N_nexts ["net", "a", "d"] (defScope s_nexts) := ⟨rfl, rfl, rfl, by decide +kernel, rfl, by decide +kernel, by decide +kernel⟩
abbrev s_next_table : Stmt := topS 33
abbrev N_next_table : List Str := ["net", "d", "found", "rows", "router", "a", "b", "there", "back"]
theorem sc_next_table : FnScope N_next_table ["net", "d"] (defScope s_next_table) := ⟨rfl, rfl, rfl, by decide +kernel, rfl, by decide +kernel, by decide +kernel⟩
abbrev s_distances_to : Stmt := topS 34
abbrev N_distances_to : List Str := ["net", "d", "found", "before", "a", "b", "there", "back"]
theorem sc_distances_to : FnScope N_distances_to ["net", "d"] (defScope s_distances_to) := ⟨rfl, rfl, rfl, by decide +kernel, rfl, by decide +kernel, by decide +kernel⟩
abbrev s_shorten : Stmt := topS 35
abbrev N_shorten : List Str := ["found", "a", "n", "length"]
theorem sc_shorten : FnScope N_shorten ["found", "a", "n", "length"] (defScope s_shorten) := ⟨rfl, rfl, rfl, by decide +kernel, rfl, by decide +kernel, by decide +kernel⟩
abbrev s_begins : Stmt := topS 36
abbrev N_begins : List Str := ["found", "a", "n", "length"]
theorem sc_begins : FnScope N_begins ["found", "a", "n", "length"] (defScope s_begins) := ⟨rfl, rfl, rfl, by decide +kernel, rfl, by decide +kernel, by decide +kernel⟩
abbrev s_wanted : Stmt := topS 39
abbrev N_wanted : List Str := ["net", "rows", "basis", "lengths", "part", "column", "short", "at", "length", "found"]
theorem sc_wanted : FnScope N_wanted ["net", "rows"] (defScope s_wanted) := ⟨rfl, rfl, rfl, by decide +kernel, rfl, by decide +kernel, by decide +kernel⟩
abbrev s_shows_wanted : Stmt := topS 40
abbrev N_shows_wanted : List Str := ["net", "rows", "value"]
theorem sc_shows_wanted : FnScope N_shows_wanted ["net", "rows", "value"] (defScope s_shows_wanted) := ⟨rfl, rfl, rfl, by decide +kernel, rfl, by decide +kernel, by decide +kernel⟩
abbrev s_need_rows : Stmt := topS 41
abbrev N_need_rows : List Str := ["net", "value", "row"]
theorem sc_need_rows : FnScope N_need_rows ["net", "value"] (defScope s_need_rows) := ⟨rfl, rfl, rfl, by decide +kernel, rfl, by decide +kernel, by decide +kernel⟩
abbrev s_is_linked : Stmt := topS 42
abbrev N_is_linked : List Str := ["value", "net", "a", "n"]
theorem sc_is_linked : FnScope N_is_linked ["value", "net"] (defScope s_is_linked) := ⟨rfl, rfl, rfl, by decide +kernel, rfl, by decide +kernel, by decide +kernel⟩
abbrev s_arcs_of : Stmt := topS 43
abbrev N_arcs_of : List Str := ["links", "a", "b", "there", "back", "pair"]
theorem sc_arcs_of : FnScope N_arcs_of ["links"] (defScope s_arcs_of) := ⟨rfl, rfl, rfl, by decide +kernel, rfl, by decide +kernel, by decide +kernel⟩
abbrev s_with_lengths : Stmt := topS 44
abbrev N_with_lengths : List Str := ["net", "lengths", "by", "theres", "backs", "length", "at", "link"]
theorem sc_with_lengths : FnScope N_with_lengths ["net", "lengths"] (defScope s_with_lengths) := ⟨rfl, rfl, rfl, by decide +kernel, rfl, by decide +kernel, by decide +kernel⟩
abbrev s_divisor : Stmt := topS 45
abbrev N_divisor : List Str := ["numbers", "by", "number"]
theorem sc_divisor : FnScope N_divisor ["numbers"] (defScope s_divisor) := ⟨rfl, rfl, rfl, by decide +kernel, rfl, by decide +kernel, by decide +kernel⟩
abbrev s_shorter : Stmt := topS 46
abbrev N_shorter : List Str := ["net", "rows", "row", "other"]
theorem sc_shorter : FnScope N_shorter ["net", "rows"] (defScope s_shorter) := ⟨rfl, rfl, rfl, by decide +kernel, rfl, by decide +kernel, by decide +kernel⟩
abbrev s_length_of : Stmt := topS 47
abbrev N_length_of : List Str := ["net", "row", "a", "n"]
theorem sc_length_of : FnScope N_length_of ["net", "row"] (defScope s_length_of) := ⟨rfl, rfl, rfl, by decide +kernel, rfl, by decide +kernel, by decide +kernel⟩
abbrev s_bag_of : Stmt := topS 48
abbrev N_bag_of : List Str := ["times", "by", "row", "other"]
theorem sc_bag_of : FnScope N_bag_of ["times"] (defScope s_bag_of) := ⟨rfl, rfl, rfl, by decide +kernel, rfl, by decide +kernel, by decide +kernel⟩
abbrev s_are_lengths : Stmt := topS 49
abbrev N_are_lengths : List Str := ["value", "net", "link"]
theorem sc_are_lengths : FnScope N_are_lengths ["value", "net"] (defScope s_are_lengths) := ⟨rfl, rfl, rfl, by decide +kernel, rfl, by decide +kernel, by decide +kernel⟩
abbrev s_are_swaps : Stmt := topS 50
abbrev N_are_swaps : List Str := ["value", "net", "rows", "each"]
theorem sc_are_swaps : FnScope N_are_swaps ["value", "net", "rows"] (defScope s_are_swaps) := ⟨rfl, rfl, rfl, by decide +kernel, rfl, by decide +kernel, by decide +kernel⟩
abbrev s_is_swap : Stmt := topS 51
abbrev N_is_swap : List Str := ["value", "net", "rows", "row", "other", "times"]
theorem sc_is_swap : FnScope N_is_swap ["value", "net", "rows"] (defScope s_is_swap) := ⟨rfl, rfl, rfl, by decide +kernel, rfl, by decide +kernel, by decide +kernel⟩
abbrev s_saves : Stmt := topS 52
abbrev N_saves : List Str := ["bag", "more", "row", "other", "times", "link"]
theorem sc_saves : FnScope N_saves ["bag"] (defScope s_saves) := ⟨rfl, rfl, rfl, by decide +kernel, rfl, by decide +kernel, by decide +kernel⟩
abbrev s_l_pot : Stmt := topS 54
abbrev N_l_pot : List Str := ["_law_script", "_law_k", "_law_cell", "_law_own"]
theorem sc_l_pot : FnScope N_l_pot ["_law_script", "_law_k"] (defScope s_l_pot) := ⟨rfl, rfl, rfl, by decide +kernel, rfl, by decide +kernel, by decide +kernel⟩
abbrev s_l_take : Stmt := topS 55
abbrev N_l_take : List Str := ["_law_pot_here", "_law_upto", "_law_digit", "_law_prime", "_law_stirred"]
theorem sc_l_take : FnScope N_l_take ["_law_pot_here", "_law_upto"] (defScope s_l_take) := ⟨rfl, rfl, rfl, by decide +kernel, rfl, by decide +kernel, by decide +kernel⟩
abbrev s_l_pots : Stmt := topS 56
abbrev N_l_pots : List Str := ["_law_script", "_law_most", "_law_k"]
theorem sc_l_pots : FnScope N_l_pots ["_law_script", "_law_most"] (defScope s_l_pots) := ⟨rfl, rfl, rfl, by decide +kernel, rfl, by decide +kernel, by decide +kernel⟩
abbrev s_l_of : Stmt := topS 57
abbrev N_l_of : List Str := ["_law_pot_here", "_law_some"]
theorem sc_l_of : FnScope N_l_of ["_law_pot_here", "_law_some"] (defScope s_l_of) := ⟨rfl, rfl, rfl, by decide +kernel, rfl, by decide +kernel, by decide +kernel⟩
abbrev s_l_turned : Stmt := topS 58
abbrev N_l_turned : List Str := ["_law_pot_here", "_law_some", "_law_at", "_law_row"]
theorem sc_l_turned : FnScope N_l_turned ["_law_pot_here", "_law_some"] (defScope s_l_turned) := ⟨rfl, rfl, rfl, by decide +kernel, rfl, by decide +kernel, by decide +kernel⟩
abbrev s_l_names : Stmt := topS 59
abbrev N_l_names : List Str := ["_law_pot_here", "_law_many", "_law_small", "_law_stem", "_law_turn", "_law_spot", "_law_at", "_law_found", "_law_k"]
theorem sc_l_names : FnScope N_l_names ["_law_pot_here", "_law_many"] (defScope s_l_names) := ⟨rfl, rfl, rfl, by decide +kernel, rfl, by decide +kernel, by decide +kernel⟩
abbrev s_l_far : Stmt := topS 60
abbrev N_l_far : List Str := ["_law_pot_here"]
theorem sc_l_far : FnScope N_l_far ["_law_pot_here"] (defScope s_l_far) := ⟨rfl, rfl, rfl, by decide +kernel, rfl, by decide +kernel, by decide +kernel⟩
abbrev s_l_pairs : Stmt := topS 61
abbrev N_l_pairs : List Str := ["_law_pot_here", "_law_routers", "_law_many", "_law_order", "_law_found", "_law_is_joined", "_law_at", "_law_other", "_law_rest", "_law_a", "_law_b"]
theorem sc_l_pairs : FnScope N_l_pairs ["_law_pot_here", "_law_routers", "_law_many"] (defScope s_l_pairs) := ⟨rfl, rfl, rfl, by decide +kernel, rfl, by decide +kernel, by decide +kernel⟩
abbrev s_l_world : Stmt := topS 62
abbrev N_l_world : List Str := ["_law_pot_here", "_law_least", "_law_most", "_law_more", "_law_many", "_law_routers", "_law_pairs_here", "_law_links", "_law_is_even", "_law_a", "_law_b", "_law_there"]
theorem sc_l_world : FnScope N_l_world ["_law_pot_here", "_law_least", "_law_most", "_law_more"] (defScope s_l_world) := ⟨rfl, rfl, rfl, by decide +kernel, rfl, by decide +kernel, by decide +kernel⟩
abbrev s_l_made : Stmt := topS 63
abbrev N_l_made : List Str := ["_law_world_here"]
theorem sc_l_made : FnScope N_l_made ["_law_world_here"] (defScope s_l_made) := ⟨rfl, rfl, rfl, by decide +kernel, rfl, by decide +kernel, by decide +kernel⟩
abbrev s_l_lengths : Stmt := topS 64
abbrev N_l_lengths : List Str := ["_law_links", "_law_found", "_law_a", "_law_b", "_law_there", "_law_back"]
theorem sc_l_lengths : FnScope N_l_lengths ["_law_links"] (defScope s_l_lengths) := ⟨rfl, rfl, rfl, by decide +kernel, rfl, by decide +kernel, by decide +kernel⟩
abbrev s_l_odd : Stmt := topS 65
abbrev N_l_odd : List Str := ["_law_pot_here", "_law_some"]
theorem sc_l_odd : FnScope N_l_odd ["_law_pot_here"] (defScope s_l_odd) := ⟨rfl, rfl, rfl, by decide +kernel, rfl, by decide +kernel, by decide +kernel⟩
abbrev s_l_bent_part : Stmt := topS 66
abbrev N_l_bent_part : List Str := ["_law_pot_here", "_law_value", "_law_at", "_law_some"]
theorem sc_l_bent_part : FnScope N_l_bent_part ["_law_pot_here", "_law_value"] (defScope s_l_bent_part) := ⟨rfl, rfl, rfl, by decide +kernel, rfl, by decide +kernel, by decide +kernel⟩
abbrev s_l_bent : Stmt := topS 67
abbrev N_l_bent : List Str := ["_law_pot_here", "_law_value", "_law_deep", "_law_at"]
theorem sc_l_bent : FnScope N_l_bent ["_law_pot_here", "_law_value", "_law_deep"] (defScope s_l_bent) := ⟨rfl, rfl, rfl, by decide +kernel, rfl, by decide +kernel, by decide +kernel⟩
abbrev s_l_caught : Stmt := topS 68
abbrev N_l_caught : List Str := ["_law_look", "_law_caught_here", "error"]
theorem sc_l_caught : FnScope N_l_caught ["_law_look"] (defScope s_l_caught) := ⟨rfl, rfl, rfl, by decide +kernel, rfl, by decide +kernel, by decide +kernel⟩
abbrev s_l_walks : Stmt := topS 69
abbrev N_l_walks : List Str := ["_law_pot_here", "_law_world_here", "_law_d", "_law_many", "_law_pairs_here", "_law_found", "_law_turn", "_law_row", "_law_step", "_law_fine", "_law_one"]
theorem sc_l_walks : FnScope N_l_walks ["_law_pot_here", "_law_world_here", "_law_d", "_law_many"] (defScope s_l_walks) := ⟨rfl, rfl, rfl, by decide +kernel, rfl, by decide +kernel, by decide +kernel⟩
abbrev s_l_is_row : Stmt := topS 70
abbrev N_l_is_row : List Str := ["_law_world_here", "_law_value", "_law_one", "_law_pairs_here", "_law_pair"]
theorem sc_l_is_row : FnScope N_l_is_row ["_law_world_here", "_law_value"] (defScope s_l_is_row) := ⟨rfl, rfl, rfl, by decide +kernel, rfl, by decide +kernel, by decide +kernel⟩
abbrev s_l_are_rows : Stmt := topS 71
abbrev N_l_are_rows : List Str := ["_law_world_here", "_law_value", "_law_row", "_law_one", "_law_other"]
theorem sc_l_are_rows : FnScope N_l_are_rows ["_law_world_here", "_law_value"] (defScope s_l_are_rows) := ⟨rfl, rfl, rfl, by decide +kernel, rfl, by decide +kernel, by decide +kernel⟩
abbrev s_l_values : Stmt := topS 72
abbrev N_l_values : List Str := ["_law_pot_here", "_law_world_here", "_law_rows", "_law_odd_here", "_law_one", "_law_found", "_law_turn"]
theorem sc_l_values : FnScope N_l_values ["_law_pot_here", "_law_world_here", "_law_rows"] (defScope s_l_values) := ⟨rfl, rfl, rfl, by decide +kernel, rfl, by decide +kernel, by decide +kernel⟩
abbrev s_l_case_right : Stmt := topS 73
abbrev N_l_case_right : List Str := ["_law_pot_here", "_law_world_here", "_law_drawn", "_law_turn", "_law_rows", "_law_net", "_law_value", "_law_caught_here", "_law_again"]
theorem sc_l_case_right : FnScope N_l_case_right ["_law_pot_here"] (defScope s_l_case_right) := ⟨rfl, rfl, rfl, by decide +kernel, rfl, by decide +kernel, by decide +kernel⟩
abbrev s_law : Stmt := topS 74
abbrev N_law : List Str := ["_law_script", "_law_pot_here"]
theorem sc_law : FnScope N_law ["_law_script"] (defScope s_law) := ⟨rfl, rfl, rfl, by decide +kernel, rfl, by decide +kernel, by decide +kernel⟩
abbrev s_m_init : Stmt := inClass (topS 20) 0
abbrev N_m_init : List Str := ["self", "routers", "links"]
theorem sc_m_init : FnScope N_m_init ["self", "routers", "links"] (defScope s_m_init) := ⟨rfl, rfl, rfl, by decide +kernel, rfl, by decide +kernel, by decide +kernel⟩
abbrev s_m_routers : Stmt := inClass (topS 20) 1
abbrev N_m_routers : List Str := ["self"]
theorem sc_m_routers : FnScope N_m_routers ["self"] (defScope s_m_routers) := ⟨rfl, rfl, rfl, by decide +kernel, rfl, by decide +kernel, by decide +kernel⟩
abbrev s_m_links : Stmt := inClass (topS 20) 2
abbrev N_m_links : List Str := ["self"]
theorem sc_m_links : FnScope N_m_links ["self"] (defScope s_m_links) := ⟨rfl, rfl, rfl, by decide +kernel, rfl, by decide +kernel, by decide +kernel⟩
abbrev s_m_u_eq_ : Stmt := inClass (topS 20) 3
abbrev N_m_u_eq_ : List Str := ["self", "other"]
theorem sc_m_u_eq_ : FnScope N_m_u_eq_ ["self", "other"] (defScope s_m_u_eq_) := ⟨rfl, rfl, rfl, by decide +kernel, rfl, by decide +kernel, by decide +kernel⟩
abbrev s_m_length : Stmt := inClass (topS 20) 4
abbrev N_m_length : List Str := ["self", "a", "b", "low", "high", "there", "back"]
theorem sc_m_length : FnScope N_m_length ["self", "a", "b"] (defScope s_m_length) := ⟨rfl, rfl, rfl, by decide +kernel, rfl, by decide +kernel, by decide +kernel⟩
abbrev s_m_with_link : Stmt := inClass (topS 20) 5
abbrev N_m_with_link : List Str := ["self", "a", "b", "there", "back"]
theorem sc_m_with_link : FnScope N_m_with_link ["self", "a", "b", "there", "back"] (defScope s_m_with_link) := ⟨rfl, rfl, rfl, by decide +kernel, rfl, by decide +kernel, by decide +kernel⟩
abbrev s_m_without : Stmt := inClass (topS 20) 6
abbrev N_m_without : List Str := ["self", "a", "b"]
theorem sc_m_without : FnScope N_m_without ["self", "a", "b"] (defScope s_m_without) := ⟨rfl, rfl, rfl, by decide +kernel, rfl, by decide +kernel, by decide +kernel⟩
abbrev s_m_u_links_without : Stmt := inClass (topS 20) 7
abbrev N_m_u_links_without : List Str := ["self", "a", "b"]
theorem sc_m_u_links_without : FnScope N_m_u_links_without ["self", "a", "b"] (defScope s_m_u_links_without) := ⟨rfl, rfl, rfl, by decide +kernel, rfl, by decide +kernel, by decide +kernel⟩

/-- what the written part says of NetError -/
structure ErrN (K : PySem.W.Frag) (mg : Str → Option Value) (C : Addr) : Prop where
  g : mg "NetError" = some (.ref C)
  xL : ∃ nm q N bs sn sub ab col dd k0 k1 k2 k3 k5, K.lookup C = some (excClassObj nm q C N bs PySem.HandSPX.veTail true sn sub ab col dd k0 k1 k2 k3 k5 "ValueError.__new__")
/-- .. and of a class below it -/
structure ErrC (K : PySem.W.Frag) (mg : Str → Option Value) (nm : Str) (C Cn : Addr) : Prop where
  g : mg nm = some (.ref C)
  xL : ∃ nm q N bs sn sub ab col dd k0 k1 k2 k3 k5, K.lookup C = some (excClassObj nm q C N bs (.ref Cn :: PySem.HandSPX.veTail) true sn sub ab col dd k0 k1 k2 k3 k5 "ValueError.__new__")
  sa : PySem.W.findIn K (.ref C) "__setattr__" = some (some (.builtin "object.__setattr__"))
  ga : PySem.W.findIn K (.ref C) "__getattribute__" = some (some (.builtin "BaseException.__getattribute__"))
  gg : PySem.W.findIn K (.ref C) "__getattr__" = some none
  hc : PySem.W.findIn K (.ref C) "__class__" = some (some (.builtin "object.__class__"))
  kC : PySem.W.keepIn K (.ref C) = true
structure Txt (K : PySem.W.Frag) (mg : Str → Option Value) (ca ia fa : Nat → Addr) (fd fi : Nat → FuncData) : Prop where
  n_abs : mg "abs" = none
  n_all : mg "all" = none
  n_any : mg "any" = none
  n_bool : mg "bool" = none
  n_dict : mg "dict" = none
  n_enumerate : mg "enumerate" = none
  n_int : mg "int" = none
  n_isinstance : mg "isinstance" = none
  n_len : mg "len" = none
  n_list : mg "list" = none
  n_max : mg "max" = none
  n_min : mg "min" = none
  n_range : mg "range" = none
  n_repr : mg "repr" = none
  n_set : mg "set" = none
  n_sorted : mg "sorted" = none
  n_str : mg "str" = none
  n_sum : mg "sum" = none
  n_tuple : mg "tuple" = none
  n_zip : mg "zip" = none
  v_LONGEST_NAME : ∃ t, mg "LONGEST_NAME" = some (.int 8 t)
  v_FEWEST_ROUTERS : ∃ t, mg "FEWEST_ROUTERS" = some (.int 2 t)
  v_MOST_ROUTERS : ∃ t, mg "MOST_ROUTERS" = some (.int 8 t)
  v_MOST_LINKS : ∃ t, mg "MOST_LINKS" = some (.int 16 t)
  v_LEAST_ROW : ∃ t, mg "LEAST_ROW" = some (.int 2 t)
  v_MOST_ROWS : ∃ t, mg "MOST_ROWS" = some (.int 8 t)
  hn : PySem.W.specialIn K (.builtin "object.__class__") "__get__" = some (some (.builtin "getset_descriptor.__get__"))
  ht : PySem.W.takesIn K (.builtin "object.__class__") = some true
  cN : ErrN K mg (ca 5)
  c_BadNet : ErrC K mg "BadNet" (ca 6) (ca 5)
  FI_BadNet : Fun K "__init__" "BadNet.__init__" (inClass (topS 6) 0) (ia 6) (fi 6)
  iC_BadNet : PySem.W.findIn K (.ref (ca 6)) "__init__" = some (some (.ref (ia 6)))
  tI_BadNet : PySem.W.typeIn K (.ref (ia 6)) = some (.type "function")
  no_BadNet_value : PySem.W.findIn K (.ref (ca 6)) "value" = some none
  c_NoRouter : ErrC K mg "NoRouter" (ca 7) (ca 5)
  FI_NoRouter : Fun K "__init__" "NoRouter.__init__" (inClass (topS 7) 0) (ia 7) (fi 7)
  iC_NoRouter : PySem.W.findIn K (.ref (ca 7)) "__init__" = some (some (.ref (ia 7)))
  tI_NoRouter : PySem.W.typeIn K (.ref (ia 7)) = some (.type "function")
  no_NoRouter_value : PySem.W.findIn K (.ref (ca 7)) "value" = some none
  c_BadRows : ErrC K mg "BadRows" (ca 8) (ca 5)
  FI_BadRows : Fun K "__init__" "BadRows.__init__" (inClass (topS 8) 0) (ia 8) (fi 8)
  iC_BadRows : PySem.W.findIn K (.ref (ca 8)) "__init__" = some (some (.ref (ia 8)))
  tI_BadRows : PySem.W.typeIn K (.ref (ia 8)) = some (.type "function")
  no_BadRows_value : PySem.W.findIn K (.ref (ca 8)) "value" = some none
  g_Net : mg "Net" = some (.ref (ca 20))
  nd : ([ca 5, ca 6, ca 7, ca 8] : List Addr).Nodup
  cl_Net : Cls K (ca 20)
  M_Net : Mk K (ca 20) (ia 100)
  no_Net_routers : NoAttr K (ca 20) "_routers"
  no_Net_links : NoAttr K (ca 20) "_links"
  F_m_init : Fun K "__init__" "Net.__init__" s_m_init (ia 100) (fi 100)
  F_m_routers : Fun K "routers" "Net.routers" s_m_routers (ia 101) (fi 101)
  P_routers : ∃ pa, PropOf K (ca 20) "routers" pa (ia 101)
  F_m_links : Fun K "links" "Net.links" s_m_links (ia 102) (fi 102)
  P_links : ∃ pa, PropOf K (ca 20) "links" pa (ia 102)
  F_m_u_eq_ : Fun K "__eq__" "Net.__eq__" s_m_u_eq_ (ia 103) (fi 103)
  E_Net : PySem.W.findIn K (.ref (ca 20)) "__eq__" = some (some (.ref (ia 103))) ∧ PySem.W.isFn K (.ref (ia 103)) = true
  N_Net : PySem.W.findIn K (.ref (ca 20)) "__ne__" = some (some (.builtin "object.__ne__"))
  O_Net : PySem.W.mroIn K (ca 20) (.type "object") = some true
  H_Net : PySem.W.findIn K (.ref (ca 20)) "__class__" = some (some (.builtin "object.__class__"))
  I_Net : PySem.W.typeIn K (.ref (ca 20)) = some (.type "type")
  F_m_length : Fun K "length" "Net.length" s_m_length (ia 104) (fi 104)
  Me_m_length : Meth K (ca 20) "length" (ia 104)
  F_m_with_link : Fun K "with_link" "Net.with_link" s_m_with_link (ia 105) (fi 105)
  F_m_without : Fun K "without" "Net.without" s_m_without (ia 106) (fi 106)
  F_m_u_links_without : Fun K "_links_without" "Net._links_without" s_m_u_links_without (ia 107) (fi 107)
  F__wall : Fun K "_wall" "_wall" s__wall (fa 1) (fd 1)
  g__wall : mg "_wall" = some (.ref (fa 1))
  F_is_integer : Fun K "is_integer" "is_integer" s_is_integer (fa 11) (fd 11)
  g_is_integer : mg "is_integer" = some (.ref (fa 11))
  F_is_integer_from : Fun K "is_integer_from" "is_integer_from" s_is_integer_from (fa 12) (fd 12)
  g_is_integer_from : mg "is_integer_from" = some (.ref (fa 12))
  F_is_tuple_of : Fun K "is_tuple_of" "is_tuple_of" s_is_tuple_of (fa 13) (fd 13)
  g_is_tuple_of : mg "is_tuple_of" = some (.ref (fa 13))
  F_is_name : Fun K "is_name" "is_name" s_is_name (fa 14) (fd 14)
  g_is_name : mg "is_name" = some (.ref (fa 14))
  F_is_rising : Fun K "is_rising" "is_rising" s_is_rising (fa 15) (fd 15)
  g_is_rising : mg "is_rising" = some (.ref (fa 15))
  F_need_routers : Fun K "need_routers" "need_routers" s_need_routers (fa 21) (fd 21)
  g_need_routers : mg "need_routers" = some (.ref (fa 21))
  F_need_router : Fun K "need_router" "need_router" s_need_router (fa 22) (fd 22)
  g_need_router : mg "need_router" = some (.ref (fa 22))
  F_is_length : Fun K "is_length" "is_length" s_is_length (fa 23) (fd 23)
  g_is_length : mg "is_length" = some (.ref (fa 23))
  F_are_routers : Fun K "are_routers" "are_routers" s_are_routers (fa 24) (fd 24)
  g_are_routers : mg "are_routers" = some (.ref (fa 24))
  F_are_links : Fun K "are_links" "are_links" s_are_links (fa 25) (fd 25)
  g_are_links : mg "are_links" = some (.ref (fa 25))
  F_is_link : Fun K "is_link" "is_link" s_is_link (fa 26) (fd 26)
  g_is_link : mg "is_link" = some (.ref (fa 26))
  F_is_row : Fun K "is_row" "is_row" s_is_row (fa 29) (fd 29)
  g_is_row : mg "is_row" = some (.ref (fa 29))
  F_distance : Fun K "distance" "distance" s_distance (fa 31) (fd 31)
  g_distance : mg "distance" = some (.ref (fa 31))
  F_nexts : Fun K "nexts" "nexts" s_nexts (fa 32) (fd 32)
  g_nexts : mg "nexts" = some (.ref (fa 32))
  F_next_table : Fun K "next_table" "next_table" s_next_table (fa 33) (fd 33)
  g_next_table : mg "next_table" = some (.ref (fa 33))
  F_distances_to : Fun K "distances_to" "distances_to" s_distances_to (fa 34) (fd 34)
  g_distances_to : mg "distances_to" = some (.ref (fa 34))
  F_shorten : Fun K "shorten" "shorten" s_shorten (fa 35) (fd 35)
  g_shorten : mg "shorten" = some (.ref (fa 35))
  F_begins : Fun K "begins" "begins" s_begins (fa 36) (fd 36)
  g_begins : mg "begins" = some (.ref (fa 36))
  F_wanted : Fun K "wanted" "wanted" s_wanted (fa 39) (fd 39)
  g_wanted : mg "wanted" = some (.ref (fa 39))
  F_shows_wanted : Fun K "shows_wanted" "shows_wanted" s_shows_wanted (fa 40) (fd 40)
  g_shows_wanted : mg "shows_wanted" = some (.ref (fa 40))
  F_need_rows : Fun K "need_rows" "need_rows" s_need_rows (fa 41) (fd 41)
  g_need_rows : mg "need_rows" = some (.ref (fa 41))
  F_is_linked : Fun K "is_linked" "is_linked" s_is_linked (fa 42) (fd 42)
  g_is_linked : mg "is_linked" = some (.ref (fa 42))
  F_arcs_of : Fun K "arcs_of" "arcs_of" s_arcs_of (fa 43) (fd 43)
  g_arcs_of : mg "arcs_of" = some (.ref (fa 43))
  F_with_lengths : Fun K "with_lengths" "with_lengths" s_with_lengths (fa 44) (fd 44)
  g_with_lengths : mg "with_lengths" = some (.ref (fa 44))
  F_divisor : Fun K "divisor" "divisor" s_divisor (fa 45) (fd 45)
  g_divisor : mg "divisor" = some (.ref (fa 45))
  F_shorter : Fun K "shorter" "shorter" s_shorter (fa 46) (fd 46)
  g_shorter : mg "shorter" = some (.ref (fa 46))
  F_length_of : Fun K "length_of" "length_of" s_length_of (fa 47) (fd 47)
  g_length_of : mg "length_of" = some (.ref (fa 47))
  F_bag_of : Fun K "bag_of" "bag_of" s_bag_of (fa 48) (fd 48)
  g_bag_of : mg "bag_of" = some (.ref (fa 48))
  F_are_lengths : Fun K "are_lengths" "are_lengths" s_are_lengths (fa 49) (fd 49)
  g_are_lengths : mg "are_lengths" = some (.ref (fa 49))
  F_are_swaps : Fun K "are_swaps" "are_swaps" s_are_swaps (fa 50) (fd 50)
  g_are_swaps : mg "are_swaps" = some (.ref (fa 50))
  F_is_swap : Fun K "is_swap" "is_swap" s_is_swap (fa 51) (fd 51)
  g_is_swap : mg "is_swap" = some (.ref (fa 51))
  F_saves : Fun K "saves" "saves" s_saves (fa 52) (fd 52)
  g_saves : mg "saves" = some (.ref (fa 52))
  F_l_pot : Fun K "_law_pot" "_law_pot" s_l_pot (fa 54) (fd 54)
  g_l_pot : mg "_law_pot" = some (.ref (fa 54))
  F_l_take : Fun K "_law_take" "_law_take" s_l_take (fa 55) (fd 55)
  g_l_take : mg "_law_take" = some (.ref (fa 55))
  F_l_pots : Fun K "_law_pots" "_law_pots" s_l_pots (fa 56) (fd 56)
  g_l_pots : mg "_law_pots" = some (.ref (fa 56))
  F_l_of : Fun K "_law_of" "_law_of" s_l_of (fa 57) (fd 57)
  g_l_of : mg "_law_of" = some (.ref (fa 57))
  F_l_turned : Fun K "_law_turned" "_law_turned" s_l_turned (fa 58) (fd 58)
  g_l_turned : mg "_law_turned" = some (.ref (fa 58))
  F_l_names : Fun K "_law_names" "_law_names" s_l_names (fa 59) (fd 59)
  g_l_names : mg "_law_names" = some (.ref (fa 59))
  F_l_far : Fun K "_law_far" "_law_far" s_l_far (fa 60) (fd 60)
  g_l_far : mg "_law_far" = some (.ref (fa 60))
  F_l_pairs : Fun K "_law_pairs" "_law_pairs" s_l_pairs (fa 61) (fd 61)
  g_l_pairs : mg "_law_pairs" = some (.ref (fa 61))
  F_l_world : Fun K "_law_world" "_law_world" s_l_world (fa 62) (fd 62)
  g_l_world : mg "_law_world" = some (.ref (fa 62))
  F_l_made : Fun K "_law_made" "_law_made" s_l_made (fa 63) (fd 63)
  g_l_made : mg "_law_made" = some (.ref (fa 63))
  F_l_lengths : Fun K "_law_lengths" "_law_lengths" s_l_lengths (fa 64) (fd 64)
  g_l_lengths : mg "_law_lengths" = some (.ref (fa 64))
  F_l_odd : Fun K "_law_odd" "_law_odd" s_l_odd (fa 65) (fd 65)
  g_l_odd : mg "_law_odd" = some (.ref (fa 65))
  F_l_bent_part : Fun K "_law_bent_part" "_law_bent_part" s_l_bent_part (fa 66) (fd 66)
  g_l_bent_part : mg "_law_bent_part" = some (.ref (fa 66))
  F_l_bent : Fun K "_law_bent" "_law_bent" s_l_bent (fa 67) (fd 67)
  g_l_bent : mg "_law_bent" = some (.ref (fa 67))
  F_l_caught : Fun K "_law_caught" "_law_caught" s_l_caught (fa 68) (fd 68)
  g_l_caught : mg "_law_caught" = some (.ref (fa 68))
  F_l_walks : Fun K "_law_walks" "_law_walks" s_l_walks (fa 69) (fd 69)
  g_l_walks : mg "_law_walks" = some (.ref (fa 69))
  F_l_is_row : Fun K "_law_is_row" "_law_is_row" s_l_is_row (fa 70) (fd 70)
  g_l_is_row : mg "_law_is_row" = some (.ref (fa 70))
  F_l_are_rows : Fun K "_law_are_rows" "_law_are_rows" s_l_are_rows (fa 71) (fd 71)
  g_l_are_rows : mg "_law_are_rows" = some (.ref (fa 71))
  F_l_values : Fun K "_law_values" "_law_values" s_l_values (fa 72) (fd 72)
  g_l_values : mg "_law_values" = some (.ref (fa 72))
  F_l_case_right : Fun K "_law_case_right" "_law_case_right" s_l_case_right (fa 73) (fd 73)
  g_l_case_right : mg "_law_case_right" = some (.ref (fa 73))
  F_law : Fun K "law" "law" s_law (fa 74) (fd 74)
  g_law : mg "law" = some (.ref (fa 74))
section
variable {P : Program} {w : World} {K : PySem.W.Frag} {mg : Str → Option Value} {base : Heap} {ca ia fa : Nat → Addr} {fd fi : Nat → FuncData}
theorem Txt.k__wall (T : Txt K mg ca ia fa fd fi) : PySem.W.keepIn K (.ref (fa 1)) = true := T.F__wall.kp
theorem Txt.b__wall (T : Txt K mg ca ia fa fd fi) : Binds K (fd 1) ["k"] [] :=
  T.F__wall.binds (ps := ["k"]) fun _ _ _ _ _ _ us hl => match us, hl with | [_], _ => rfl
theorem Txt.k_is_integer (T : Txt K mg ca ia fa fd fi) : PySem.W.keepIn K (.ref (fa 11)) = true := T.F_is_integer.kp
theorem Txt.b_is_integer (T : Txt K mg ca ia fa fd fi) : Binds K (fd 11) ["value"] [] :=
  T.F_is_integer.binds (ps := ["value"]) fun _ _ _ _ _ _ us hl => match us, hl with | [_], _ => rfl
theorem Txt.k_is_integer_from (T : Txt K mg ca ia fa fd fi) : PySem.W.keepIn K (.ref (fa 12)) = true := T.F_is_integer_from.kp
theorem Txt.b_is_integer_from (T : Txt K mg ca ia fa fd fi) : Binds K (fd 12) ["value", "least"] [] :=
  T.F_is_integer_from.binds (ps := ["value", "least"]) fun _ _ _ _ _ _ us hl => match us, hl with | [_, _], _ => rfl
theorem Txt.k_is_tuple_of (T : Txt K mg ca ia fa fd fi) : PySem.W.keepIn K (.ref (fa 13)) = true := T.F_is_tuple_of.kp
theorem Txt.b_is_tuple_of (T : Txt K mg ca ia fa fd fi) : Binds K (fd 13) ["value", "many"] [] :=
  T.F_is_tuple_of.binds (ps := ["value", "many"]) fun _ _ _ _ _ _ us hl => match us, hl with | [_, _], _ => rfl
theorem Txt.k_is_name (T : Txt K mg ca ia fa fd fi) : PySem.W.keepIn K (.ref (fa 14)) = true := T.F_is_name.kp
theorem Txt.b_is_name (T : Txt K mg ca ia fa fd fi) : Binds K (fd 14) ["value"] [] :=
  T.F_is_name.binds (ps := ["value"]) fun _ _ _ _ _ _ us hl => match us, hl with | [_], _ => rfl
theorem Txt.k_is_rising (T : Txt K mg ca ia fa fd fi) : PySem.W.keepIn K (.ref (fa 15)) = true := T.F_is_rising.kp
theorem Txt.b_is_rising (T : Txt K mg ca ia fa fd fi) : Binds K (fd 15) ["values"] [] :=
  T.F_is_rising.binds (ps := ["values"]) fun _ _ _ _ _ _ us hl => match us, hl with | [_], _ => rfl
theorem Txt.k_need_routers (T : Txt K mg ca ia fa fd fi) : PySem.W.keepIn K (.ref (fa 21)) = true := T.F_need_routers.kp
theorem Txt.b_need_routers (T : Txt K mg ca ia fa fd fi) : Binds K (fd 21) ["net", "a", "b"] [] :=
  T.F_need_routers.binds (ps := ["net", "a", "b"]) fun _ _ _ _ _ _ us hl => match us, hl with | [_, _, _], _ => rfl
theorem Txt.k_need_router (T : Txt K mg ca ia fa fd fi) : PySem.W.keepIn K (.ref (fa 22)) = true := T.F_need_router.kp
theorem Txt.b_need_router (T : Txt K mg ca ia fa fd fi) : Binds K (fd 22) ["net", "value"] [] :=
  T.F_need_router.binds (ps := ["net", "value"]) fun _ _ _ _ _ _ us hl => match us, hl with | [_, _], _ => rfl
theorem Txt.k_is_length (T : Txt K mg ca ia fa fd fi) : PySem.W.keepIn K (.ref (fa 23)) = true := T.F_is_length.kp
theorem Txt.b_is_length (T : Txt K mg ca ia fa fd fi) : Binds K (fd 23) ["value"] [] :=
  T.F_is_length.binds (ps := ["value"]) fun _ _ _ _ _ _ us hl => match us, hl with | [_], _ => rfl
theorem Txt.k_are_routers (T : Txt K mg ca ia fa fd fi) : PySem.W.keepIn K (.ref (fa 24)) = true := T.F_are_routers.kp
theorem Txt.b_are_routers (T : Txt K mg ca ia fa fd fi) : Binds K (fd 24) ["value"] [] :=
  T.F_are_routers.binds (ps := ["value"]) fun _ _ _ _ _ _ us hl => match us, hl with | [_], _ => rfl
theorem Txt.k_are_links (T : Txt K mg ca ia fa fd fi) : PySem.W.keepIn K (.ref (fa 25)) = true := T.F_are_links.kp
theorem Txt.b_are_links (T : Txt K mg ca ia fa fd fi) : Binds K (fd 25) ["value", "routers"] [] :=
  T.F_are_links.binds (ps := ["value", "routers"]) fun _ _ _ _ _ _ us hl => match us, hl with | [_, _], _ => rfl
theorem Txt.k_is_link (T : Txt K mg ca ia fa fd fi) : PySem.W.keepIn K (.ref (fa 26)) = true := T.F_is_link.kp
theorem Txt.b_is_link (T : Txt K mg ca ia fa fd fi) : Binds K (fd 26) ["value", "routers"] [] :=
  T.F_is_link.binds (ps := ["value", "routers"]) fun _ _ _ _ _ _ us hl => match us, hl with | [_, _], _ => rfl
theorem Txt.k_is_row (T : Txt K mg ca ia fa fd fi) : PySem.W.keepIn K (.ref (fa 29)) = true := T.F_is_row.kp
theorem Txt.b_is_row (T : Txt K mg ca ia fa fd fi) : Binds K (fd 29) ["value", "routers"] [] :=
  T.F_is_row.binds (ps := ["value", "routers"]) fun _ _ _ _ _ _ us hl => match us, hl with | [_, _], _ => rfl
theorem Txt.k_distance (T : Txt K mg ca ia fa fd fi) : PySem.W.keepIn K (.ref (fa 31)) = true := T.F_distance.kp
theorem Txt.b_distance (T : Txt K mg ca ia fa fd fi) : Binds K (fd 31) ["net", "a", "d"] [] :=
  T.F_distance.binds (ps := ["net", "a", "d"]) fun _ _ _ _ _ _ us hl => match us, hl with | [_, _, _], _ => rfl
theorem Txt.k_nexts (T : Txt K mg ca ia fa fd fi) : PySem.W.keepIn K (.ref (fa 32)) = true := T.F_nexts.kp
theorem Txt.b_nexts (T : Txt K mg ca ia fa fd fi) : Binds K (fd 32) ["net", "a", "d"] [] :=
  T.F_nexts.binds (ps := ["net", "a", "d"]) fun _ _ _ _ _ _ us hl => match us, hl with | [_, _, _], _ => rfl
theorem Txt.k_next_table (T : Txt K mg ca ia fa fd fi) : PySem.W.keepIn K (.ref (fa 33)) = true := T.F_next_table.kp
theorem Txt.b_next_table (T : Txt K mg ca ia fa fd fi) : Binds K (fd 33) ["net", "d"] [] :=
  T.F_next_table.binds (ps := ["net", "d"]) fun _ _ _ _ _ _ us hl => match us, hl with | [_, _], _ => rfl
theorem Txt.k_distances_to (T : Txt K mg ca ia fa fd fi) : PySem.W.keepIn K (.ref (fa 34)) = true := T.F_distances_to.kp
theorem Txt.b_distances_to (T : Txt K mg ca ia fa fd fi) : Binds K (fd 34) ["net", "d"] [] :=
  T.F_distances_to.binds (ps := ["net", "d"]) fun _ _ _ _ _ _ us hl => match us, hl with | [_, _], _ => rfl
theorem Txt.k_shorten (T : Txt K mg ca ia fa fd fi) : PySem.W.keepIn K (.ref (fa 35)) = true := T.F_shorten.kp
theorem Txt.b_shorten (T : Txt K mg ca ia fa fd fi) : Binds K (fd 35) ["found", "a", "n", "length"] [] :=
  T.F_shorten.binds (ps := ["found", "a", "n", "length"]) fun _ _ _ _ _ _ us hl => match us, hl with | [_, _, _, _], _ => rfl
theorem Txt.k_begins (T : Txt K mg ca ia fa fd fi) : PySem.W.keepIn K (.ref (fa 36)) = true := T.F_begins.kp
theorem Txt.b_begins (T : Txt K mg ca ia fa fd fi) : Binds K (fd 36) ["found", "a", "n", "length"] [] :=
  T.F_begins.binds (ps := ["found", "a", "n", "length"]) fun _ _ _ _ _ _ us hl => match us, hl with | [_, _, _, _], _ => rfl
theorem Txt.k_wanted (T : Txt K mg ca ia fa fd fi) : PySem.W.keepIn K (.ref (fa 39)) = true := T.F_wanted.kp
theorem Txt.b_wanted (T : Txt K mg ca ia fa fd fi) : Binds K (fd 39) ["net", "rows"] [] :=
  T.F_wanted.binds (ps := ["net", "rows"]) fun _ _ _ _ _ _ us hl => match us, hl with | [_, _], _ => rfl
theorem Txt.k_shows_wanted (T : Txt K mg ca ia fa fd fi) : PySem.W.keepIn K (.ref (fa 40)) = true := T.F_shows_wanted.kp
theorem Txt.b_shows_wanted (T : Txt K mg ca ia fa fd fi) : Binds K (fd 40) ["net", "rows", "value"] [] :=
  T.F_shows_wanted.binds (ps := ["net", "rows", "value"]) fun _ _ _ _ _ _ us hl => match us, hl with | [_, _, _], _ => rfl
theorem Txt.k_need_rows (T : Txt K mg ca ia fa fd fi) : PySem.W.keepIn K (.ref (fa 41)) = true := T.F_need_rows.kp
theorem Txt.b_need_rows (T : Txt K mg ca ia fa fd fi) : Binds K (fd 41) ["net", "value"] [] :=
  T.F_need_rows.binds (ps := ["net", "value"]) fun _ _ _ _ _ _ us hl => match us, hl with | [_, _], _ => rfl
theorem Txt.k_is_linked (T : Txt K mg ca ia fa fd fi) : PySem.W.keepIn K (.ref (fa 42)) = true := T.F_is_linked.kp
theorem Txt.b_is_linked (T : Txt K mg ca ia fa fd fi) : Binds K (fd 42) ["value", "net"] [] :=
  T.F_is_linked.binds (ps := ["value", "net"]) fun _ _ _ _ _ _ us hl => match us, hl with | [_, _], _ => rfl
theorem Txt.k_arcs_of (T : Txt K mg ca ia fa fd fi) : PySem.W.keepIn K (.ref (fa 43)) = true := T.F_arcs_of.kp
theorem Txt.b_arcs_of (T : Txt K mg ca ia fa fd fi) : Binds K (fd 43) ["links"] [] :=
  T.F_arcs_of.binds (ps := ["links"]) fun _ _ _ _ _ _ us hl => match us, hl with | [_], _ => rfl
theorem Txt.k_with_lengths (T : Txt K mg ca ia fa fd fi) : PySem.W.keepIn K (.ref (fa 44)) = true := T.F_with_lengths.kp
theorem Txt.b_with_lengths (T : Txt K mg ca ia fa fd fi) : Binds K (fd 44) ["net", "lengths"] [] :=
  T.F_with_lengths.binds (ps := ["net", "lengths"]) fun _ _ _ _ _ _ us hl => match us, hl with | [_, _], _ => rfl
theorem Txt.k_divisor (T : Txt K mg ca ia fa fd fi) : PySem.W.keepIn K (.ref (fa 45)) = true := T.F_divisor.kp
theorem Txt.b_divisor (T : Txt K mg ca ia fa fd fi) : Binds K (fd 45) ["numbers"] [] :=
  T.F_divisor.binds (ps := ["numbers"]) fun _ _ _ _ _ _ us hl => match us, hl with | [_], _ => rfl
theorem Txt.k_shorter (T : Txt K mg ca ia fa fd fi) : PySem.W.keepIn K (.ref (fa 46)) = true := T.F_shorter.kp
theorem Txt.b_shorter (T : Txt K mg ca ia fa fd fi) : Binds K (fd 46) ["net", "rows"] [] :=
  T.F_shorter.binds (ps := ["net", "rows"]) fun _ _ _ _ _ _ us hl => match us, hl with | [_, _], _ => rfl
theorem Txt.k_length_of (T : Txt K mg ca ia fa fd fi) : PySem.W.keepIn K (.ref (fa 47)) = true := T.F_length_of.kp
theorem Txt.b_length_of (T : Txt K mg ca ia fa fd fi) : Binds K (fd 47) ["net", "row"] [] :=
  T.F_length_of.binds (ps := ["net", "row"]) fun _ _ _ _ _ _ us hl => match us, hl with | [_, _], _ => rfl
theorem Txt.k_bag_of (T : Txt K mg ca ia fa fd fi) : PySem.W.keepIn K (.ref (fa 48)) = true := T.F_bag_of.kp
theorem Txt.b_bag_of (T : Txt K mg ca ia fa fd fi) : Binds K (fd 48) ["times"] [] :=
  T.F_bag_of.binds (ps := ["times"]) fun _ _ _ _ _ _ us hl => match us, hl with | [_], _ => rfl
theorem Txt.k_are_lengths (T : Txt K mg ca ia fa fd fi) : PySem.W.keepIn K (.ref (fa 49)) = true := T.F_are_lengths.kp
theorem Txt.b_are_lengths (T : Txt K mg ca ia fa fd fi) : Binds K (fd 49) ["value", "net"] [] :=
  T.F_are_lengths.binds (ps := ["value", "net"]) fun _ _ _ _ _ _ us hl => match us, hl with | [_, _], _ => rfl
theorem Txt.k_are_swaps (T : Txt K mg ca ia fa fd fi) : PySem.W.keepIn K (.ref (fa 50)) = true := T.F_are_swaps.kp
theorem Txt.b_are_swaps (T : Txt K mg ca ia fa fd fi) : Binds K (fd 50) ["value", "net", "rows"] [] :=
  T.F_are_swaps.binds (ps := ["value", "net", "rows"]) fun _ _ _ _ _ _ us hl => match us, hl with | [_, _, _], _ => rfl
theorem Txt.k_is_swap (T : Txt K mg ca ia fa fd fi) : PySem.W.keepIn K (.ref (fa 51)) = true := T.F_is_swap.kp
theorem Txt.b_is_swap (T : Txt K mg ca ia fa fd fi) : Binds K (fd 51) ["value", "net", "rows"] [] :=
  T.F_is_swap.binds (ps := ["value", "net", "rows"]) fun _ _ _ _ _ _ us hl => match us, hl with | [_, _, _], _ => rfl
theorem Txt.k_saves (T : Txt K mg ca ia fa fd fi) : PySem.W.keepIn K (.ref (fa 52)) = true := T.F_saves.kp
theorem Txt.b_saves (T : Txt K mg ca ia fa fd fi) : Binds K (fd 52) ["bag"] [] :=
  T.F_saves.binds (ps := ["bag"]) fun _ _ _ _ _ _ us hl => match us, hl with | [_], _ => rfl
theorem Txt.k_l_pot (T : Txt K mg ca ia fa fd fi) : PySem.W.keepIn K (.ref (fa 54)) = true := T.F_l_pot.kp
theorem Txt.b_l_pot (T : Txt K mg ca ia fa fd fi) : Binds K (fd 54) ["_law_script", "_law_k"] [] :=
  T.F_l_pot.binds (ps := ["_law_script", "_law_k"]) fun _ _ _ _ _ _ us hl => match us, hl with | [_, _], _ => rfl
theorem Txt.k_l_take (T : Txt K mg ca ia fa fd fi) : PySem.W.keepIn K (.ref (fa 55)) = true := T.F_l_take.kp
theorem Txt.b_l_take (T : Txt K mg ca ia fa fd fi) : Binds K (fd 55) ["_law_pot_here", "_law_upto"] [] :=
  T.F_l_take.binds (ps := ["_law_pot_here", "_law_upto"]) fun _ _ _ _ _ _ us hl => match us, hl with | [_, _], _ => rfl
theorem Txt.k_l_pots (T : Txt K mg ca ia fa fd fi) : PySem.W.keepIn K (.ref (fa 56)) = true := T.F_l_pots.kp
theorem Txt.b_l_pots (T : Txt K mg ca ia fa fd fi) : Binds K (fd 56) ["_law_script", "_law_most"] [] :=
  T.F_l_pots.binds (ps := ["_law_script", "_law_most"]) fun _ _ _ _ _ _ us hl => match us, hl with | [_, _], _ => rfl
theorem Txt.k_l_of (T : Txt K mg ca ia fa fd fi) : PySem.W.keepIn K (.ref (fa 57)) = true := T.F_l_of.kp
theorem Txt.b_l_of (T : Txt K mg ca ia fa fd fi) : Binds K (fd 57) ["_law_pot_here", "_law_some"] [] :=
  T.F_l_of.binds (ps := ["_law_pot_here", "_law_some"]) fun _ _ _ _ _ _ us hl => match us, hl with | [_, _], _ => rfl
theorem Txt.k_l_turned (T : Txt K mg ca ia fa fd fi) : PySem.W.keepIn K (.ref (fa 58)) = true := T.F_l_turned.kp
theorem Txt.b_l_turned (T : Txt K mg ca ia fa fd fi) : Binds K (fd 58) ["_law_pot_here", "_law_some"] [] :=
  T.F_l_turned.binds (ps := ["_law_pot_here", "_law_some"]) fun _ _ _ _ _ _ us hl => match us, hl with | [_, _], _ => rfl
theorem Txt.k_l_names (T : Txt K mg ca ia fa fd fi) : PySem.W.keepIn K (.ref (fa 59)) = true := T.F_l_names.kp
theorem Txt.b_l_names (T : Txt K mg ca ia fa fd fi) : Binds K (fd 59) ["_law_pot_here", "_law_many"] [] :=
  T.F_l_names.binds (ps := ["_law_pot_here", "_law_many"]) fun _ _ _ _ _ _ us hl => match us, hl with | [_, _], _ => rfl
theorem Txt.k_l_far (T : Txt K mg ca ia fa fd fi) : PySem.W.keepIn K (.ref (fa 60)) = true := T.F_l_far.kp
theorem Txt.b_l_far (T : Txt K mg ca ia fa fd fi) : Binds K (fd 60) ["_law_pot_here"] [] :=
  T.F_l_far.binds (ps := ["_law_pot_here"]) fun _ _ _ _ _ _ us hl => match us, hl with | [_], _ => rfl
theorem Txt.k_l_pairs (T : Txt K mg ca ia fa fd fi) : PySem.W.keepIn K (.ref (fa 61)) = true := T.F_l_pairs.kp
theorem Txt.b_l_pairs (T : Txt K mg ca ia fa fd fi) : Binds K (fd 61) ["_law_pot_here", "_law_routers", "_law_many"] [] :=
  T.F_l_pairs.binds (ps := ["_law_pot_here", "_law_routers", "_law_many"]) fun _ _ _ _ _ _ us hl => match us, hl with | [_, _, _], _ => rfl
theorem Txt.k_l_world (T : Txt K mg ca ia fa fd fi) : PySem.W.keepIn K (.ref (fa 62)) = true := T.F_l_world.kp
theorem Txt.b_l_world (T : Txt K mg ca ia fa fd fi) : Binds K (fd 62) ["_law_pot_here", "_law_least", "_law_most", "_law_more"] [] :=
  T.F_l_world.binds (ps := ["_law_pot_here", "_law_least", "_law_most", "_law_more"]) fun _ _ _ _ _ _ us hl => match us, hl with | [_, _, _, _], _ => rfl
theorem Txt.k_l_made (T : Txt K mg ca ia fa fd fi) : PySem.W.keepIn K (.ref (fa 63)) = true := T.F_l_made.kp
theorem Txt.b_l_made (T : Txt K mg ca ia fa fd fi) : Binds K (fd 63) ["_law_world_here"] [] :=
  T.F_l_made.binds (ps := ["_law_world_here"]) fun _ _ _ _ _ _ us hl => match us, hl with | [_], _ => rfl
theorem Txt.k_l_lengths (T : Txt K mg ca ia fa fd fi) : PySem.W.keepIn K (.ref (fa 64)) = true := T.F_l_lengths.kp
theorem Txt.b_l_lengths (T : Txt K mg ca ia fa fd fi) : Binds K (fd 64) ["_law_links"] [] :=
  T.F_l_lengths.binds (ps := ["_law_links"]) fun _ _ _ _ _ _ us hl => match us, hl with | [_], _ => rfl
theorem Txt.k_l_odd (T : Txt K mg ca ia fa fd fi) : PySem.W.keepIn K (.ref (fa 65)) = true := T.F_l_odd.kp
theorem Txt.b_l_odd (T : Txt K mg ca ia fa fd fi) : Binds K (fd 65) ["_law_pot_here"] [] :=
  T.F_l_odd.binds (ps := ["_law_pot_here"]) fun _ _ _ _ _ _ us hl => match us, hl with | [_], _ => rfl
theorem Txt.k_l_bent_part (T : Txt K mg ca ia fa fd fi) : PySem.W.keepIn K (.ref (fa 66)) = true := T.F_l_bent_part.kp
theorem Txt.b_l_bent_part (T : Txt K mg ca ia fa fd fi) : Binds K (fd 66) ["_law_pot_here", "_law_value"] [] :=
  T.F_l_bent_part.binds (ps := ["_law_pot_here", "_law_value"]) fun _ _ _ _ _ _ us hl => match us, hl with | [_, _], _ => rfl
theorem Txt.k_l_bent (T : Txt K mg ca ia fa fd fi) : PySem.W.keepIn K (.ref (fa 67)) = true := T.F_l_bent.kp
theorem Txt.b_l_bent (T : Txt K mg ca ia fa fd fi) : Binds K (fd 67) ["_law_pot_here", "_law_value", "_law_deep"] [] :=
  T.F_l_bent.binds (ps := ["_law_pot_here", "_law_value", "_law_deep"]) fun _ _ _ _ _ _ us hl => match us, hl with | [_, _, _], _ => rfl
theorem Txt.k_l_caught (T : Txt K mg ca ia fa fd fi) : PySem.W.keepIn K (.ref (fa 68)) = true := T.F_l_caught.kp
theorem Txt.b_l_caught (T : Txt K mg ca ia fa fd fi) : Binds K (fd 68) ["_law_look"] [] :=
  T.F_l_caught.binds (ps := ["_law_look"]) fun _ _ _ _ _ _ us hl => match us, hl with | [_], _ => rfl
theorem Txt.k_l_walks (T : Txt K mg ca ia fa fd fi) : PySem.W.keepIn K (.ref (fa 69)) = true := T.F_l_walks.kp
theorem Txt.b_l_walks (T : Txt K mg ca ia fa fd fi) : Binds K (fd 69) ["_law_pot_here", "_law_world_here", "_law_d", "_law_many"] [] :=
  T.F_l_walks.binds (ps := ["_law_pot_here", "_law_world_here", "_law_d", "_law_many"]) fun _ _ _ _ _ _ us hl => match us, hl with | [_, _, _, _], _ => rfl
theorem Txt.k_l_is_row (T : Txt K mg ca ia fa fd fi) : PySem.W.keepIn K (.ref (fa 70)) = true := T.F_l_is_row.kp
theorem Txt.b_l_is_row (T : Txt K mg ca ia fa fd fi) : Binds K (fd 70) ["_law_world_here", "_law_value"] [] :=
  T.F_l_is_row.binds (ps := ["_law_world_here", "_law_value"]) fun _ _ _ _ _ _ us hl => match us, hl with | [_, _], _ => rfl
theorem Txt.k_l_are_rows (T : Txt K mg ca ia fa fd fi) : PySem.W.keepIn K (.ref (fa 71)) = true := T.F_l_are_rows.kp
theorem Txt.b_l_are_rows (T : Txt K mg ca ia fa fd fi) : Binds K (fd 71) ["_law_world_here", "_law_value"] [] :=
  T.F_l_are_rows.binds (ps := ["_law_world_here", "_law_value"]) fun _ _ _ _ _ _ us hl => match us, hl with | [_, _], _ => rfl
theorem Txt.k_l_values (T : Txt K mg ca ia fa fd fi) : PySem.W.keepIn K (.ref (fa 72)) = true := T.F_l_values.kp
theorem Txt.b_l_values (T : Txt K mg ca ia fa fd fi) : Binds K (fd 72) ["_law_pot_here", "_law_world_here", "_law_rows"] [] :=
  T.F_l_values.binds (ps := ["_law_pot_here", "_law_world_here", "_law_rows"]) fun _ _ _ _ _ _ us hl => match us, hl with | [_, _, _], _ => rfl
theorem Txt.k_l_case_right (T : Txt K mg ca ia fa fd fi) : PySem.W.keepIn K (.ref (fa 73)) = true := T.F_l_case_right.kp
theorem Txt.b_l_case_right (T : Txt K mg ca ia fa fd fi) : Binds K (fd 73) ["_law_pot_here"] [] :=
  T.F_l_case_right.binds (ps := ["_law_pot_here"]) fun _ _ _ _ _ _ us hl => match us, hl with | [_], _ => rfl
theorem Txt.k_law (T : Txt K mg ca ia fa fd fi) : PySem.W.keepIn K (.ref (fa 74)) = true := T.F_law.kp
theorem Txt.b_law (T : Txt K mg ca ia fa fd fi) : Binds K (fd 74) ["_law_script"] [] :=
  T.F_law.binds (ps := ["_law_script"]) fun _ _ _ _ _ _ us hl => match us, hl with | [_], _ => rfl
theorem Txt.b_m_init (T : Txt K mg ca ia fa fd fi) : Binds K (fi 100) ["self", "routers", "links"] [] :=
  T.F_m_init.binds (ps := ["self", "routers", "links"]) fun _ _ _ _ _ _ us hl => match us, hl with | [_, _, _], _ => rfl
theorem Txt.b_m_routers (T : Txt K mg ca ia fa fd fi) : Binds K (fi 101) ["self"] [] :=
  T.F_m_routers.binds (ps := ["self"]) fun _ _ _ _ _ _ us hl => match us, hl with | [_], _ => rfl
theorem Txt.b_m_links (T : Txt K mg ca ia fa fd fi) : Binds K (fi 102) ["self"] [] :=
  T.F_m_links.binds (ps := ["self"]) fun _ _ _ _ _ _ us hl => match us, hl with | [_], _ => rfl
theorem Txt.b_m_u_eq_ (T : Txt K mg ca ia fa fd fi) : Binds K (fi 103) ["self", "other"] [] :=
  T.F_m_u_eq_.binds (ps := ["self", "other"]) fun _ _ _ _ _ _ us hl => match us, hl with | [_, _], _ => rfl
theorem Txt.b_m_length (T : Txt K mg ca ia fa fd fi) : Binds K (fi 104) ["self", "a", "b"] [] :=
  T.F_m_length.binds (ps := ["self", "a", "b"]) fun _ _ _ _ _ _ us hl => match us, hl with | [_, _, _], _ => rfl
theorem Txt.b_m_with_link (T : Txt K mg ca ia fa fd fi) : Binds K (fi 105) ["self", "a", "b", "there", "back"] [] :=
  T.F_m_with_link.binds (ps := ["self", "a", "b", "there", "back"]) fun _ _ _ _ _ _ us hl => match us, hl with | [_, _, _, _, _], _ => rfl
theorem Txt.b_m_without (T : Txt K mg ca ia fa fd fi) : Binds K (fi 106) ["self", "a", "b"] [] :=
  T.F_m_without.binds (ps := ["self", "a", "b"]) fun _ _ _ _ _ _ us hl => match us, hl with | [_, _, _], _ => rfl
theorem Txt.b_m_u_links_without (T : Txt K mg ca ia fa fd fi) : Binds K (fi 107) ["self", "a", "b"] [] :=
  T.F_m_u_links_without.binds (ps := ["self", "a", "b"]) fun _ _ _ _ _ _ us hl => match us, hl with | [_, _, _], _ => rfl
theorem Txt.bi_BadNet (T : Txt K mg ca ia fa fd fi) : Binds K (fi 6) ["self", "value"] [] :=
  T.FI_BadNet.binds (ps := ["self", "value"]) fun _ _ _ _ _ _ us hl => match us, hl with | [_, _], _ => rfl
theorem Txt.bi_NoRouter (T : Txt K mg ca ia fa fd fi) : Binds K (fi 7) ["self", "value"] [] :=
  T.FI_NoRouter.binds (ps := ["self", "value"]) fun _ _ _ _ _ _ us hl => match us, hl with | [_, _], _ => rfl
theorem Txt.bi_BadRows (T : Txt K mg ca ia fa fd fi) : Binds K (fi 8) ["self", "value"] [] :=
  T.FI_BadRows.binds (ps := ["self", "value"]) fun _ _ _ _ _ _ us hl => match us, hl with | [_, _], _ => rfl
end
end Toy
set_option Elab.async false
set_option linter.all false
set_option maxRecDepth 100000
set_option maxHeartbeats 4000000
namespace Toy
open PySem L2 Q

/-! ### pots -/
abbrev potL (o s c : Int) : List V := [.int o, .int s, .int c]
/-- a pot at p, at most B draws of its second kind so far -/
def Pot (H : Hp) (p : Addr) (B : Nat) : Prop := ∃ o s c : Int, H p = some (.lst (potL o s c)) ∧ 0 ≤ o ∧ 0 ≤ s ∧
  s < 2305843009213693952 ∧ 0 ≤ c ∧ c ≤ (B : Int)
/-- all that is tracked but the pot at p is kept -/
def But (p : Addr) (H H' : Hp) : Prop := ∀ b o, b ≠ p → H b = some o → H' b = some o
theorem But.refl (p : Addr) (H : Hp) : But p H H := fun _ _ _ e => e
theorem But.trans {p : Addr} {H H1 H2 : Hp} (a : But p H H1) (b : But p H1 H2) : But p H H2 := fun c o n e => b c o n (a c o n e)
theorem But.of {p : Addr} {H H' : Hp} (s : Same H H') : But p H H' := fun b o _ e => s b o e
theorem Pot.mono {H : Hp} {p : Addr} {B B' : Nat} (h : Pot H p B) (l : B ≤ B') : Pot H p B' := by
  obtain ⟨o, s, c, e, h1, h2, h3, h4, h5⟩ := h
  exact ⟨o, s, c, e, h1, h2, h3, h4, by omega⟩
theorem Pot.same {H H' : Hp} {p : Addr} {B : Nat} (h : Pot H p B) (e : Same H H') : Pot H' p B := by
  obtain ⟨o, s, c, q, r⟩ := h
  exact ⟨o, s, c, e _ _ q, r⟩
theorem same_new {H : Hp} {a : Addr} {o : HO} (n : H a = none) : Same H (upd H a o) := fun b u e => by
  rw [upd_ne (ne_of_none e n)]
  exact e
theorem but_upd {H : Hp} {a : Addr} {o : HO} : But a H (upd H a o) := fun b u n e => by rw [upd_ne n]; exact e
/-- items read -/
theorem ixl {K : PySem.W.Frag} {H : Hp} {p : Addr} {xs : List V} {z : V} {Q : VK} (j : Nat) (h : SqL K H p xs)
    (e : xs[j]? = some z) (q : Q z H) : rIx K (.ref p) (.int (j : Int)) H Q :=
  .inl ⟨p, xs, (j : Int), z, rfl, rfl, h, atI_nat e, q⟩
theorem emod_lt31 {a b : Int} (hb : 0 < b) (h : b < 2147483648) : 0 ≤ a % b ∧ a % b < 2147483648 :=
  ⟨Int.emod_nonneg _ (by omega), Int.lt_trans (Int.emod_lt_of_pos _ hb) h⟩
theorem modN (a : Int) {n : Int} (hn : 0 < n) : ∃ d : Nat, a % n = (d : Int) ∧ (d : Int) < n := by
  obtain ⟨d, hd⟩ := Int.eq_ofNat_of_zero_le (Int.emod_nonneg a (show n ≠ 0 by omega))
  exact ⟨d, hd, hd ▸ Int.emod_lt_of_pos a hn⟩

/-- an assignment, its value's reading apart -/
theorem asg {te : TE} {g : TG} {D : Ends} {σ : L2.St} {H : Hp} (P : V → Hp → Prop)
    (h : ∀ Q : VK, (∀ v H', P v H' → Q v H') → te σ H Q) (k : ∀ v H', P v H' → g v σ H' D.nx) : tAsg te g D σ H := h _ k
theorem seqA {te : TE} {g : TG} {u : TS} {D : Ends} {σ : L2.St} {H : Hp} (P : V → Hp → Prop)
    (h : ∀ Q : VK, (∀ v H', P v H' → Q v H') → te σ H Q) (k : ∀ v H', P v H' → g v σ H' (u D)) : tSeq (tAsg te g) u D σ H := h _ k
theorem seqS {te : TE} {i : Nat} {u : TS} {D : Ends} {σ : L2.St} {H : Hp} (P : V → Hp → Prop)
    (h : ∀ Q : VK, (∀ v H', P v H' → Q v H') → te σ H Q) (k : ∀ v H', P v H' → u D (σ.set i (some v)) H') : tSeq (tAsg te (gName i)) u D σ H := h _ k
theorem ret {te : TE} {D : Ends} {σ : L2.St} {H : Hp} (P : V → Hp → Prop)
    (h : ∀ Q : VK, (∀ v H', P v H' → Q v H') → te σ H Q) (k : ∀ v H', P v H' → D.rt v H') : tRet te D σ H := h _ k
theorem nxt {f : L2.St → Hp → Prop} {rt : VK} {bk ct : L2.St → Hp → Prop} {σ : L2.St} {H : Hp} (h : f σ H) : Ends.nx ⟨f, rt, bk, ct⟩ σ H := h
theorem stepH {α : Type} {G : α → Hp → Prop} {σ : α} {H0 : Hp} (P : Hp → Prop) (h : P H0) (k : ∀ H', P H' → G σ H') : G σ H0 := k H0 h
abbrev primes : List V := [.int 2147483647, .int 2147483629, .int 2147483587, .int 2147483579, .int 2147483563]
theorem prime_at {d : Nat} (h : d < 5) : ∃ pr : Int, primes[d]? = some (.int pr) ∧ 0 < pr ∧ pr < 2147483648 := by
  match d, h with
  | 0, _ => exact ⟨_, rfl, by decide, by decide⟩
  | 1, _ => exact ⟨_, rfl, by decide, by decide⟩
  | 2, _ => exact ⟨_, rfl, by decide, by decide⟩
  | 3, _ => exact ⟨_, rfl, by decide, by decide⟩
  | 4, _ => exact ⟨_, rfl, by decide, by decide⟩
theorem mulOk {i j : Int} (hi : i.natAbs < 2 ^ 64) (hj : j.natAbs < 2 ^ 64) : CMulW i j :=
  wide_mul hi hj (by decide) (by decide) (by decide)
/-- _law_take(pot, n): some number from 0 below n -/
def spTake (K : PySem.W.Frag) : Sp := fun vs H Q _ => ∃ (p : Addr) (n : Int) (B : Nat), vs = [.ref p, .int n] ∧ Pot H p B ∧
  0 < n ∧ n < 1073741824 ∧ B < 1000000 ∧
  ∀ (d : Nat) (H' : Hp), (d : Int) < n → But p H H' → Pot H' p (B + 1) → Q (.int d) H'
theorem pw_bound {s c : Int} (h1 : 0 ≤ s) (h2 : s < 2305843009213693952) (h3 : 0 ≤ c) (h4 : c ≤ 1000001) :
    (s + 99989 * c * c + 71).natAbs < 2 ^ 64 := by
  have h5 : 99989 * c * c ≤ 99989 * 1000001 * 1000001 := by
    have a : 99989 * c ≤ 99989 * 1000001 := by omega
    exact Int.le_trans (Int.mul_le_mul_of_nonneg_right a h3) (Int.mul_le_mul_of_nonneg_left h4 (by omega))
  have h6 : 0 ≤ 99989 * c * c := Int.mul_nonneg (by omega) h3
  omega
section
variable {P : Program} {w : World} {K : PySem.W.Frag} {mg : Str → Option Value} {base : Heap} {ca ia fa : Nat → Addr} {fd fi : Nat → FuncData}
theorem ok_take (T : Txt K mg ca ia fa fd fi) : FnOk P w K mg base CX0 1 (fa 55) (fd 55) ["_law_pot_here", "_law_upto"] (spTake K) := by
  refine T.F_l_take.ok sc_l_take (fun vs H Q E h => ?_) (fun cdv A outer s H vs Q E hr h => ?_)
  · obtain ⟨p, n, B, rfl, _⟩ := h
    rfl
  · obtain ⟨p, n, B, rfl, ⟨o, sd, c, hp, h1, h2, h3, h4, h5⟩, hn, hn2, hB, k⟩ := h
    refine ⟨_, (pss_cons (ps_if (pt_cmpR op_gt (pe_ix ix_seq (pv 0) pe_int (fun _ _ => rfl)) pe_int (nomark _)) (pss_cons (ps_set (i := 2) sc_l_take.nd rfl (Or.inl rfl) (pe_op op_mod (pe_callTy call_int1 (by rfl) T.n_int (by decide +kernel) (pa_cons (pe_ix ix_seq (pv 0) pe_int (fun _ _ => rfl)) pa_nil)) (pv 1)))
      (pss_cons (ps_asg (pe_op op_fdiv (pe_ix ix_seq (pv 0) pe_int (fun _ _ => rfl)) (pv 1)) (pg_sub (pv 0) pe_int set_list))
      (pss_one (ps_ret (pv 2))))) pss_nil)
      (pss_cons (ps_asg (pe_op op_add (pe_ix ix_seq (pv 0) pe_int (fun _ _ => rfl)) pe_int) (pg_sub (pv 0) pe_int set_list))
      (pss_cons (ps_set (i := 3) sc_l_take.nd rfl (Or.inl rfl) (pe_ix ix_seq (pe_lst (pa_cons pe_int (pa_cons pe_int (pa_cons pe_int (pa_cons pe_int (pa_cons pe_int pa_nil)))))) (pe_op op_mod (pe_callTy call_int1 (by rfl) T.n_int (by decide +kernel) (pa_cons (pe_ix ix_seq (pv 0) pe_int (fun _ _ => rfl)) pa_nil)) pe_int) (fun _ _ => rfl)))
      (pss_cons (ps_set (i := 4) sc_l_take.nd rfl (Or.inl rfl) (pe_op op_mod (pe_callTy call_int1 (by rfl) T.n_int (by decide +kernel) (pa_cons (pe_op op_pw (pe_callTy call_int1 (by rfl) T.n_int (by decide +kernel) (pa_cons (pe_op op_add (pe_op op_add (pe_ix ix_seq (pv 0) pe_int (fun _ _ => rfl)) (pe_op op_mulW (pe_op op_mulW pe_int (pe_ix ix_seq (pv 0) pe_int (fun _ _ => rfl))) (pe_ix ix_seq (pv 0) pe_int (fun _ _ => rfl)))) pe_int) pa_nil)) pe_int) pa_nil)) (pv 3)))
      (pss_cons (ps_set (i := 4) sc_l_take.nd rfl (Or.inl rfl) (pe_op op_mod (pe_callTy call_int1 (by rfl) T.n_int (by decide +kernel) (pa_cons (pe_op op_mulW (pv 4) (pe_op op_add (pe_op op_mod (pe_callTy call_int1 (by rfl) T.n_int (by decide +kernel) (pa_cons (pv 4) pa_nil)) pe_int) (pe_op op_mulW pe_int (pe_ix ix_seq (pv 0) pe_int (fun _ _ => rfl))))) pa_nil)) pe_int))
      (pss_one (ps_ret (pe_op op_mod (pe_callTy call_int1 (by rfl) T.n_int (by decide +kernel) (pa_cons (pe_op op_fdiv (pv 4) pe_int) pa_nil)) (pv 1))))))))), ?_⟩
    refine ⟨_, rfl, ixl 0 (SqL.of hp) rfl ⟨_, _, rfl, rfl, _, rfl, ite2 (fun ho => ?_) (fun ho => ?_)⟩⟩
    · have ho : 0 < o := of_decide_eq_true ho
      refine ⟨_, rfl, ixl 0 (SqL.of hp) rfl (.inl ⟨_, rfl, _, rfl, _, _, rfl, rfl, by omega, ?_⟩)⟩
      refine ⟨_, rfl, ixl 0 (SqL.of hp) rfl ⟨_, rfl, _, _, rfl, rfl, ⟨hn, hn2⟩, ?_⟩⟩
      refine ⟨_, rfl, p, _, 0, 0, rfl, rfl, hp, rfl, ?_⟩
      refine ⟨_, rfl, ?_⟩
      obtain ⟨d, hd, hl⟩ := modN o hn
      show Q (.int (o % n)) _
      rw [hd]
      exact k d _ hl but_upd ⟨o / n, sd, c, upd_same, Int.ediv_nonneg h1 (by omega), h2, h3, h4, by omega⟩
    · have ho : ¬ 0 < o := fun z => ho (decide_eq_true z)
      -- the counter goes up
      refine ⟨_, rfl, ixl 2 (SqL.of hp) rfl ⟨_, _, rfl, rfl, _, rfl, p, _, 2, 2, rfl, rfl, hp, rfl, ?_⟩⟩
      refine stepH (fun H1 => H1 p = some (.lst (potL o sd (c + 1))) ∧ But p H H1) ⟨upd_same, but_upd⟩ ?_
      rintro H1 ⟨e1, b1⟩
      -- the prime
      refine nxt ?_
      refine seqA (fun v H2 => (∃ pr : Int, v = .int pr ∧ 0 < pr ∧ pr < 2147483648) ∧ H2 p = some (.lst (potL o sd (c + 1))) ∧ But p H H2) (fun Q k => ?_) ?_
      · refine ⟨by show 5 ≤ sizeLine; decide, fun l hl => ?_⟩
        refine ⟨_, rfl, ixl 2 (SqL.of (same_new hl _ _ e1)) rfl (.inl ⟨_, rfl, _, _, rfl, rfl, (show (0 : Int) < 5 by decide), ?_⟩)⟩
        obtain ⟨d, hd, hl5⟩ := modN (c + 1) (show (0 : Int) < 5 by decide)
        obtain ⟨pr, hpr, p0, p1⟩ := prime_at (show d < 5 by omega)
        show rIx K (.ref l) (.int ((c + 1) % 5)) _ Q
        rw [hd]
        exact ixl d (SqL.of upd_same) hpr (k _ _ ⟨⟨pr, rfl, p0, p1⟩, same_new hl _ _ e1, b1.trans (But.of (same_new hl))⟩)
      rintro _ H2 ⟨⟨pr, rfl, p0, p1⟩, e2, b2⟩
      -- stirred
      have z0 : 0 ≤ c + 1 := by omega
      have z1 : c + 1 ≤ 1000001 := by omega
      have k1 := mulOk (show (99989 : Int).natAbs < 2 ^ 64 by decide) (show (c + 1).natAbs < 2 ^ 64 by omega)
      have k2 := mulOk (show (99989 * (c + 1)).natAbs < 2 ^ 64 by omega) (show (c + 1).natAbs < 2 ^ 64 by omega)
      have k3 := pw_bound h2 h3 z0 z1
      refine seqA (fun v H3 => H2 = H3 ∧ ∃ s1 : Nat, v = .int (s1 : Int) ∧ (s1 : Int) < 2147483648) (fun Q k => ?_) ?_
      · refine ⟨_, rfl, ixl 1 (SqL.of e2) rfl ⟨_, rfl, ixl 2 (SqL.of e2) rfl ⟨_, _, rfl, rfl, k1, _, rfl, ixl 2 (SqL.of e2) rfl ⟨_, _, rfl, rfl, k2, ?_⟩⟩⟩⟩
        refine ⟨_, _, rfl, rfl, _, _, rfl, rfl, .inl ⟨_, rfl, _, _, rfl, rfl, ⟨by decide, 64, k3, by decide⟩, ?_⟩⟩
        refine .inl ⟨_, rfl, _, rfl, _, _, rfl, rfl, p0, ?_⟩
        obtain ⟨s1, hs1, l1⟩ := modN ((sd + 99989 * (c + 1) * (c + 1) + 71) ^ (3 : Int).toNat) p0
        exact k _ _ ⟨rfl, s1, congrArg V.int hs1, by omega⟩
      rintro _ _ ⟨rfl, s1, rfl, l1⟩
      -- stirred again
      refine seqA (fun v H3 => H2 = H3 ∧ ∃ s1 : Nat, v = .int (s1 : Int)) (fun Q k => ?_) ?_
      · obtain ⟨s2, hs2, l2⟩ := modN (s1 : Int) (show (0 : Int) < 10007 by decide)
        have k4 := mulOk (show (83 : Int).natAbs < 2 ^ 64 by decide) (show (c + 1).natAbs < 2 ^ 64 by omega)
        have k5 := mulOk (show (s1 : Int).natAbs < 2 ^ 64 by omega) (show ((s1 : Int) % 10007 + 83 * (c + 1)).natAbs < 2 ^ 64 by omega)
        refine ⟨_, rfl, _, rfl, .inl ⟨_, rfl, _, _, rfl, rfl, (show (0 : Int) < 10007 by decide), _, rfl, ixl 2 (SqL.of e2) rfl ⟨_, _, rfl, rfl, k4, _, _, rfl, rfl, ?_⟩⟩⟩
        refine ⟨_, _, rfl, rfl, k5, .inl ⟨_, rfl, _, _, rfl, rfl, (show (0 : Int) < 2305843009213693907 by decide), ?_⟩⟩
        obtain ⟨s3, hs3, l3⟩ := modN ((s1 : Int) * ((s1 : Int) % 10007 + 83 * (c + 1))) (show (0 : Int) < 2305843009213693907 by decide)
        exact k _ _ ⟨rfl, s3, congrArg V.int hs3⟩
      rintro _ _ ⟨rfl, s3, rfl⟩
      refine ⟨_, rfl, _, _, rfl, rfl, ⟨by decide, by decide⟩, .inl ⟨_, rfl, _, rfl, _, _, rfl, rfl, hn, ?_⟩⟩
      obtain ⟨s4, hs4, l4⟩ := modN ((s3 : Int) / 103) hn
      show Q (.int (((s3 : Int) / 103) % n)) _
      rw [hs4]
      exact k s4 _ l4 b2 ⟨o, sd, c + 1, e2, h1, h2, h3, z0, by omega⟩
end
end Toy
set_option Elab.async false
set_option linter.all false
set_option maxRecDepth 100000
set_option maxHeartbeats 4000000
namespace Toy
open PySem L2 Q
/-- a sequence that can be drawn from while the pot is at p: its items -/
def Items (K : PySem.W.Frag) (H : Hp) (p : Addr) (x : V) (xs : List V) : Prop :=
  (∃ a, x = .ref a ∧ a ≠ p ∧ SqL K H a xs) ∨ (∃ a, x = .ref a ∧ SqT K H a xs) ∨
    (∃ z : Str, x = .str z ∧ xs = z.cps.toList.map (fun c => V.str ⟨#[c]⟩) ∧ z.length ≤ sizeLine)
theorem seq_but {K : PySem.W.Frag} {p a : Addr} {H H' : Hp} {xs : List V} (b : But p H H') (n : a ≠ p) (h : SqL K H a xs) : SqL K H' a xs := by
  rcases h with (h | ⟨o, h⟩) | h
  · exact .inl (.inl (b _ _ n h))
  · exact .inl (.inr ⟨o, b _ _ n h⟩)
  · exact .inr h
theorem tup_but {K : PySem.W.Frag} {p a : Addr} {H H' : Hp} {xs : List V} (b : But p H H') {q : List V} (hp : H p = some (.lst q)) (h : SqT K H a xs) : SqT K H' a xs := by
  rcases h with (h | ⟨o, h⟩) | h
  · refine .inl (.inl (b _ _ ?_ h))
    rintro rfl
    rw [hp] at h
    cases h
  · refine .inl (.inr ⟨o, b _ _ ?_ h⟩)
    rintro rfl
    rw [hp] at h
    cases h
  · exact .inr h
/-- _law_of(pot, some): one of them -/
def spOf (K : PySem.W.Frag) : Sp := fun vs H Q _ => ∃ (p : Addr) (x : V) (xs : List V) (B : Nat), vs = [.ref p, x] ∧ Pot H p B ∧ B < 1000000 ∧
  Items K H p x xs ∧ 0 < xs.length ∧ xs.length < 1073741824 ∧
  ∀ (d : Nat) (v : V) (H' : Hp), xs[d]? = some v → But p H H' → Pot H' p (B + 1) → Q v H'
/-- _law_pot(script, k): a new pot -/
def spPot (K : PySem.W.Frag) : Sp := fun vs H Q _ => ∃ (a : Addr) (ns : List Int) (k : Nat), vs = [.ref a, .int (k : Int)] ∧ SqL K H a (ns.map V.int) ∧ k < 1000 ∧
  ns.length ≤ 63 ∧ ∀ (p : Addr) (H' : Hp), Same H H' → H p = none → Pot H' p 0 → Q (.ref p) H'
/-- _law_pots(script, n): some new pots, each by itself -/
def spPots (K : PySem.W.Frag) : Sp := fun vs H Q _ => ∃ (a : Addr) (ns : List Int) (n : Nat), vs = [.ref a, .int (n : Int)] ∧ SqL K H a (ns.map V.int) ∧ n < 1000 ∧
  ns.length ≤ 63 ∧ ∀ (l : Addr) (ps : List Addr) (H' : Hp), Same H H' → H' l = some (.lst (ps.map V.ref)) → ps.length ≤ 1000 → ps.Nodup → l ∉ ps →
    (∀ p ∈ ps, Pot H' p 0) → Q (.ref l) H'
theorem b01 (b : Bool) : (if b = true then (1 : Int) else 0).natAbs < 2 ^ 4 ∧ (0 : Int) ≤ (if b = true then (1 : Int) else 0) := by
  cases b <;> decide
theorem two60 : (10 : Int) ^ (60 : Int).toNat = 10 ^ 60 := by decide
theorem big_nn : (0 : Int) < ((10 : Int) ^ (60 : Int).toNat) ^ (5 : Int).toNat := by decide +kernel
theorem big_lt {x : Int} (h : x < ((10 : Int) ^ (60 : Int).toNat) ^ (5 : Int).toNat) (h0 : 0 ≤ x) : x.natAbs < 2 ^ 1000 := by
  have e : ((10 : Int) ^ (60 : Int).toNat) ^ (5 : Int).toNat < 2 ^ 1000 := by decide +kernel
  omega
section
variable {P : Program} {w : World} {K : PySem.W.Frag} {mg : Str → Option Value} {base : Heap} {ca ia fa : Nat → Addr} {fd fi : Nat → FuncData}
theorem ok_of (T : Txt K mg ca ia fa fd fi) : FnOk P w K mg base CX0 2 (fa 57) (fd 57) ["_law_pot_here", "_law_some"] (spOf K) := by
  have G_l_take := ok_take (P := P) (w := w) (base := base) T
  refine T.F_l_of.ok sc_l_of (fun vs H Q E h => ?_) (fun cdv A outer s H vs Q E hr h => ?_)
  · obtain ⟨p, x, xs, B, rfl, _⟩ := h
    rfl
  · obtain ⟨p, x, xs, B, rfl, hp, hB, hx, h0, h1, k⟩ := h
    obtain ⟨o, sd, c, hpp, _⟩ := id hp
    refine ⟨_, (pss_one (ps_ret (pe_ix ix_seq (pv 1) (pe_call G_l_take (hr.mono (by decide)) rfl T.g_l_take T.k_l_take T.b_l_take .nil pass0 (pa_cons (pv 0) (pa_cons (pe_callB call_len (by rfl) T.n_len (by decide +kernel) (pa_cons (pv 1) pa_nil)) pa_nil))) (fun _ _ => rfl)))), ?_⟩
    have lenV : LenV K x H xs.length := by
      rcases hx with ⟨a, rfl, _, h⟩ | ⟨a, rfl, h⟩ | ⟨z, rfl, e, hz⟩
      · exact .inl ⟨xs, h, rfl⟩
      · exact .inr ⟨xs, h, rfl⟩
      · refine ⟨hz, ?_⟩
        rw [e, List.length_map]
        rfl
    refine ⟨_, rfl, _, rfl, _, rfl, _, _, rfl, lenV, p, _, B, rfl, hp, by omega, by omega, hB, fun d H' hd hb hp' => ?_⟩
    obtain ⟨v, hv⟩ : ∃ v, xs[d]? = some v := ⟨_, List.getElem?_eq_getElem (show d < xs.length by omega)⟩
    have fin := k d v H' hv hb hp'
    rcases hx with ⟨a, rfl, ne, h⟩ | ⟨a, rfl, h⟩ | ⟨z, rfl, e, hz⟩
    · exact .inl ⟨a, xs, d, v, rfl, rfl, seq_but hb ne h, atI_nat hv, fin⟩
    · exact .inr (.inl ⟨a, xs, d, v, rfl, rfl, tup_but hb hpp h, atI_nat hv, fin⟩)
    · rw [e, List.getElem?_map] at hv
      obtain ⟨c', hc, rfl⟩ := Option.map_eq_some_iff.mp hv
      exact .inr (.inr ⟨z, d, c', rfl, rfl, hz, atI_nat hc, fin⟩)
theorem int_id {i : Int} {H : Hp} {Q : VK} (q : Q (.int i) H) : (∃ j, ([V.int i] : List V) = [V.int j] ∧ Q (.int j) H) ∨ (∃ k, ([V.int i] : List V) = [V.bl k] ∧ Q (.int (if k then 1 else 0)) H) := .inl ⟨i, rfl, q⟩
theorem ok_pot (T : Txt K mg ca ia fa fd fi) : FnOk P w K mg base CX0 1 (fa 54) (fd 54) ["_law_script", "_law_k"] (spPot K) := by
  refine T.F_l_pot.ok sc_l_pot (fun vs H Q E h => ?_) (fun cdv A outer s H vs Q E hr h => ?_)
  · obtain ⟨a, ns, k, rfl, _⟩ := h
    rfl
  · obtain ⟨a, ns, k, rfl, hs, hk, hn, q⟩ := h
    refine ⟨_, (pss_cons (ps_set (i := 2) sc_l_pot.nd rfl (Or.inl rfl) (pe_ifExp (pt_cmpR op_lt (pv 1) (pe_callB call_len (by rfl) T.n_len (by decide +kernel) (pa_cons (pv 0) pa_nil)) (nomark _)) (pe_ix ix_seq (pv 0) (pv 1) (fun _ _ => rfl)) (pe_op op_add (pe_op op_mulW pe_int (pv 1)) pe_int)))
      (pss_cons (ps_set (i := 3) sc_l_pot.nd rfl (Or.inl rfl) (pe_op op_mulW (pe_op op_mod (pe_callTy call_int1 (by rfl) T.n_int (by decide +kernel) (pa_cons (pe_callB call_abs (by rfl) T.n_abs (by decide +kernel) (pa_cons (pv 2) pa_nil)) pa_nil)) (pe_op op_pw (pe_op op_pw pe_int pe_int) pe_int)) (pe_callTy call_int1 (by rfl) T.n_int (by decide +kernel) (pa_cons (pe_cmpR op_ge (pe_callB call_abs (by rfl) T.n_abs (by decide +kernel) (pa_cons (pv 2) pa_nil)) (pe_op op_pw pe_int pe_int) (nomark _)) pa_nil))))
      (pss_one (ps_ret (pe_lst (pa_cons (pv 3) (pa_cons (pe_op op_mod (pe_callTy call_int1 (by rfl) T.n_int (by decide +kernel) (pa_cons (pe_op op_add (pe_op op_add (pe_op op_mulW (pe_op op_mod (pe_callTy call_int1 (by rfl) T.n_int (by decide +kernel) (pa_cons (pv 2) pa_nil)) pe_int) pe_int) (pe_op op_mulW (pe_op op_mulW pe_int (pv 1)) (pv 1))) pe_int) pa_nil)) pe_int) (pa_cons pe_int pa_nil)))))))), ?_⟩
    refine seqS (fun v H' => H = H' ∧ ∃ z : Int, v = .int z) (fun Q k' => ?_) ?_
    · refine ⟨_, rfl, _, rfl, _, _, rfl, .inl ⟨_, hs, rfl⟩, _, _, rfl, rfl, _, rfl, ite2 (fun h => ?_) (fun _ => ?_)⟩
      · have h : (k : Int) < ((ns.map V.int).length : Nat) := of_decide_eq_true h
        rw [List.length_map] at h
        have hz : (ns.map V.int)[k]? = some (.int (ns[k]'(by omega))) := by
          rw [List.getElem?_map, List.getElem?_eq_getElem (by omega)]
          rfl
        exact ⟨_, rfl, _, rfl, ixl k hs hz (k' _ _ ⟨rfl, _, rfl⟩)⟩
      · refine ⟨_, rfl, _, _, rfl, rfl, mulOk (by decide) (by omega), _, _, rfl, rfl, ?_⟩
        exact k' _ _ ⟨rfl, _, rfl⟩
    rintro _ _ ⟨rfl, z, rfl⟩
    have pw1 : CPw 10 60 := ⟨by decide, 4, by decide, by decide⟩
    have pw2 : CPw ((10 : Int) ^ (60 : Int).toNat) 5 := ⟨by decide, 200, by decide +kernel, by decide⟩
    have pw3 : CPw 10 18 := ⟨by decide, 4, by decide, by decide⟩
    refine seqS (fun v H' => H = H' ∧ ∃ z : Int, v = .int z ∧ 0 ≤ z) (fun Q k' => ?_) ?_
    · refine ⟨_, rfl, _, rfl, .inl ⟨_, rfl, _, _, rfl, rfl, pw1, _, _, rfl, rfl, pw2, _, _, rfl, rfl, big_nn, ?_⟩⟩
      obtain ⟨d, hd, hl⟩ := modN (if z < 0 then -z else z) big_nn
      refine ⟨_, rfl, _, rfl, _, _, rfl, rfl, pw3, _, _, rfl, rfl, .inr ⟨_, rfl, ?_⟩⟩
      have ⟨h2, h3⟩ := b01 (decide ((10 : Int) ^ (18 : Int).toNat ≤ if z < 0 then -z else z))
      refine ⟨_, _, rfl, rfl, ?_, ?_⟩
      · show CMulW ((if z < 0 then -z else z) % _) _
        rw [hd]
        exact wide_mul (big_lt hl (by omega)) h2 (by decide) (by decide) (by decide)
      · refine k' _ _ ⟨rfl, _, rfl, ?_⟩
        show 0 ≤ ((if z < 0 then -z else z) % _) * _
        rw [hd]
        exact Int.mul_nonneg (by omega) h3
    rintro _ _ ⟨rfl, own, rfl, hown⟩
    have hp61 : (0 : Int) < 2305843009213693951 := by decide
    obtain ⟨d, hd, hl⟩ := modN z hp61
    have m1 : CMulW (z % 2305843009213693951) 69389 := by
      rw [hd]
      exact mulOk (by omega) (by decide)
    have m2 : CMulW 7561 (k : Int) := mulOk (by decide) (by omega)
    have m3 : CMulW (7561 * (k : Int)) (k : Int) := mulOk (by omega) (by omega)
    refine ⟨_, rfl, _, rfl, .inl ⟨_, rfl, _, _, rfl, rfl, hp61, _, _, rfl, rfl, m1, _, rfl, _, _, rfl, rfl, m2, _, rfl, _, _, rfl, rfl, m3, ?_⟩⟩
    refine ⟨_, _, rfl, rfl, _, _, rfl, rfl, .inl ⟨_, rfl, _, _, rfl, rfl, (show (0 : Int) < 2305843009213693921 by decide), ?_⟩⟩
    refine ⟨by show 3 ≤ sizeLine; decide, fun p hp => ?_⟩
    obtain ⟨d2, hd2, hl2⟩ := modN (z % 2305843009213693951 * 69389 + 7561 * (k : Int) * (k : Int) + 83) (show (0 : Int) < 2305843009213693921 by decide)
    refine q p _ (same_new hp) hp ⟨own, (d2 : Int), 0, ?_, hown, by omega, by omega, by decide, by decide⟩
    rw [← hd2]
    exact upd_same
end
end Toy
set_option Elab.async false
set_option linter.all false
set_option maxRecDepth 100000
set_option maxHeartbeats 4000000
namespace Toy
open PySem L2 Q
section
variable {P : Program} {w : World} {K : PySem.W.Frag} {mg : Str → Option Value} {base : Heap} {ca ia fa : Nat → Addr} {fd fi : Nat → FuncData}
theorem ok_pots (T : Txt K mg ca ia fa fd fi) : FnOk P w K mg base CX0 2 (fa 56) (fd 56) ["_law_script", "_law_most"] (spPots K) := by
  have G_l_pot := ok_pot (P := P) (w := w) (base := base) T
  refine T.F_l_pots.ok sc_l_pots (fun vs H Q E h => ?_) (fun cdv A outer s H vs Q E hr h => ?_)
  · obtain ⟨a, ns, n, rfl, _⟩ := h
    rfl
  · obtain ⟨a, ns, n, rfl, hs, hn, hl, q⟩ := h
    refine ⟨_, (pss_one (ps_ret (pe_lc (own := [("_law_k", 2)]) (g := (gName 2)) (tt := tYes) rfl sc_l_pots.nd (pi_range1 rfl T.n_range (pa_cons (pe_callB (call_max2 rfl) (by rfl) T.n_max (by decide +kernel) (pa_cons pe_int (pa_cons (pe_callB (call_min2 rfl) (by rfl) T.n_min (by decide +kernel) (pa_cons (pe_callTy call_int1 (by rfl) T.n_int (by decide +kernel) (pa_cons (pv 1) pa_nil)) (pa_cons (pe_callB call_len (by rfl) T.n_len (by decide +kernel) (pa_cons (pv 0) pa_nil)) pa_nil))) pa_nil))) pa_nil)) (blkOk_by (own := [("_law_k", 2)]) (N := N_l_pots) (sc := defScope s_l_pots) (by decide +kernel)) (fun _ _ _ _ _ => (pg_name (i := 2) sc_l_pots.nd rfl (Or.inl rfl))) (fun _ _ _ _ _ => pts_nil) (fun _ _ _ _ _ => by exact (pe_call G_l_pot (hr.mono (by decide)) rfl T.g_l_pot T.k_l_pot T.b_l_pot .nil pass0 (pa_cons (pv 0) (pa_cons (pv 2) pa_nil))))))), ?_⟩
    refine ⟨_, rfl, .inl ⟨_, rfl, _, rfl, _, _, rfl, .inl ⟨_, hs, rfl⟩, _, _, rfl, _, _, rfl, ?_⟩⟩
    obtain ⟨m, hm, hm2⟩ : ∃ m : Nat, (if (if ((ns.map V.int).length : Int) < (n : Int) then ((ns.map V.int).length : Int) else (n : Int)) > 1
        then (if ((ns.map V.int).length : Int) < (n : Int) then ((ns.map V.int).length : Int) else (n : Int)) else 1) = (m : Int) ∧ m ≤ 1000 := by
      refine ⟨((if (if ((ns.map V.int).length : Int) < (n : Int) then ((ns.map V.int).length : Int) else (n : Int)) > 1
        then (if ((ns.map V.int).length : Int) < (n : Int) then ((ns.map V.int).length : Int) else (n : Int)) else 1)).toNat, ?_, ?_⟩ <;> repeat' split <;> omega
    rw [hm]
    refine ⟨_, rfl, by omega, by omega, fun D hD => ?_⟩
    refine lc_range (lo := 0) (n := (m : Int).toNat) (fun i H' => ∃ ps : List Addr, ps.length = i ∧ H' D = some (.lst (ps.map V.ref)) ∧ Same H H' ∧ ps.Nodup ∧ D ∉ ps ∧ ∀ p ∈ ps, Pot H' p 0)
      ⟨[], rfl, upd_same, same_new hD, List.nodup_nil, List.not_mem_nil, fun _ z => nomatch z⟩ ?_ ?_
    · rintro i H1 hi ⟨ps, hlen, h1, s1, nd, nD, hp⟩
      refine ⟨rfl, ?_⟩
      dsimp only [tYes]
      rw [if_pos rfl]
      refine ⟨_, rfl, _, rfl, a, ns, i, by rw [Int.zero_add] <;> rfl, s1.seq hs, by omega, hl, fun p H2 s2 np hpot => ?_⟩
      have npD : p ≠ D := fun z => by rw [z, h1] at np; cases np
      have s3 : ∀ {o}, ∀ b u, b ≠ D → H2 b = some u → upd H2 D o b = some u := fun b u n e => by rw [upd_ne n]; exact e
      refine ⟨_, s2 _ _ h1, ?_, ps ++ [p], by simp [hlen], ?_, ?_, ?_, ?_, ?_⟩
      · rw [List.length_map]
        exact small1000 (by omega)
      · rw [upd_same, List.map_append]
        rfl
      · intro b u e
        exact s3 b u (ne_of_none e hD) (s2 _ _ (s1 _ _ e))
      · refine List.nodup_append.mpr ⟨nd, by simp, ?_⟩
        intro x hx y hy e
        have e2 : y = p := by simpa using hy
        subst e2
        obtain ⟨_, _, _, z, _⟩ := hp x hx
        rw [e, np] at z
        cases z
      · intro z
        rcases List.mem_append.mp z with z | z
        · exact nD z
        · exact npD (by simpa using z : D = p).symm
      · intro x hx
        have nx : x ≠ D := by
          rcases List.mem_append.mp hx with z | z
          · rintro rfl
            exact nD z
          · have e2 : x = p := by simpa using z
            rw [e2]
            exact npD
        have px : Pot H2 x 0 := by
          rcases List.mem_append.mp hx with z | z
          · exact (hp x z).same s2
          · have e2 : x = p := by simpa using z
            rw [e2]
            exact hpot
        obtain ⟨o, sd, c, e, r⟩ := px
        exact ⟨o, sd, c, s3 _ _ nx e, r⟩
    · rintro H1 ⟨ps, hlen, h1, s1, nd, nD, hp⟩
      exact q D ps H1 s1 h1 (by omega) nd nD hp
end
end Toy
set_option Elab.async false
set_option linter.all false
set_option maxRecDepth 100000
set_option maxHeartbeats 4000000
namespace Toy
open PySem L2 Q
/-- _law_turned(pot, xs): the items, turned about, in a new list -/
def spTurned (K : PySem.W.Frag) : Sp := fun vs H Q _ => ∃ (p a : Addr) (xs : List V) (B : Nat), vs = [.ref p, .ref a] ∧ Pot H p B ∧ B < 999990 ∧ a ≠ p ∧
  SqL K H a xs ∧ 0 < xs.length ∧ xs.length < 1000000 ∧
  ∀ (ys : List V) (q : Addr) (H' : Hp), ys.Perm xs → But p H H' → Pot H' p (B + 2) → H q = none → H' q = some (.lst ys) → Q (.ref q) H'
/-- _law_far(pot): a length from 1 to 90 -/
def spFar (K : PySem.W.Frag) : Sp := fun vs H Q _ => ∃ (p : Addr) (B : Nat), vs = [.ref p] ∧ Pot H p B ∧ B < 999990 ∧
  ∀ (n : Nat) (H' : Hp), 1 ≤ n → n ≤ 90 → But p H H' → Pot H' p (B + 3) → Q (.int (n : Int)) H'
theorem cut_drop (xs : List V) (d : Nat) : cutV xs (some (d : Int)) none = xs.drop d := by
  unfold cutV
  rw [HT.sIx_nat, HT.sIx_none, List.take_of_length_le (by rw [List.length_drop]; omega)]
  rcases Nat.le_total d xs.length with h | h
  · rw [Nat.min_eq_left h]
  · rw [Nat.min_eq_right h, List.drop_eq_nil_of_le (Nat.le_refl _), List.drop_eq_nil_of_le h]
theorem cut_take (xs : List V) (d : Nat) : cutV xs none (some (d : Int)) = xs.take d := by
  unfold cutV
  rw [HT.sIx_nat, HT.sIx_none, List.drop_zero, Nat.sub_zero]
  rcases Nat.le_total d xs.length with h | h
  · rw [Nat.min_eq_left h]
  · rw [Nat.min_eq_right h, List.take_of_length_le (Nat.le_refl _), List.take_of_length_le h]
theorem rot_perm (xs : List V) (d : Nat) : (xs.drop d ++ xs.take d).Perm xs := by
  have h : (xs.drop d ++ xs.take d).Perm (xs.take d ++ xs.drop d) := List.perm_append_comm
  rw [List.take_append_drop] at h
  exact h
theorem pot_none {H : Hp} {p q : Addr} {B : Nat} (h : Pot H p B) (n : H q = none) : q ≠ p := by
  rintro rfl
  obtain ⟨o, s, c, e, _⟩ := h
  rw [e] at n
  cases n
theorem but_none {H H' : Hp} {p q : Addr} {B : Nat} (b : But p H H') (h : Pot H' p B) (n : H' q = none) : H q = none := by
  cases e : H q with
  | none => rfl
  | some o =>
    rw [b q o (pot_none h n) e] at n
    cases n
theorem pot_but {H H' : Hp} {p a : Addr} {o : HO} (n : H a = none) (h : ∃ B, Pot H p B) (b : But p (upd H a o) H') : H' a = some o := by
  obtain ⟨B, h⟩ := h
  exact b _ _ (pot_none h n) upd_same
section
variable {P : Program} {w : World} {K : PySem.W.Frag} {mg : Str → Option Value} {base : Heap} {ca ia fa : Nat → Addr} {fd fi : Nat → FuncData}
theorem ok_turned (T : Txt K mg ca ia fa fd fi) : FnOk P w K mg base CX0 2 (fa 58) (fd 58) ["_law_pot_here", "_law_some"] (spTurned K) := by
  have G_l_take := ok_take (P := P) (w := w) (base := base) T
  refine T.F_l_turned.ok sc_l_turned (fun vs H Q E h => ?_) (fun cdv A outer s H vs Q E hr h => ?_)
  · obtain ⟨p, a, xs, B, rfl, _⟩ := h
    rfl
  · obtain ⟨p, a, xs, B, rfl, hp, hB, nap, hx, h0, h1, k⟩ := h
    refine ⟨_, (pss_cons (ps_set (i := 2) sc_l_turned.nd rfl (Or.inl rfl) (pe_call G_l_take (hr.mono (by decide)) rfl T.g_l_take T.k_l_take T.b_l_take .nil pass0 (pa_cons (pv 0) (pa_cons (pe_callB call_len (by rfl) T.n_len (by decide +kernel) (pa_cons (pv 1) pa_nil)) pa_nil))))
      (pss_cons (ps_set (i := 3) sc_l_turned.nd rfl (Or.inl rfl) (pe_op op_cat (pe_slice sl_list (pv 1) (po_some (pv 2)) po_none) (pe_slice sl_list (pv 1) po_none (po_some (pv 2)))))
      (pss_one (ps_ret (pe_ifExp (pt_cmpR op_eq (pe_call G_l_take (hr.mono (by decide)) rfl T.g_l_take T.k_l_take T.b_l_take .nil pass0 (pa_cons (pv 0) (pa_cons pe_int pa_nil))) pe_int (nomark _)) (pe_revL (pv 3)) (pv 3)))))), ?_⟩
    refine seqS (fun v H' => ∃ d : Nat, v = .int (d : Int) ∧ But p H H' ∧ Pot H' p (B + 1)) (fun Q k' => ?_) ?_
    · refine ⟨_, rfl, _, rfl, _, _, rfl, .inl ⟨xs, hx, rfl⟩, p, _, B, rfl, hp, by omega, by omega, by omega, fun d H' hd hb hp' => k' _ _ ⟨d, rfl, hb, hp'⟩⟩
    rintro _ H1 ⟨d, rfl, b1, p1⟩
    have hx1 := seq_but b1 nap hx
    refine seqS (fun v H' => ∃ q, v = .ref q ∧ Same H1 H' ∧ H1 q = none ∧ H' q = some (.lst (xs.drop d ++ xs.take d))) (fun Q k' => ?_) ?_
    · refine ⟨_, rfl, _, rfl, _, rfl, a, xs, rfl, hx1, fun l1 n1 => ?_⟩
      refine ⟨_, rfl, _, rfl, _, rfl, a, xs, rfl, (same_new n1).seq hx1, fun l2 n2 => ?_⟩
      have e1 := cut_drop xs d
      have e2 := cut_take xs d
      refine ⟨l1, l2, xs.drop d, xs.take d, rfl, rfl, ?_, ?_, ?_, fun q nq => k' _ _ ⟨q, rfl, ?_, ?_, upd_same⟩⟩
      · rw [same_new n2 _ _ upd_same, e1]
      · rw [upd_same, e2]
      · rw [List.length_drop, List.length_take, sizeLine_eq]
        omega
      · exact ((same_new n1).trans (same_new n2)).trans (same_new nq)
      · cases e : H1 q with
        | none => rfl
        | some o =>
          rw [((same_new n1).trans (same_new n2)) _ _ e] at nq
          cases nq
    rintro _ H2 ⟨q, rfl, s2, nq, hq⟩
    have p2 := p1.same s2
    have nqp : q ≠ p := pot_none p1 nq
    have nH : H q = none := but_none b1 p1 nq
    refine ⟨_, rfl, p, 2, B + 1, rfl, p2, by decide, by decide, by omega, fun d2 H3 hd2 b3 p3 => ?_⟩
    have h3 : H3 q = some (.lst (xs.drop d ++ xs.take d)) := b3 _ _ nqp hq
    have b13 : But p H H3 := (b1.trans (But.of s2)).trans b3
    refine ⟨rfl, _, rfl, ite2 (fun _ => ?_) (fun _ => ?_)⟩
    · refine ⟨_, rfl, q, _, rfl, SqL.of h3, fun r nr => ?_⟩
      exact k _ r _ ((List.reverse_perm _).trans (rot_perm xs d)) (b13.trans (But.of (same_new nr))) (p3.same (same_new nr)) (but_none b13 p3 nr) upd_same
    · exact ⟨_, rfl, k _ q _ (rot_perm xs d) b13 p3 nH h3⟩
theorem ok_far (T : Txt K mg ca ia fa fd fi) : FnOk P w K mg base CX0 3 (fa 60) (fd 60) ["_law_pot_here"] (spFar K) := by
  have G_l_take := ok_take (P := P) (w := w) (base := base) T
  have G_l_of := ok_of (P := P) (w := w) (base := base) T
  refine T.F_l_far.ok sc_l_far (fun vs H Q E h => ?_) (fun cdv A outer s H vs Q E hr h => ?_)
  · obtain ⟨p, B, rfl, _⟩ := h
    rfl
  · obtain ⟨p, B, rfl, hp, hB, k⟩ := h
    refine ⟨_, (pss_one (ps_ret (pe_call G_l_of (hr.mono (by decide)) rfl T.g_l_of T.k_l_of T.b_l_of .nil pass0 (pa_cons (pv 0) (pa_cons (pe_lst (pa_cons pe_int (pa_cons pe_int (pa_cons pe_int (pa_cons pe_int (pa_cons pe_int (pa_cons pe_int (pa_cons pe_int (pa_cons pe_int (pa_cons pe_int (pa_cons pe_int (pa_cons (pe_op op_add pe_int (pe_call G_l_take (hr.mono (by decide)) rfl T.g_l_take T.k_l_take T.b_l_take .nil pass0 (pa_cons (pv 0) (pa_cons pe_int pa_nil)))) (pa_cons (pe_op op_add pe_int (pe_call G_l_take (hr.mono (by decide)) rfl T.g_l_take T.k_l_take T.b_l_take .nil pass0 (pa_cons (pv 0) (pa_cons pe_int pa_nil)))) pa_nil))))))))))))) pa_nil))))), ?_⟩
    refine ⟨_, rfl, ?_⟩
    refine ⟨_, rfl, p, 12, B, rfl, hp, by decide, by decide, by omega, fun d1 H1 hd1 b1 p1 => ?_⟩
    refine ⟨_, _, rfl, rfl, _, rfl, p, 90, B + 1, rfl, p1, by decide, by decide, by omega, fun d2 H2 hd2 b2 p2 => ?_⟩
    refine ⟨_, _, rfl, rfl, by show 12 ≤ sizeLine; decide, fun l nl => ?_⟩
    have b12 := b1.trans b2
    have nlp : l ≠ p := pot_none p2 nl
    refine ⟨p, .ref l, _, B + 2, rfl, p2.same (same_new nl), by omega, .inl ⟨l, rfl, nlp, SqL.of upd_same⟩, by show 0 < 12; decide, by show 12 < 1073741824; decide, fun d v H3 hv b3 p3 => ?_⟩
    have b13 := (b12.trans (But.of (same_new nl))).trans b3
    have out : ∃ n : Nat, v = .int (n : Int) ∧ 1 ≤ n ∧ n ≤ 90 := by
      match d, hv with
      | 0, hv => cases hv; exact ⟨1, rfl, by decide, by decide⟩
      | 1, hv => cases hv; exact ⟨1, rfl, by decide, by decide⟩
      | 2, hv => cases hv; exact ⟨2, rfl, by decide, by decide⟩
      | 3, hv => cases hv; exact ⟨2, rfl, by decide, by decide⟩
      | 4, hv => cases hv; exact ⟨3, rfl, by decide, by decide⟩
      | 5, hv => cases hv; exact ⟨1, rfl, by decide, by decide⟩
      | 6, hv => cases hv; exact ⟨4, rfl, by decide, by decide⟩
      | 7, hv => cases hv; exact ⟨2, rfl, by decide, by decide⟩
      | 8, hv => cases hv; exact ⟨5, rfl, by decide, by decide⟩
      | 9, hv => cases hv; exact ⟨3, rfl, by decide, by decide⟩
      | 10, hv =>
        cases hv
        exact ⟨1 + d1, by simp, by omega, by omega⟩
      | 11, hv =>
        cases hv
        exact ⟨1 + d2, by simp, by omega, by omega⟩
      | d + 12, hv => cases hv
    obtain ⟨n, rfl, n1, n2⟩ := out
    exact k n H3 n1 n2 b13 p3
end
end Toy
set_option Elab.async false
set_option linter.all false
set_option maxRecDepth 100000
set_option maxHeartbeats 4000000
namespace Toy
open PySem L2 Q
abbrev Low (z : Str) : Prop := ∀ c ∈ z.cps.toList, 97 ≤ c ∧ c ≤ 122
abbrev small : Str := Str.ofString "abcdefghijklmnopqrstuvwxyz"
/-- a right name -/
abbrev NameOk (z : Str) : Prop := 1 ≤ z.length ∧ z.length ≤ 8 ∧ Low z
theorem small_at {j : Nat} (h : j < 26) : small.cps.toList[j]? = some (97 + j) := by
  have all : ∀ j : Fin 26, small.cps.toList[j.val]? = some (97 + j.val) := by decide +kernel
  exact all ⟨j, h⟩
theorem small_len : small.cps.toList.length = 26 := by decide +kernel
theorem roomU {k : Nat} {A : Around} (h : Room k A) : A.units + 2 < cLine := by
  have q := h.units
  omega
theorem len_list (z : Str) : z.length = z.cps.toList.length := rfl
theorem joinL_nil : ∀ ls : List (List Nat), TL.joinL [] ls = ls.flatten
  | [] => rfl
  | [p] => by simp [TL.joinL]
  | p :: q :: r => by
    rw [TL.joinL, joinL_nil (q :: r), List.flatten_cons (L := q :: r), List.nil_append]
theorem join_cps (ys : List Str) : (Txt.join (Str.ofString "") ys).cps.toList = (ys.map (·.cps.toList)).flatten := by
  rw [TL.join_eq]
  have e := TL.tl_join (Str.ofString "") ys
  have e0 : TL.tl (Str.ofString "") = [] := by decide +kernel
  rw [e0, joinL_nil] at e
  exact e
theorem flat_low : ∀ {ys : List Str}, (∀ y ∈ ys, y.length = 1 ∧ Low y) → (ys.map (·.cps.toList)).flatten.length = ys.length ∧ (∀ c ∈ (ys.map (·.cps.toList)).flatten, 97 ≤ c ∧ c ≤ 122) ∧
    (ys.map (·.length)).sum = ys.length
  | [], _ => ⟨rfl, fun _ h => (by cases h), rfl⟩
  | y :: ys, h => by
    obtain ⟨h1, h2⟩ := h y List.mem_cons_self
    obtain ⟨q1, q2, q3⟩ := flat_low fun z hz => h z (List.mem_cons_of_mem _ hz)
    rw [len_list] at h1
    refine ⟨?_, ?_, ?_⟩
    · rw [List.map_cons, List.flatten_cons, List.length_append, h1, q1, List.length_cons]
      omega
    · intro c hc
      rw [List.map_cons, List.flatten_cons, List.mem_append] at hc
      exact hc.elim (h2 c) (q2 c)
    · rw [List.map_cons, List.sum_cons, q3, len_list, h1, List.length_cons]
      omega
abbrev rPlus : R2 := fun x y H Q => ∃ i j, x = .str i ∧ y = .str j ∧ i.length + j.length ≤ sizeLine ∧ Q (.str (i ++ j)) H
abbrev rInt1 : List V → Hp → VK → Prop := fun xs H Q => (∃ i, xs = [.int i] ∧ Q (.int i) H) ∨ ∃ k, xs = [.bl k] ∧ Q (.int (if k then 1 else 0)) H
abbrev tName (K : PySem.W.Frag) : TE :=
  tOp rPlus (tOp rPlus (tSl rSlS (tVar 3) tNoPart (tPart (tVar 5))) (tOp (rIx K) (tVar 2) (tOp (rI (fun _ j => 0 < j) fun i j => .int (i % j))
    (tCB rInt1 (tCons (tOp (rI0 fun i j => .int (i + j)) (tVar 6) (tOp (rI CMulW fun i j => .int (i * j)) (tC (.int 5)) (tVar 8))) tNil)) (tC (.int 26)))))
    (tSl rSlS (tVar 3) (tPart (tVar 5)) tNoPart)
/-- the k-th name: a letter put into the stem -/
def nameL (z : Str) (sp a k : Nat) : List Nat := z.cps.toList.take sp ++ (97 + (a + 5 * k) % 26) :: z.cps.toList.drop sp
def nameS (z : Str) (sp a k : Nat) : Str := ⟨(nameL z sp a k).toArray⟩
theorem cutS_take (z : Str) (d : Nat) : (cutS z none (some (d : Int))).cps.toList = z.cps.toList.take d := by
  unfold cutS
  rw [HT.sIx_nat, HT.sIx_none, List.toList_toArray, List.drop_zero, Nat.sub_zero]
  rcases Nat.le_total d z.length with h | h
  · rw [Nat.min_eq_left h]
  · rw [Nat.min_eq_right h]
    show z.cps.toList.take z.cps.toList.length = _
    rw [List.take_length, List.take_of_length_le h]
theorem cutS_drop (z : Str) (d : Nat) : (cutS z (some (d : Int)) none).cps.toList = z.cps.toList.drop d := by
  unfold cutS
  rw [HT.sIx_nat, HT.sIx_none, List.toList_toArray, List.take_of_length_le (by rw [List.length_drop]; exact Nat.le_refl _)]
  rcases Nat.le_total d z.length with h | h
  · rw [Nat.min_eq_left h]
  · rw [Nat.min_eq_right h]
    show z.cps.toList.drop z.cps.toList.length = _
    rw [List.drop_length, List.drop_eq_nil_of_le h]
theorem name_eq (z : Str) (sp a k : Nat) : cutS z none (some (sp : Int)) ++ (⟨#[97 + (a + 5 * k) % 26]⟩ : Str) ++ cutS z (some (sp : Int)) none = nameS z sp a k := by
  apply Q.str_ext
  have e := TL.tl_append (cutS z none (some (sp : Int)) ++ (⟨#[97 + (a + 5 * k) % 26]⟩ : Str)) (cutS z (some (sp : Int)) none)
  have e2 := TL.tl_append (cutS z none (some (sp : Int))) (⟨#[97 + (a + 5 * k) % 26]⟩ : Str)
  refine Eq.trans e ?_
  rw [e2]
  show (cutS z none (some (sp : Int))).cps.toList ++ [97 + (a + 5 * k) % 26] ++ (cutS z (some (sp : Int)) none).cps.toList = nameL z sp a k
  rw [cutS_take, cutS_drop, List.append_assoc]
  rfl
theorem name_inj {z : Str} {sp a k l : Nat} (hk : k < 26) (hl : l < 26) (e : nameS z sp a k = nameS z sp a l) : k = l := by
  have e1 : nameL z sp a k = nameL z sp a l := by
    have q := congrArg (fun s : Str => s.cps.toList) e
    exact q
  unfold nameL at e1
  have e2 := List.append_cancel_left e1
  injection e2 with e3 _
  omega
theorem name_ok {z : Str} {sp a k : Nat} (hz : z.length ≤ 7) (low : Low z) : NameOk (nameS z sp a k) := by
  have hl : (nameS z sp a k).length = z.length + 1 := by
    show (nameL z sp a k).length = _
    unfold nameL
    rw [List.length_append, List.length_cons, List.length_take, List.length_drop, len_list]
    omega
  refine ⟨by omega, by omega, fun c hc => ?_⟩
  have hc : c ∈ nameL z sp a k := hc
  unfold nameL at hc
  rcases List.mem_append.mp hc with h | h
  · exact low c (List.mem_of_mem_take h)
  · rcases List.mem_cons.mp h with h | h
    · have : (a + 5 * k) % 26 < 26 := Nat.mod_lt _ (by decide)
      omega
    · exact low c (List.mem_of_mem_drop h)
/-- _law_names(pot, n): n unlike right names in their order -/
def spNames (K : PySem.W.Frag) : Sp := fun vs H Q _ => ∃ (p : Addr) (n B : Nat), vs = [.ref p, .int (n : Int)] ∧ Pot H p B ∧ B < 999900 ∧ n ≤ 26 ∧
  ∀ (zs : List Str) (q : Addr) (H' : Hp), zs.length = n → zs.Pairwise tLt → (∀ z ∈ zs, NameOk z) → But p H H' → Pot H' p (B + 20) → H q = none → H' q = some (.lst (zs.map V.str)) → Q (.ref q) H'
section
variable {P : Program} {w : World} {K : PySem.W.Frag} {mg : Str → Option Value} {base : Heap} {ca ia fa : Nat → Addr} {fd fi : Nat → FuncData}
theorem ok_names (T : Txt K mg ca ia fa fd fi) : FnOk P w K mg base CX0 3 (fa 59) (fd 59) ["_law_pot_here", "_law_many"] (spNames K) := by
  have G_l_take := ok_take (P := P) (w := w) (base := base) T
  have G_l_of := ok_of (P := P) (w := w) (base := base) T
  refine T.F_l_names.ok sc_l_names (fun vs H Q E h => ?_) (fun cdv A outer s H vs Q E hr h => ?_)
  · obtain ⟨p, n, B, rfl, _⟩ := h
    rfl
  · obtain ⟨p, n, B, rfl, hp, hB, hn, k⟩ := h
    refine ⟨_, (pss_cons (ps_set (i := 2) sc_l_names.nd rfl (Or.inr rfl) pe_str)
      (pss_cons (ps_set (i := 3) sc_l_names.nd rfl (Or.inr rfl) (pe_join pe_str (pe_lc (own := [("_law_turn", 4)]) (g := (gName 4)) (tt := tYes) rfl sc_l_names.nd (pi_range1 rfl T.n_range (pa_cons (pe_call G_l_of (hr.mono (by decide)) rfl T.g_l_of T.k_l_of T.b_l_of .nil pass0 (pa_cons (pv 0) (pa_cons (pe_lst (pa_cons pe_int (pa_cons pe_int (pa_cons pe_int (pa_cons pe_int (pa_cons pe_int (pa_cons pe_int (pa_cons pe_int (pa_cons pe_int (pa_cons pe_int pa_nil)))))))))) pa_nil))) pa_nil)) (blkOk_by (own := [("_law_turn", 4)]) (N := N_l_names) (sc := defScope s_l_names) (by decide +kernel)) (fun _ _ _ _ _ => (pg_name (i := 4) sc_l_names.nd rfl (Or.inl rfl))) (fun _ _ _ _ _ => pts_nil) (fun _ _ _ _ _ => by exact (pe_call G_l_of (hr.mono (by decide)) rfl T.g_l_of T.k_l_of T.b_l_of .nil pass0 (pa_cons (pv 0) (pa_cons (pv 2) pa_nil)))))))
      (pss_cons (ps_asg (pe_tup (pa_cons (pe_call G_l_take (hr.mono (by decide)) rfl T.g_l_take T.k_l_take T.b_l_take .nil pass0 (pa_cons (pv 0) (pa_cons (pe_op op_add (pe_callB call_len (by rfl) T.n_len (by decide +kernel) (pa_cons (pv 3) pa_nil)) pe_int) pa_nil))) (pa_cons (pe_call G_l_take (hr.mono (by decide)) rfl T.g_l_take T.k_l_take T.b_l_take .nil pass0 (pa_cons (pv 0) (pa_cons pe_int pa_nil))) pa_nil))) (pg_tup rfl (pgs_cons (pg_name (i := 5) sc_l_names.nd rfl (Or.inr rfl)) (pgs_cons (pg_name (i := 6) sc_l_names.nd rfl (Or.inr rfl)) pgs_nil))))
      (pss_cons (ps_setLc (i := 7) (own := [("_law_k", 8)]) (g := (gName 8)) (tt := tYes) (te := (tName K)) rfl sc_l_names.nd rfl rfl (sw_true rfl rfl rfl (by decide +kernel)) (pi_range1 rfl T.n_range (pa_cons (pv 1) pa_nil)) (blkOk_by (own := [("_law_k", 8)]) (N := N_l_names) (sc := defScope s_l_names) (by decide +kernel)) (fun _ _ _ _ _ => (pg_name (i := 8) sc_l_names.nd rfl (Or.inl rfl))) (fun _ _ _ _ _ => pts_nil) (fun _ _ _ _ _ => by exact (pe_op op_add_str (pe_op op_add_str (pe_slice sl_str (pv 3) po_none (po_some (pv 5))) (pe_ix ix_seq (pv 2) (pe_op op_mod (pe_callTy call_int1 (by rfl) T.n_int (by decide +kernel) (pa_cons (pe_op op_add (pv 6) (pe_op op_mulW pe_int (pv 8))) pa_nil)) pe_int) (fun _ _ => rfl))) (pe_slice sl_str (pv 3) (po_some (pv 5)) po_none))))
      (pss_one (ps_ret (pe_callB (cr_sortTx rfl (roomU hr)) (by rfl) T.n_sorted (by decide +kernel) (pa_cons (pe_callTy (cr_setTx rfl) (by rfl) T.n_set (by decide +kernel) (pa_cons (pv 7) pa_nil)) pa_nil)))))))), ?_⟩
    refine seqS (fun v H' => H = H' ∧ v = .str small) (fun Q k' => k' _ _ ⟨rfl, rfl⟩) ?_
    rintro _ _ ⟨rfl, rfl⟩
    refine seqS (fun v H' => ∃ z : Str, v = .str z ∧ z.length ≤ 7 ∧ Low z ∧ But p H H' ∧ Pot H' p (B + 9)) (fun Q k' => ?_) ?_
    · refine ⟨⟨_, rfl⟩, ?_⟩
      refine ⟨_, rfl, by show 9 ≤ sizeLine; decide, fun l nl => ?_⟩
      have nlp : l ≠ p := pot_none hp nl
      refine ⟨p, .ref l, _, B, rfl, hp.same (same_new nl), by omega, .inl ⟨l, rfl, nlp, SqL.of upd_same⟩, by show 0 < 9; decide, by show 9 < 1073741824; decide, fun d v H3 hv b3 p3 => ?_⟩
      have b13 := (But.of (same_new nl)).trans b3
      obtain ⟨m, rfl, hm⟩ : ∃ m : Nat, v = .int (m : Int) ∧ m ≤ 7 := by
        match d, hv with
        | 0, hv => cases hv; exact ⟨0, rfl, by decide⟩
        | 1, hv => cases hv; exact ⟨0, rfl, by decide⟩
        | 2, hv => cases hv; exact ⟨1, rfl, by decide⟩
        | 3, hv => cases hv; exact ⟨2, rfl, by decide⟩
        | 4, hv => cases hv; exact ⟨3, rfl, by decide⟩
        | 5, hv => cases hv; exact ⟨4, rfl, by decide⟩
        | 6, hv => cases hv; exact ⟨5, rfl, by decide⟩
        | 7, hv => cases hv; exact ⟨6, rfl, by decide⟩
        | 8, hv => cases hv; exact ⟨7, rfl, by decide⟩
        | d + 9, hv => cases hv
      refine ⟨_, rfl, by omega, by omega, fun D hD => ?_⟩
      have nDp : D ≠ p := pot_none p3 hD
      refine lc_range (lo := 0) (n := (m : Int).toNat) (fun i H' => ∃ ys : List Str, ys.length = i ∧ H' D = some (.lst (ys.map V.str)) ∧ (∀ y ∈ ys, y.length = 1 ∧ Low y) ∧ But p H H' ∧ Pot H' p (B + 1 + i))
        ⟨[], rfl, upd_same, fun _ h => (by cases h), b13.trans (But.of (same_new hD)), p3.same (same_new hD)⟩ ?_ ?_
      · rintro i H1 hi ⟨ys, hlen, h1, hy, b1, p1⟩
        refine ⟨rfl, ?_⟩
        dsimp only [tYes]
        rw [if_pos rfl]
        refine ⟨_, rfl, _, rfl, p, .str small, _, B + 1 + i, rfl, p1, by omega, .inr (.inr ⟨small, rfl, rfl, by decide +kernel⟩), ?_, ?_, fun d v H2 hv b2 p2 => ?_⟩
        · rw [List.length_map, small_len]; decide
        · rw [List.length_map, small_len]; decide
        rw [List.getElem?_map] at hv
        obtain ⟨c, hc, rfl⟩ := Option.map_eq_some_iff.mp hv
        have hd : d < 26 := by
          have q := (List.getElem?_eq_some_iff.mp hc).1
          rw [small_len] at q
          exact q
        rw [small_at hd] at hc
        cases hc
        refine ⟨_, b2 _ _ nDp h1, ?_, ys ++ [⟨#[97 + d]⟩], by simp [hlen], ?_, ?_, ?_, ?_⟩
        · rw [List.length_map, sizeLine_eq]
          omega
        · rw [upd_same, List.map_append]
          rfl
        · intro y hy2
          rcases List.mem_append.mp hy2 with q | q
          · exact hy y q
          · rw [List.mem_singleton.mp q]
            refine ⟨rfl, fun c hc => ?_⟩
            have e : c = 97 + d := by simpa using hc
            omega
        · intro b o nb e
          have nbD : b ≠ D := by
            rintro rfl
            rw [b13 b o nb e] at hD
            cases hD
          rw [upd_ne nbD]
          exact b2 _ _ nb (b1 _ _ nb e)
        · obtain ⟨o, sd, c, e, r⟩ := p2
          exact ⟨o, sd, c, by rw [upd_ne nDp.symm]; exact e, by omega⟩
      · rintro H1 ⟨ys, hlen, h1, hy, b1, p1⟩
        obtain ⟨f1, f2, f3⟩ := flat_low hy
        refine ⟨_, D, ys, rfl, rfl, .inl (SqL.of h1), ?_, k' _ _ ⟨_, rfl, ?_, ?_, b1, p1.mono (by omega)⟩⟩
        · show _ + ys.length * 0 ≤ _
          rw [f3]
          omega
        · rw [len_list, join_cps, f1]
          omega
        · intro c hc
          rw [join_cps] at hc
          exact f2 c hc
    rintro _ H1 ⟨z, rfl, hz, low, b1, p1⟩
    refine seqA (fun v H' => ∃ (sp a : Nat) (tq : Addr), v = .ref tq ∧ a < 26 ∧ H' tq = some (.tup [.int (sp : Int), .int (a : Int)]) ∧ But p H1 H' ∧ Pot H' p (B + 11)) (fun Q k' => ?_) ?_
    · refine ⟨_, rfl, _, rfl, _, _, rfl, ⟨by rw [sizeLine_eq]; omega, rfl⟩, _, _, rfl, rfl, p, ((z.length : Nat) : Int) + 1, B + 9, rfl, p1, by omega, by omega, by omega, fun sp H2 hsp b2 p2 => ?_⟩
      refine ⟨_, rfl, p, 26, B + 10, rfl, p2, by decide, by decide, by omega, fun a H3 ha b3 p3 => ?_⟩
      refine ⟨by show 2 ≤ sizeLine; decide, fun t nt => k' _ _ ⟨sp, a, t, rfl, by omega, upd_same, ?_, p3.same (same_new nt)⟩⟩
      exact (b2.trans b3).trans (But.of (same_new nt))
    rintro _ H2 ⟨sp, a, tq, rfl, ha, htq, b2, p2⟩
    refine ⟨tq, _, rfl, SqT.of htq, rfl, _, _, rfl, _, _, rfl, rfl, ?_⟩
    have hz2 : z.length ≤ sizeLine := by rw [sizeLine_eq]; omega
    refine seqS (fun v H' => ∃ l, v = .ref l ∧ Same H2 H' ∧ H2 l = none ∧ H' l = some (.lst (((List.range n).map (nameS z sp a)).map V.str))) (fun Q k' => ?_) ?_
    · refine ⟨_, rfl, _, rfl, by omega, by omega, fun D hD => ?_⟩
      refine lc_range (lo := 0) (n := (n : Int).toNat) (fun i H' => H' D = some (.lst (((List.range i).map (nameS z sp a)).map V.str)) ∧ Same H2 H') ⟨upd_same, same_new hD⟩ ?_ ?_
      · rintro i H3 hi ⟨h3, s3⟩
        refine ⟨rfl, ?_⟩
        dsimp only [tYes]
        rw [if_pos rfl]
        refine ⟨_, rfl, _, rfl, _, rfl, z, rfl, hz2, ?_⟩
        have m1 : CMulW 5 (0 + (i : Int)) := mulOk (by decide) (by omega)
        refine ⟨_, rfl, _, rfl, _, rfl, _, _, rfl, rfl, m1, _, _, rfl, rfl, .inl ⟨_, rfl, _, _, rfl, rfl, (show (0 : Int) < 26 by decide), ?_⟩⟩
        have ei : ((a : Int) + 5 * (0 + (i : Int))) % 26 = (((a + 5 * i) % 26 : Nat) : Int) := by omega
        show rIx K (.str small) (.int (((a : Int) + 5 * (0 + (i : Int))) % 26)) _ _
        rw [ei]
        have l26 : (a + 5 * i) % 26 < 26 := Nat.mod_lt _ (by decide)
        refine .inr (.inr ⟨small, _, 97 + (a + 5 * i) % 26, rfl, rfl, by decide +kernel, atI_nat (small_at l26), ?_⟩)
        have c1 : (cutS z none (some (sp : Int))).length ≤ 7 := by rw [len_list, cutS_take, List.length_take]; rw [len_list] at hz; omega
        have c2 : (cutS z (some (sp : Int)) none).length ≤ 7 := by rw [len_list, cutS_drop, List.length_drop]; rw [len_list] at hz; omega
        have c3 : (cutS z none (some (sp : Int)) ++ (⟨#[97 + (a + 5 * i) % 26]⟩ : Str)).length ≤ 8 := by
          have e := TL.tl_append (cutS z none (some (sp : Int))) (⟨#[97 + (a + 5 * i) % 26]⟩ : Str)
          have e2 := congrArg List.length e
          rw [List.length_append] at e2
          rw [len_list] at c1 ⊢
          refine Nat.le_trans (Nat.le_of_eq e2) ?_
          show _ + 1 ≤ 8
          exact Nat.add_le_add_right c1 1
        refine ⟨_, _, rfl, rfl, ?_, ?_⟩
        · show _ + 1 ≤ sizeLine
          rw [sizeLine_eq]
          omega
        refine ⟨_, rfl, _, rfl, _, rfl, z, rfl, hz2, _, _, rfl, rfl, ?_, ?_⟩
        · rw [sizeLine_eq]
          omega
        refine ⟨_, h3, ?_, ?_, ?_⟩
        · rw [List.length_map, List.length_map, List.length_range, sizeLine_eq]
          omega
        · rw [upd_same, name_eq, List.range_succ, List.map_append, List.map_append]
          rfl
        · intro b o e
          rw [upd_ne (ne_of_none e hD)]
          exact s3 b o e
      · rintro H3 ⟨h3, s3⟩
        exact k' _ _ ⟨D, rfl, s3, hD, h3⟩
    rintro _ H3 ⟨l, rfl, s3, nl, hl⟩
    have nd : ((List.range n).map (nameS z sp a)).Nodup := by
      refine List.pairwise_map.mpr (List.Pairwise.imp_of_mem (fun {i j} hi hj ne e => ?_) List.nodup_range)
      exact ne (name_inj (Nat.lt_of_lt_of_le (List.mem_range.mp hi) hn) (Nat.lt_of_lt_of_le (List.mem_range.mp hj) hn) e)
    have ln : ((List.range n).map (nameS z sp a)).length = n := by rw [List.length_map, List.length_range]
    refine ⟨_, rfl, l, _, rfl, SqL.of hl, nd, by omega, fun S us ru nS => ?_⟩
    refine ⟨S, us, _, rfl, upd_same, ru, nd, by omega, fun q zs pz pw nq => ?_⟩
    have p3 := (p2.same s3).same (same_new (o := SetM w S us) nS)
    have b3 : But p H (upd H3 S (SetM w S us)) := ((b1.trans b2).trans (But.of s3)).trans (But.of (same_new nS))
    refine k zs q _ (pz.length_eq.trans ln) pw (fun y hy => ?_) (b3.trans (But.of (same_new nq))) ((p3.same (same_new nq)).mono (by omega)) (but_none b3 p3 nq) upd_same
    obtain ⟨i, _, rfl⟩ := List.mem_map.mp (pz.mem_iff.mp hy)
    exact name_ok hz low
end
end Toy
set_option Elab.async false
set_option linter.all false
set_option maxRecDepth 100000
set_option maxHeartbeats 4000000
namespace Toy
open PySem L2 Q
theorem roomU65 {k : Nat} {A : Around} (h : Room k A) : A.units + 65 < cLine := by
  have q := h.un
  omega
abbrev tPairTest (K : PySem.W.Frag) : TT := tTest (tOp (rNotInD K) (tTup (tCons (tVar 9) (tCons (tVar 10) tNil))) (tVar 4))
abbrev pairK (a b : Str) : List Key := [.inr a, .inr b]
/-- unlike ascending pairs of the names zs, each a tuple -/
def PairsOk (H : Hp) (zs : List Str) (ps : List (Addr × List Key)) : Prop :=
  (∀ q ∈ ps, H q.1 = some (.tup (q.2.map kV)) ∧ ∃ a b, q.2 = pairK a b ∧ a ∈ zs ∧ b ∈ zs ∧ tLt a b) ∧ (ps.map (·.2)).Nodup
/-- _law_pairs(pot, routers, many) -/
def spPairs (K : PySem.W.Frag) : Sp := fun vs H Q _ => ∃ (p r : Addr) (zs : List Str) (m B : Nat), vs = [.ref p, .ref r, .int (m : Int)] ∧ Pot H p B ∧ B < 999000 ∧ r ≠ p ∧
  SqT K H r (zs.map V.str) ∧ zs.Pairwise tLt ∧ (∀ z ∈ zs, NameOk z) ∧ 2 ≤ zs.length ∧ zs.length ≤ 8 ∧
  ∀ (ps : List (Addr × List Key)) (l : Addr) (H' : Hp), PairsOk H' zs ps → (ps.length ≤ m ∨ ps.length < zs.length) → But p H H' → Pot H' p (B + 30) → H l = none → H' l = some (.lst (ps.map fun q => V.ref q.1)) → Q (.ref l) H'
theorem perm_map {α β : Type} (g : α → β) {ys ws : List β} (p : ys.Perm ws) : ∀ {zs : List α}, ws = zs.map g → ∃ os : List α, os.Perm zs ∧ ys = os.map g := by
  induction p with
  | nil =>
    intro zs e
    cases zs with
    | nil => exact ⟨[], .nil, rfl⟩
    | cons z zs => cases e
  | cons x _ ih =>
    intro zs e
    cases zs with
    | nil => cases e
    | cons z zs =>
      injection e with e1 e2
      obtain ⟨os, q, r⟩ := ih e2
      exact ⟨z :: os, .cons _ q, by rw [e1, r, List.map_cons]⟩
  | swap x y l =>
    intro zs e
    cases zs with
    | nil => cases e
    | cons z zs =>
      cases zs with
      | nil => cases e
      | cons z2 zs =>
        injection e with e1 e2
        injection e2 with e2 e3
        exact ⟨z2 :: z :: zs, .swap _ _ _, by rw [e1, e2, e3, List.map_cons, List.map_cons]⟩
  | trans _ _ ih1 ih2 =>
    intro zs e
    obtain ⟨os, q, r⟩ := ih2 e
    obtain ⟨os2, q2, r2⟩ := ih1 r
    exact ⟨os2, q2.trans q, r2⟩
theorem ifAny {t : TT} {a u : TS} {D : Ends} {σ : L2.St} {H : Hp} (P : Hp → Prop) (h : ∀ Q : Bool → Hp → Prop, (∀ b H', P H' → Q b H') → t σ H Q)
    (ka : ∀ H', P H' → a D σ H') (ku : ∀ H', P H' → u D σ H') : tIfS t a u D σ H := h _ fun b H' p => by
  cases b
  · exact ku H' p
  · exact ka H' p
theorem for_enT {K : PySem.W.Frag} {a : Addr} {xs : List V} {g : TG} {tb : TS} {D : Ends} {σ : L2.St} {H : Hp} (Pv : Nat → L2.St → Hp → Prop) (h0 : Pv 0 σ H)
    (hl : ∀ i σ H, i ≤ xs.length → Pv i σ H → SqT K H a xs)
    (hs : ∀ i x T σ H, xs[i]? = some x → Pv i σ H → H T = none → g (.ref T) σ (upd H T (.tup [.int (i : Nat), x])) fun σ2 H2 => tb { D with nx := Pv (i + 1), ct := Pv (i + 1), bk := D.nx } σ2 H2)
    (hd : ∀ σ H, Pv xs.length σ H → D.nx σ H) :
    ∃ W : Nat → Nat → L2.St → Hp → Prop, (∃ m, W 0 m σ H) ∧ ∀ i m σ H, W i m σ H → ((ItT K a xs).stop i H ∧ D.nx σ H) ∨ ((ItT K a xs).go i H ∧
      ∃ N : L2.St → Hp → Prop, (∀ σ' H', N σ' H' → ∃ m', m' < m ∧ W (i + 1) m' σ' H') ∧ ∀ x H', (ItT K a xs).yld i H x H' → g x σ H' fun σ2 H2 => tb { D with nx := N, ct := N, bk := D.nx } σ2 H2) := by
  refine ⟨fun i m σ H => m + i = xs.length ∧ Pv i σ H, ⟨xs.length, rfl, h0⟩, ?_⟩
  rintro i m σ H ⟨e, q⟩
  have sq := hl i σ H (by omega) q
  by_cases hi : i < xs.length
  · refine .inr ⟨⟨sq, hi⟩, Pv (i + 1), fun σ' H' z => ⟨m - 1, by omega, by omega, z⟩, ?_⟩
    rintro x H' ⟨T, y, rfl, nT, rfl, hy⟩
    exact hs i y T σ H hy q nT
  · exact .inl ⟨⟨sq, by omega⟩, hd σ H (by rwa [show xs.length = i by omega])⟩
abbrev kT (q : Addr × List Key) : PyData := .tuple (q.2.map kD)
theorem pair_eqv (a b x y : Str) : PyData.eqv (.tuple ((pairK a b).map kD)) (.tuple [.str x, .str y]) = decide (pairK a b = pairK x y) := by
  rw [Bool.eq_iff_iff]
  simp [PyData.eqv, PyData.eqvAll, kD, pairK]
theorem low_ok {x : Str} (h : Low x) : PyData.strOk x = true := by
  unfold PyData.strOk
  rw [← Array.all_toList, List.all_eq_true]
  intro c hc
  have := h c hc
  exact decide_eq_true (by omega)
theorem pair_shaped {x y : Str} (hx : Low x) (hy : Low y) : SeqAt.shaped (.tuple [.str x, .str y]) = true := by
  simp [SeqAt.shaped, PyData.canLay0, PyData.canLayAll0, PyData.depth, PyData.depthAll, low_ok hx, low_ok hy]
theorem rows_shaped {ps : List (Addr × List Key)} (h : ∀ q ∈ ps, ∃ a b, q.2 = pairK a b ∧ Low a ∧ Low b) : SeqAt.shaped (.list (ps.map kT)) = true := by
  have main : PyData.canLayAll0 (ps.map kT) = true ∧ PyData.depthAll (ps.map kT) ≤ 1 := by
    induction ps with
    | nil => simp [PyData.canLayAll0, PyData.depthAll]
    | cons q ps ih =>
      obtain ⟨i1, i2⟩ := ih fun z hz => h z (List.mem_cons_of_mem _ hz)
      obtain ⟨a, b, e, la, lb⟩ := h q List.mem_cons_self
      have c1 : (kT q).canLay0 = true := by
        rw [kT, e]
        simp [PyData.canLay0, PyData.canLayAll0, kD, pairK, low_ok la, low_ok lb]
      have c2 : (kT q).depth ≤ 1 := by
        rw [kT, e]
        simp [PyData.depth, PyData.depthAll, kD, pairK]
      rw [List.map_cons, PyData.canLayAll0, PyData.depthAll]
      exact ⟨by rw [c1, i1]; rfl, Nat.max_le.mpr ⟨c2, i2⟩⟩
  have d1 : (PyData.list (ps.map kT)).depth ≤ 2 := by
    rw [PyData.depth]
    have := main.2
    omega
  have d2 : (PyData.list (ps.map kT)).canLay0 = true := by
    rw [PyData.canLay0]
    exact main.1
  unfold SeqAt.shaped
  rw [d2, Bool.true_and]
  exact decide_eq_true (by omega)
theorem rows_dp {K : PySem.W.Frag} {H : Hp} : ∀ {ps : List (Addr × List Key)}, (∀ q ∈ ps, H q.1 = some (.tup (q.2.map kV)) ∧ ∃ a b, q.2 = pairK a b) → DpAll K H (ps.map fun q => V.ref q.1) (ps.map kT)
  | [], _ => .nil
  | q :: ps, h => by
    obtain ⟨e, a, b, e2⟩ := h q List.mem_cons_self
    refine .cons ?_ (rows_dp fun z hz => h z (List.mem_cons_of_mem _ hz))
    rw [kT, e2]
    rw [e2] at e
    exact .tup (SqT.of e) (.cons (.str a) (.cons (.str b) .nil))
theorem rows_any {ps : List (Addr × List Key)} (h : ∀ q ∈ ps, ∃ a b, q.2 = pairK a b) (x y : Str) :
    ((ps.map kT).any fun z => PyData.eqv z (.tuple [.str x, .str y])) = true ↔ pairK x y ∈ ps.map fun q : Addr × List Key => q.2 := by
  induction ps with
  | nil => simp
  | cons q ps ih =>
    obtain ⟨a, b, e⟩ := h q List.mem_cons_self
    rw [List.map_cons, List.any_cons, Bool.or_eq_true, ih fun z hz => h z (List.mem_cons_of_mem _ hz), kT, e, pair_eqv, decide_eq_true_eq, List.map_cons, List.mem_cons, e]
    exact or_congr_left eq_comm
/-- the pairs found so far, among the first n of the names os -/
structure Fnd (p f o : Addr) (H0 H : Hp) (os : List Str) (n B : Nat) (ps : List (Addr × List Key)) : Prop where
  kf : H f = some (.lst (ps.map fun q => V.ref q.1))
  ko : H o = some (.lst (os.map V.str))
  el : ∀ q ∈ ps, H q.1 = some (.tup (q.2.map kV)) ∧ ∃ a b, q.2 = pairK a b ∧ a ∈ os.take n ∧ b ∈ os.take n ∧ tLt a b
  nd : (ps.map (·.2)).Nodup
  sz : ps.length < n
  bu : But p H0 H
  po : Pot H p B
  nf : H0 f = none
  fp : f ≠ p
  op : o ≠ p
  fo : f ≠ o
section
variable {p f o : Addr} {H0 H H' : Hp} {os : List Str} {n B B' : Nat} {ps : List (Addr × List Key)}
theorem tup_notp {t : Addr} {xs : List V} (h : H t = some (.tup xs)) (hp : Pot H p B) : t ≠ p := by
  rintro rfl
  obtain ⟨_, _, _, e, _⟩ := hp
  rw [h] at e
  cases e
theorem Fnd.on (h : Fnd p f o H0 H os n B ps) (b : But p H H') (q : Pot H' p B') : Fnd p f o H0 H' os n B' ps :=
  ⟨b _ _ h.fp h.kf, b _ _ h.op h.ko, fun x hx => ⟨b _ _ (tup_notp (h.el x hx).1 h.po) (h.el x hx).1, (h.el x hx).2⟩, h.nd, h.sz, h.bu.trans b, q, h.nf, h.fp, h.op, h.fo⟩
theorem Fnd.same (h : Fnd p f o H0 H os n B ps) (s : Same H H') : Fnd p f o H0 H' os n B ps := h.on (But.of s) (h.po.same s)
theorem Fnd.wide (h : Fnd p f o H0 H os n B ps) (hB : B ≤ B') : Fnd p f o H0 H os (n + 1) B' ps :=
  ⟨h.kf, h.ko, fun x hx => by
    obtain ⟨e, a, b, e1, ha, hb, lt⟩ := h.el x hx
    have sub : ∀ c, c ∈ os.take n → c ∈ os.take (n + 1) := fun c hc => (List.take_sublist_take_left (Nat.le_succ n)).subset hc
    exact ⟨e, a, b, e1, sub a ha, sub b hb, lt⟩, h.nd, Nat.lt_succ_of_lt h.sz, h.bu, h.po.mono hB, h.nf, h.fp, h.op, h.fo⟩
theorem Fnd.push (h : Fnd p f o H0 H os n B ps) {t : Addr} {x y a b : Str} (ht : H t = some (.tup [.str a, .str b])) (hx : os[n]? = some x) (hy : y ∈ os.take n) (ab : (a = x ∧ b = y) ∨ (a = y ∧ b = x)) (lt : tLt a b)
    (nd : os.Nodup) : Fnd p f o H0 (upd H f (.lst ((ps.map fun q => V.ref q.1) ++ [.ref t]))) os (n + 1) B (ps ++ [(t, pairK a b)]) := by
  have hw := h.wide (Nat.le_refl B)
  have e3 : os.take (n + 1) = os.take n ++ [x] := by rw [List.take_add_one, hx]; rfl
  have xin : x ∈ os.take (n + 1) := by rw [e3]; simp
  have yin : y ∈ os.take (n + 1) := by rw [e3]; exact List.mem_append_left _ hy
  have xout : x ∉ os.take n := by
    intro hm
    obtain ⟨j, hj, e⟩ := List.getElem_of_mem hm
    rw [List.length_take] at hj
    rw [List.getElem_take] at e
    obtain ⟨hi, ei⟩ := List.getElem?_eq_some_iff.mp hx
    exact List.pairwise_iff_getElem.mp nd j n (by omega) hi (by omega) (by rw [e, ei])
  have notf : ∀ {c : Addr} {zs : List V}, H c = some (.tup zs) → c ≠ f := fun {c zs} e z => by
    rw [z, h.kf] at e
    cases e
  refine ⟨?_, ?_, fun q hq => ?_, ?_, ?_, ?_, ?_, h.nf, h.fp, h.op, h.fo⟩
  · rw [upd_same, List.map_append]
    rfl
  · rw [upd_ne h.fo.symm]
    exact h.ko
  · rcases List.mem_append.mp hq with z | z
    · obtain ⟨e, r⟩ := hw.el q z
      exact ⟨by rw [upd_ne (notf e)]; exact e, r⟩
    · rw [List.mem_singleton.mp z]
      refine ⟨by rw [upd_ne (notf ht)]; exact ht, a, b, rfl, ?_, ?_, lt⟩
      · rcases ab with ⟨rfl, rfl⟩ | ⟨rfl, rfl⟩
        · exact xin
        · exact yin
      · rcases ab with ⟨rfl, rfl⟩ | ⟨rfl, rfl⟩
        · exact yin
        · exact xin
  · rw [List.map_append]
    refine List.nodup_append.mpr ⟨h.nd, by simp, ?_⟩
    intro k hk l hl e
    have el : l = pairK a b := by simpa using hl
    obtain ⟨q, hq, eq⟩ := List.mem_map.mp hk
    obtain ⟨_, a2, b2, e2, ha2, hb2, _⟩ := h.el q hq
    rw [eq, e, el] at e2
    injection e2 with q1 q2
    injection q1 with q1
    injection q2 with q2 _
    injection q2 with q2
    rcases ab with ⟨rfl, rfl⟩ | ⟨rfl, rfl⟩
    · exact xout (q1 ▸ ha2)
    · exact xout (q2 ▸ hb2)
  · rw [List.length_append, List.length_singleton]
    exact Nat.succ_lt_succ h.sz
  · intro c u nc e
    have ncf : c ≠ f := by
      rintro rfl
      rw [h.nf] at e
      cases e
    rw [upd_ne ncf]
    exact h.bu c u nc e
  · obtain ⟨o1, s1, c1, e, r⟩ := h.po
    exact ⟨o1, s1, c1, by rw [upd_ne h.fp.symm]; exact e, r⟩
end
/-- the other pairs so far -/
structure Rst (g : Addr) (H : Hp) (zs : List Str) (i : Nat) (ps rs : List (Addr × List Key)) : Prop where
  kg : H g = some (.lst (rs.map fun q => V.ref q.1))
  el : ∀ q ∈ rs, H q.1 = some (.tup (q.2.map kV)) ∧ ∃ a b, q.2 = pairK a b ∧ a ∈ zs.take i ∧ b ∈ zs ∧ tLt a b ∧ q.2 ∉ ps.map fun q : Addr × List Key => q.2
  nd : (rs.map (·.2)).Nodup
  sz : rs.length ≤ 8 * i
theorem Fnd.other {p f o g : Addr} {H0 H : Hp} {os : List Str} {n B : Nat} {ps : List (Addr × List Key)} (h : Fnd p f o H0 H os n B ps) {xs ys : List V} (hg : H g = some (.lst xs)) (n0 : H0 g = none) (gp : g ≠ p) (gf : g ≠ f) (go : g ≠ o) :
    Fnd p f o H0 (upd H g (.lst ys)) os n B ps := by
  refine ⟨by rw [upd_ne gf.symm]; exact h.kf, by rw [upd_ne go.symm]; exact h.ko, fun q hq => ?_, h.nd, h.sz, fun c u nc e => ?_, ?_, h.nf, h.fp, h.op, h.fo⟩
  · obtain ⟨e, r⟩ := h.el q hq
    refine ⟨?_, r⟩
    rw [upd_ne]
    · exact e
    · intro z
      rw [z, hg] at e
      cases e
  · rw [upd_ne]
    · exact h.bu c u nc e
    · rintro rfl
      rw [n0] at e
      cases e
  · obtain ⟨o1, s1, c1, e, r⟩ := h.po
    exact ⟨o1, s1, c1, by rw [upd_ne gp.symm]; exact e, r⟩
section
variable {P : Program} {w : World} {K : PySem.W.Frag} {mg : Str → Option Value} {base : Heap} {ca ia fa : Nat → Addr} {fd fi : Nat → FuncData}
theorem ok_pairs (T : Txt K mg ca ia fa fd fi) : FnOk P w K mg base CX0 3 (fa 61) (fd 61) ["_law_pot_here", "_law_routers", "_law_many"] (spPairs K) := by
  have G_l_take := ok_take (P := P) (w := w) (base := base) T
  have G_l_turned := ok_turned (P := P) (w := w) (base := base) T
  refine T.F_l_pairs.ok sc_l_pairs (fun vs H Q E h => ?_) (fun cdv A outer s H vs Q E hr h => ?_)
  · obtain ⟨p, r, zs, m, B, rfl, _⟩ := h
    rfl
  · obtain ⟨p, r, zs, m, B, rfl, hp, hB, nrp, hr0, pw, nok, h2, h8, k⟩ := h
    refine ⟨_, (pss_cons (ps_asg (pe_tup (pa_cons (pe_call G_l_turned (hr.mono (by decide)) rfl T.g_l_turned T.k_l_turned T.b_l_turned .nil pass0 (pa_cons (pv 0) (pa_cons (pe_callTy call_list_of (by rfl) T.n_list (by decide +kernel) (pa_cons (pv 1) pa_nil)) pa_nil))) (pa_cons (pe_lst pa_nil) pa_nil))) (pg_tup rfl (pgs_cons (pg_name (i := 3) sc_l_pairs.nd rfl (Or.inl rfl)) (pgs_cons (pg_name (i := 4) sc_l_pairs.nd rfl (Or.inr rfl)) pgs_nil))))
      (pss_cons (ps_set (i := 5) sc_l_pairs.nd rfl (Or.inl rfl) (pe_cmpR op_gt (pe_call G_l_take (hr.mono (by decide)) rfl T.g_l_take T.k_l_take T.b_l_take .nil pass0 (pa_cons (pv 0) (pa_cons pe_int pa_nil))) pe_int (nomark _)))
      (pss_cons (ps_for PassesOwn.never rfl (pi_range2 rfl T.n_range (pa_cons pe_int (pa_cons (pe_callB call_len (by rfl) T.n_len (by decide +kernel) (pa_cons (pv 3) pa_nil)) pa_nil))) (pg_name (i := 6) sc_l_pairs.nd rfl (Or.inl rfl)) (pss_one (ps_if (PW.pt (pw_or (pt_val (pv 5)) (pw_or1 (pt_cmpR op_eq (pe_call G_l_take (hr.mono (by decide)) rfl T.g_l_take T.k_l_take T.b_l_take .nil pass0 (pa_cons (pv 0) (pa_cons pe_int pa_nil))) pe_int (nomark _))))) (pss_cons (ps_set (i := 7) sc_l_pairs.nd rfl (Or.inl rfl) (pe_ix ix_seq (pv 3) (pe_op op_sub (pe_op op_sub (pv 6) pe_int) (pe_call G_l_take (hr.mono (by decide)) rfl T.g_l_take T.k_l_take T.b_l_take .nil pass0 (pa_cons (pv 0) (pa_cons (pe_callB (call_min2 rfl) (by rfl) T.n_min (by decide +kernel) (pa_cons (pv 6) (pa_cons pe_int pa_nil))) pa_nil)))) (fun _ _ => rfl)))
      (pss_one (ps_expr (pe_bm PySem.F.plainAttrs_list PySem.F.slot_list_append PySem.F.type_list_append mt_append (pv 4) (pa_cons (pe_ifExp (pt_cmpR op_lt_str (pe_ix ix_seq (pv 3) (pv 6) (fun _ _ => rfl)) (pv 7) (nomark _)) (pe_tup (pa_cons (pe_ix ix_seq (pv 3) (pv 6) (fun _ _ => rfl)) (pa_cons (pv 7) pa_nil))) (pe_tup (pa_cons (pv 7) (pa_cons (pe_ix ix_seq (pv 3) (pv 6) (fun _ _ => rfl)) pa_nil)))) pa_nil))))) pss_nil)))
      (pss_cons (ps_set (i := 8) sc_l_pairs.nd rfl (Or.inl rfl) (pe_lst pa_nil))
      (pss_cons (ps_for PassesOwn.never rfl (pi_enumT (by rfl) T.n_enumerate (pa_cons (pv 1) pa_nil)) (pg_tup rfl (pgs_cons (pg_name (i := 6) sc_l_pairs.nd rfl (Or.inl rfl)) (pgs_cons (pg_name (i := 9) sc_l_pairs.nd rfl (Or.inr rfl)) pgs_nil))) (pss_one (ps_expr (pe_bm PySem.F.plainAttrs_list PySem.F.slot_list_extend PySem.F.type_list_extend mt_extend (pv 8) (pa_cons (pe_lc (own := [("_law_b", 10)]) (g := (gName 10)) (tt := (tPairTest K)) rfl sc_l_pairs.nd (pi_tup (pe_slice sl_tupA (pv 1) (po_some (pe_op op_add (pv 6) pe_int)) po_none)) (blkOk_by (own := [("_law_b", 10)]) (N := N_l_pairs) (sc := defScope s_l_pairs) (by decide +kernel)) (fun _ _ _ _ _ => (pg_name (i := 10) sc_l_pairs.nd rfl (Or.inl rfl))) (fun _ _ _ _ _ => (pts_one (pt_cmpR (op_notInD (by have := hr.un; exact roomU65 hr)) (pe_tup (pa_cons (pv 9) (pa_cons (pv 10) pa_nil))) (pv 4) rfl))) (fun _ _ _ _ _ => by exact (pe_tup (pa_cons (pv 9) (pa_cons (pv 10) pa_nil))))) pa_nil)))))
      (pss_one (ps_ret (pe_ifExp (pt_cmpR (op_neD hr.units) (pv 8) (pe_lst pa_nil) (nomark _)) (pe_op op_cat (pv 4) (pe_slice sl_list (pe_call G_l_turned (hr.mono (by decide)) rfl T.g_l_turned T.k_l_turned T.b_l_turned .nil pass0 (pa_cons (pv 0) (pa_cons (pv 8) pa_nil))) po_none (po_some (pe_callB (call_max2 rfl) (by rfl) T.n_max (by decide +kernel) (pa_cons pe_int (pa_cons (pe_op op_sub (pe_callTy call_int1 (by rfl) T.n_int (by decide +kernel) (pa_cons (pv 2) pa_nil)) (pe_callB call_len (by rfl) T.n_len (by decide +kernel) (pa_cons (pv 4) pa_nil))) pa_nil)))))) (pv 4))))))))), ?_⟩
    obtain ⟨po1, po2, po3, hpp, _⟩ := id hp
    have lenz : (zs.map V.str).length = zs.length := List.length_map ..
    have ndz : zs.Nodup := pw.imp fun {a b} h e => by rw [e] at h; exact absurd h (List.lt_irrefl _)
    refine seqA (fun v H' => ∃ (tq o f : Addr) (os : List Str), v = .ref tq ∧ H' tq = some (.tup [.ref o, .ref f]) ∧ os.Perm zs ∧ Fnd p f o H H' os 1 (B + 2) []) (fun Q k' => ?_) ?_
    · refine ⟨_, rfl, _, rfl, r, zs.map V.str, rfl, .inr hr0, fun l nl => ?_⟩
      refine ⟨p, l, _, B, rfl, hp.same (same_new nl), by omega, pot_none hp nl, SqL.of upd_same, by omega, by omega, fun ys q H1 py b1 p1 nq hq => ?_⟩
      obtain ⟨os, po, rfl⟩ := perm_map V.str py rfl
      have nqH : H q = none := but_none (But.of (same_new nl)) (hp.same (same_new nl)) nq
      refine ⟨by show 0 ≤ sizeLine; decide, fun f nf => ?_⟩
      have bH1 : But p H H1 := (But.of (same_new nl)).trans b1
      have nfq : f ≠ q := fun z => by rw [z, hq] at nf; cases nf
      refine ⟨by show 2 ≤ sizeLine; decide, fun t nt => k' _ _ ⟨t, q, f, os, rfl, upd_same, po, ?_⟩⟩
      have F0 : Fnd p f q H (upd H1 f (.lst [])) os 1 (B + 2) [] :=
        ⟨upd_same, by rw [upd_ne nfq.symm]; exact hq, fun _ z => (by cases z), List.nodup_nil, Nat.one_pos, bH1.trans (But.of (same_new nf)), p1.same (same_new nf), but_none bH1 p1 nf, pot_none p1 nf, pot_none (hp.same (same_new nl)) nq, nfq⟩
      exact F0.same (same_new nt)
    rintro _ H1 ⟨tq, o, f, os, rfl, htq, pos, F1⟩
    refine ⟨tq, _, rfl, SqT.of htq, rfl, _, _, rfl, _, _, rfl, rfl, ?_⟩
    refine seqS (fun v H' => ∃ jb : Bool, v = .bl jb ∧ Fnd p f o H H' os 1 (B + 3) []) (fun Q k' => ?_) ?_
    · exact ⟨_, rfl, p, 8, B + 2, rfl, F1.po, by decide, by decide, by omega, fun d H2 hd b2 p2 => ⟨_, _, rfl, rfl, k' _ _ ⟨_, rfl, F1.on b2 p2⟩⟩⟩
    rintro _ H2 ⟨jb, rfl, F2⟩
    have lo : os.length = zs.length := pos.length_eq
    have ndo : os.Nodup := pos.nodup_iff.mpr ndz
    have low : (os.map V.str).length = os.length := List.length_map ..
    refine ⟨_, rfl, _, _, rfl, .inl ⟨_, SqL.of F2.ko, rfl⟩, 1, _, rfl, ⟨by decide, by decide, by omega, by omega⟩, ?_⟩
    refine for_range (fun i σ H' => ∃ (x6 x7 : Option V) (ps : List (Addr × List Key)), σ = [some (.ref p), some (.ref r), some (.int (m : Int)), some (.ref o), some (.ref f), some (.bl jb), x6, x7, none, none, none] ∧
      Fnd p f o H H' os (i + 1) (B + 3 + 2 * i) ps) ⟨none, none, [], rfl, F2⟩ ?_ ?_
    · rintro i σ H3 hi ⟨x6, x7, ps, rfl, F3⟩
      have hi2 : i + 1 < os.length := by rw [low] at hi; omega
      refine ifAny (fun H' => Fnd p f o H H' os (i + 1) (B + 3 + 2 * i + 1) ps) (fun Q k' => ?_) (fun H4 F4 => ?_) (fun H4 F4 => ?_)
      · cases jb
        · refine ⟨_, rfl, _, rfl, ?_⟩
          dsimp only
          rw [if_neg Bool.false_ne_true]
          exact ⟨_, rfl, p, 2, B + 3 + 2 * i, rfl, F3.po, by decide, by decide, by omega, fun d H4 hd b4 p4 => ⟨rfl, _, rfl, k' _ _ (F3.on b4 p4)⟩⟩
        · refine ⟨_, rfl, _, rfl, ?_⟩
          dsimp only
          rw [if_pos rfl]
          exact k' _ _ (F3.on (But.refl _ _) (F3.po.mono (by omega)))
      · refine seqS (fun v H5 => ∃ y, v = .str y ∧ y ∈ os.take (i + 1) ∧ Fnd p f o H H5 os (i + 1) (B + 3 + 2 * i + 2) ps) (fun Q k' => ?_) ?_
        · refine ⟨_, rfl, _, rfl, _, _, rfl, rfl, _, rfl, _, rfl, _, _, rfl, p, _, B + 3 + 2 * i + 1, rfl, F4.po, ?_, ?_, by omega, fun t H5 ht b5 p5 => ⟨_, _, rfl, rfl, ?_⟩⟩
          · split <;> omega
          · split <;> omega
          have F5 := F4.on b5 p5
          have ti : t ≤ i := by
            split at ht <;> omega
          have e6 : (1 + (i : Int) - 1 - (t : Int)) = ((i - t : Nat) : Int) := by omega
          show rIx K (.ref o) (.int (1 + (i : Int) - 1 - (t : Int))) H5 _
          rw [e6]
          have li : i - t < os.length := by omega
          refine ixl (i - t) (SqL.of F5.ko) (z := .str os[i - t]) (by rw [List.getElem?_map, List.getElem?_eq_getElem li]; rfl) (k' _ _ ⟨_, rfl, ?_, F5⟩)
          refine List.mem_of_getElem? (i := i - t) ?_
          rw [List.getElem?_take_of_lt (by omega), List.getElem?_eq_getElem li]
        rintro _ H5 ⟨y, rfl, hy, F5⟩
        have gx : os[i + 1]? = some os[i + 1] := List.getElem?_eq_getElem hi2
        generalize os[i + 1] = x at gx
        have e7 : (1 + (i : Int)) = ((i + 1 : Nat) : Int) := by omega
        have at_ : ∀ {H' : Hp} {Q : VK}, Same H5 H' → Q (.str x) H' → rIx K (.ref o) (.int (1 + (i : Int))) H' Q := fun {H' Q} s q => by
          rw [e7]
          exact ixl (i + 1) (SqL.of (s _ _ F5.ko)) (by rw [List.getElem?_map, gx]; rfl) q
        have nxy : x ≠ y := by
          rintro rfl
          obtain ⟨j, hj, e⟩ := List.getElem_of_mem hy
          rw [List.length_take] at hj
          rw [List.getElem_take] at e
          obtain ⟨hi3, ei⟩ := List.getElem?_eq_some_iff.mp gx
          exact List.pairwise_iff_getElem.mp ndo j (i + 1) (by omega) hi3 (by omega) (by rw [e, ei])
        have lps : (ps.map fun q => V.ref q.1).length < sizeLine := by
          rw [List.length_map, sizeLine_eq]
          have := F5.sz
          omega
        refine ⟨_, rfl, ?_, ?_⟩
        · exact .inl ⟨rfl, _, SqL.of F5.kf⟩
        refine ⟨_, rfl, _, rfl, at_ (fun _ _ e => e) ⟨_, rfl, _, _, rfl, rfl, _, rfl, ite2 (fun lt => ?_) (fun lt => ?_)⟩⟩
        · have lt : tLt x y := of_decide_eq_true lt
          refine ⟨_, rfl, _, rfl, at_ (fun _ _ e => e) ⟨_, rfl, by show 2 ≤ sizeLine; decide, fun t nt => ⟨f, _, .ref t, rfl, rfl, (F5.same (same_new nt)).kf, lps, _, _, ps ++ [(t, pairK x y)], rfl, ?_⟩⟩⟩
          exact (((F5.same (same_new nt)).push upd_same gx hy (.inl ⟨rfl, rfl⟩) lt ndo).on (But.refl _ _) (((F5.same (same_new nt)).push upd_same gx hy (.inl ⟨rfl, rfl⟩) lt ndo).po.mono (by omega)))
        · have lt : tLt y x := tLe_lt (List.not_lt.mp fun z => lt (decide_eq_true z)) (Ne.symm nxy)
          refine ⟨_, rfl, _, rfl, _, rfl, at_ (fun _ _ e => e) ⟨by show 2 ≤ sizeLine; decide, fun t nt => ⟨f, _, .ref t, rfl, rfl, (F5.same (same_new nt)).kf, lps, _, _, ps ++ [(t, pairK y x)], rfl, ?_⟩⟩⟩
          exact (((F5.same (same_new nt)).push upd_same gx hy (.inr ⟨rfl, rfl⟩) lt ndo).on (But.refl _ _) (((F5.same (same_new nt)).push upd_same gx hy (.inr ⟨rfl, rfl⟩) lt ndo).po.mono (by omega)))
      · exact ⟨_, _, ps, rfl, F4.wide (by omega)⟩
    · rintro σ H3 ⟨x6, x7, ps, rfl, F3⟩
      have Fz : Fnd p f o H H3 os os.length (B + 20) ps := by
        have e : ((((os.map V.str).length : Nat) : Int) - 1).toNat + 1 = os.length := by rw [low]; omega
        have F3' := F3.on (But.refl _ _) (F3.po.mono (B' := B + 20) (by rw [low]; omega))
        rw [e] at F3'
        exact F3'
      clear F3
      refine nxt ?_
      refine seqS (fun v H' => ∃ g, v = .ref g ∧ H' g = some (.lst []) ∧ H g = none ∧ g ≠ p ∧ g ≠ f ∧ g ≠ o ∧ Fnd p f o H H' os os.length (B + 20) ps) (fun Q k' => ?_) ?_
      · refine ⟨by show 0 ≤ sizeLine; decide, fun g ng => k' _ _ ⟨g, rfl, upd_same, but_none Fz.bu Fz.po ng, pot_none Fz.po ng, fun z => ?_, fun z => ?_, Fz.same (same_new ng)⟩⟩
        · rw [z, Fz.kf] at ng
          cases ng
        · rw [z, Fz.ko] at ng
          cases ng
      rintro _ H4 ⟨g, rfl, hg, ngH, gp, gf, go, F4⟩
      have memz : ∀ a, a ∈ os → a ∈ zs := fun a ha => pos.mem_iff.mp ha
      have psK : ∀ q ∈ ps, ∃ a b, q.2 = pairK a b ∧ Low a ∧ Low b := fun q hq => by
        obtain ⟨_, a, b, e, ha, hb, _⟩ := F4.el q hq
        exact ⟨a, b, e, (nok a (memz a (List.mem_of_mem_take ha))).2.2, (nok b (memz b (List.mem_of_mem_take hb))).2.2⟩
      have psK2 : ∀ q ∈ ps, ∃ a b, q.2 = pairK a b := fun q hq => by
        obtain ⟨a, b, e, _⟩ := psK q hq
        exact ⟨a, b, e⟩
      have rOk : ∀ {H' : Hp}, But p H H' → SqT K H' r (zs.map V.str) := fun b => tup_but b hpp hr0
      refine ⟨_, rfl, r, zs.map V.str, rfl, rOk F4.bu, ?_⟩
      refine for_enT (fun i σ H' => ∃ (y6 y7 y9 y10 : Option V) (rs : List (Addr × List Key)), σ = [some (.ref p), some (.ref r), some (.int (m : Int)), some (.ref o), some (.ref f), some (.bl jb), y6, y7, some (.ref g), y9, y10] ∧
        Fnd p f o H H' os os.length (B + 20) ps ∧ Rst g H' zs i ps rs) ⟨_, _, _, _, [], rfl, F4, hg, fun _ z => (by cases z), List.nodup_nil, Nat.le_refl _⟩ (fun i σ H' _ z => ?_) ?_ ?_
      · obtain ⟨_, _, _, _, _, _, F5, _⟩ := z
        exact rOk F5.bu
      · rintro i x T σ H5 hx ⟨y6, y7, y9, y10, rs, rfl, F5, R5⟩ nT
        rw [List.getElem?_map] at hx
        obtain ⟨a, gx, rfl⟩ := Option.map_eq_some_iff.mp hx
        have li : i < zs.length := (List.getElem?_eq_some_iff.mp gx).1
        have az : a ∈ zs := List.mem_of_getElem? gx
        refine ⟨T, _, rfl, SqT.of upd_same, rfl, _, _, rfl, _, _, rfl, rfl, ?_⟩
        have s5 : Same H5 (upd H5 T (.tup [.int (i : Nat), .str a])) := same_new nT
        refine ⟨_, rfl, .inl ⟨rfl, _, SqL.of (s5 _ _ R5.kg)⟩, ?_⟩
        have F6 := F5.same s5
        refine ⟨_, rfl, _, rfl, _, _, rfl, rfl, _, rfl, r, zs.map V.str, rfl, rOk F6.bu, fun z => ?_, fun _ sl nsl => ?_⟩
        · have z1 := z.1
          have e1 : HT.sIx (zs.map V.str).length 0 (some ((i : Int) + 1)) = min (i + 1) (zs.map V.str).length := HT.sIx_nat _ _ (i + 1)
          rw [e1, List.length_map] at z1
          omega
        have ecut : cutV (zs.map V.str) (some ((i : Int) + 1)) none = (zs.drop (i + 1)).map V.str := by
          have e2 := cut_drop (zs.map V.str) (i + 1)
          rw [List.map_drop]
          exact e2
        rw [ecut]
        have s6 := s5.trans (same_new (o := .tup ((zs.drop (i + 1)).map V.str)) nsl)
        have sl6 : SqT K (upd (upd H5 T (.tup [.int (i : Nat), .str a])) sl (.tup ((zs.drop (i + 1)).map V.str))) sl ((zs.drop (i + 1)).map V.str) := SqT.of upd_same
        refine ⟨sl, rfl, ⟨_, sl6⟩, fun D hD => ?_⟩
        generalize upd (upd H5 T (.tup [.int (i : Nat), .str a])) sl (.tup ((zs.drop (i + 1)).map V.str)) = H6 at s6 sl6 hD
        refine lc_tup (xs := (zs.drop (i + 1)).map V.str) (fun j H' => ∃ ns : List (Addr × List Key), H' D = some (.lst (ns.map fun q => V.ref q.1)) ∧
          (∀ q ∈ ns, H' q.1 = some (.tup (q.2.map kV)) ∧ ∃ b, q.2 = pairK a b ∧ b ∈ (zs.drop (i + 1)).take j ∧ q.2 ∉ ps.map fun q : Addr × List Key => q.2) ∧ (ns.map (·.2)).Nodup ∧ ns.length ≤ j ∧ Same H6 H')
          ⟨[], upd_same, fun _ z => (by cases z), List.nodup_nil, Nat.le_refl _, same_new hD⟩ (fun j H' _ z => ?_) ?_ ?_
        · obtain ⟨_, _, _, _, _, s7⟩ := z
          obtain ⟨_, _, _, e, _⟩ := (F5.same s6).po
          exact tup_but (But.of s7) e sl6
        · rintro j y H7 hy ⟨ns, k1, k2, k3, k4, s7⟩
          rw [List.getElem?_map] at hy
          obtain ⟨b, gb, rfl⟩ := Option.map_eq_some_iff.mp hy
          have bz : b ∈ zs := List.mem_of_mem_drop (List.mem_of_getElem? gb)
          have F7 := (F5.same s6).same s7
          refine ⟨rfl, ?_⟩
          refine ⟨_, rfl, _, rfl, by show 2 ≤ sizeLine; decide, fun t nt => ?_⟩
          have F8 := F7.same (same_new (o := .tup [.str a, .str b]) nt)
          refine ⟨_, rfl, .tuple [.str a, .str b], ps.map kT, .tup (SqT.of upd_same) (.cons (.str a) (.cons (.str b) .nil)),
            .lst (SqL.of F8.kf) (rows_dp fun q hq => ⟨(F8.el q hq).1, psK2 q hq⟩), pair_shaped (nok a az).2.2 (nok b bz).2.2, rows_shaped psK, _, rfl, ?_⟩
          have s8 : Same H7 (upd H7 t (.tup [.str a, .str b])) := same_new nt
          have sub : ∀ c, c ∈ (zs.drop (i + 1)).take j → c ∈ (zs.drop (i + 1)).take (j + 1) := fun c hc => (List.take_sublist_take_left (Nat.le_succ j)).subset hc
          have bin : b ∈ (zs.drop (i + 1)).take (j + 1) := by
            rw [List.take_add_one, gb]
            simp
          have j8 : j < 8 := by
            have q1 := (List.getElem?_eq_some_iff.mp gb).1
            rw [List.length_drop] at q1
            omega
          refine ite2 (fun c => ?_) (fun c => ?_)
          · have nin : pairK a b ∉ ps.map fun q : Addr × List Key => q.2 := fun z => by
              have q1 := (rows_any psK2 a b).2 z
              rw [q1] at c
              cases c
            refine ⟨_, rfl, _, rfl, by show 2 ≤ sizeLine; decide, fun t2 nt2 => ?_⟩
            have s9 := s8.trans (same_new (o := .tup [.str a, .str b]) nt2)
            have nD2 : t2 ≠ D := fun z => by
              rw [z, s8 _ _ k1] at nt2
              cases nt2
            refine ⟨_, s9 _ _ k1, ?_, ns ++ [(t2, pairK a b)], ?_, fun q hq => ?_, ?_, ?_, fun c u e => ?_⟩
            · rw [List.length_map, sizeLine_eq]
              omega
            · rw [upd_same, List.map_append]
              rfl
            · rcases List.mem_append.mp hq with z | z
              · obtain ⟨e, b2, e2, hb2, n2⟩ := k2 q z
                refine ⟨?_, b2, e2, sub b2 hb2, n2⟩
                rw [upd_ne]
                · exact s9 _ _ e
                · intro z2
                  rw [z2, k1] at e
                  cases e
              · rw [List.mem_singleton.mp z]
                exact ⟨by rw [upd_ne nD2]; exact upd_same, b, rfl, bin, nin⟩
            · rw [List.map_append]
              refine List.nodup_append.mpr ⟨k3, by simp, ?_⟩
              intro k5 hk5 l5 hl5 e5
              have el5 : l5 = pairK a b := by simpa using hl5
              obtain ⟨q, hq, eq⟩ := List.mem_map.mp hk5
              obtain ⟨_, b2, e2, hb2, _⟩ := k2 q hq
              rw [eq, e5, el5] at e2
              injection e2 with _ e2
              injection e2 with e2 _
              injection e2 with e2
              subst e2
              obtain ⟨j2, hj2, e6⟩ := List.getElem_of_mem hb2
              rw [List.length_take] at hj2
              rw [List.getElem_take] at e6
              obtain ⟨hi3, ei⟩ := List.getElem?_eq_some_iff.mp gb
              exact List.pairwise_iff_getElem.mp (ndz.sublist (List.drop_sublist _ _)) j2 j (by omega) hi3 (by omega) (by rw [e6, ei])
            · rw [List.length_append, List.length_singleton]
              omega
            · rw [upd_ne]
              · exact s9 _ _ (s7 _ _ e)
              · rintro rfl
                rw [e] at hD
                cases hD
          · exact ⟨ns, s8 _ _ k1, fun q hq => by
              obtain ⟨e, b2, e2, hb2, n2⟩ := k2 q hq
              exact ⟨s8 _ _ e, b2, e2, sub b2 hb2, n2⟩, k3, by omega, s7.trans s8⟩
        · rintro H7 ⟨ns, k1, k2, k3, k4, s7⟩
          have F7 := (F5.same s6).same s7
          have kg7 := s7 _ _ (s6 _ _ R5.kg)
          have gD : g ≠ D := fun z => by
            rw [← z, s6 _ _ R5.kg] at hD
            cases hD
          have ln : ns.length ≤ 7 := by
            rw [List.length_map, List.length_drop] at k4
            omega
          have e3 : zs.take (i + 1) = zs.take i ++ [a] := by rw [List.take_add_one, gx]; rfl
          have aout : a ∉ zs.take i := by
            intro hm
            obtain ⟨j, hj, e⟩ := List.getElem_of_mem hm
            rw [List.length_take] at hj
            rw [List.getElem_take] at e
            obtain ⟨hi, ei⟩ := List.getElem?_eq_some_iff.mp gx
            exact List.pairwise_iff_getElem.mp ndz j i (by omega) hi (by omega) (by rw [e, ei])
          have notg : ∀ {c : Addr} {ws : List V}, H7 c = some (.tup ws) → c ≠ g := fun {c ws} e z => by
            rw [z, kg7] at e
            cases e
          refine ⟨g, D, _, _, rfl, rfl, kg7, k1, ?_, _, _, _, _, rs ++ ns, rfl, F7.other kg7 ngH gp gf go, ?_, fun q hq => ?_, ?_, ?_⟩
          · rw [List.length_map, List.length_map, sizeLine_eq]
            have := R5.sz
            omega
          · rw [upd_same, List.map_append]
          · rcases List.mem_append.mp hq with z | z
            · obtain ⟨e, a2, b2, e2, ha2, hb2, lt, n2⟩ := R5.el q z
              have e7 := s7 _ _ (s6 _ _ e)
              exact ⟨by rw [upd_ne (notg e7)]; exact e7, a2, b2, e2, by rw [e3]; exact List.mem_append_left _ ha2, hb2, lt, n2⟩
            · obtain ⟨e, b2, e2, hb2, n2⟩ := k2 q z
              have hb3 := List.mem_of_mem_take hb2
              refine ⟨by rw [upd_ne (notg e)]; exact e, a, b2, e2, by rw [e3]; simp, List.mem_of_mem_drop hb3, ?_, n2⟩
              obtain ⟨j, hj, e6⟩ := List.getElem_of_mem hb3
              rw [List.length_drop] at hj
              rw [List.getElem_drop] at e6
              obtain ⟨hi, ei⟩ := List.getElem?_eq_some_iff.mp gx
              have q1 := List.pairwise_iff_getElem.mp pw i (i + 1 + j) hi (by omega) (by omega)
              rw [ei, e6] at q1
              exact q1
          · rw [List.map_append]
            refine List.nodup_append.mpr ⟨R5.nd, k3, ?_⟩
            intro k5 hk5 l5 hl5 e5
            obtain ⟨q, hq, eq⟩ := List.mem_map.mp hk5
            obtain ⟨q2, hq2, eq2⟩ := List.mem_map.mp hl5
            obtain ⟨_, a2, b2, e2, ha2, _⟩ := R5.el q hq
            obtain ⟨_, b3, e4, _⟩ := k2 q2 hq2
            rw [eq, e5, ← eq2, e4] at e2
            injection e2 with e2 _
            injection e2 with e2
            exact aout (e2 ▸ ha2)
          · rw [List.length_append]
            have := R5.sz
            omega
      · rintro σ H5 ⟨y6, y7, y9, y10, rs, rfl, F5, R5⟩
        refine nxt ?_
        rw [lenz] at R5
        have zfull : zs.take zs.length = zs := List.take_length
        have rsK : ∀ q ∈ rs, ∃ a b, q.2 = pairK a b ∧ Low a ∧ Low b := fun q hq => by
          obtain ⟨_, a, b, e, ha, hb, _⟩ := R5.el q hq
          exact ⟨a, b, e, (nok a (List.mem_of_mem_take ha)).2.2, (nok b hb).2.2⟩
        have rsK2 : ∀ q ∈ rs, ∃ a b, q.2 = pairK a b := fun q hq => by
          obtain ⟨a, b, e, _⟩ := rsK q hq
          exact ⟨a, b, e⟩
        have PF : ∀ {H' : Hp}, (∀ q ∈ ps, H' q.1 = some (.tup (q.2.map kV))) → PairsOk H' zs ps := fun {H'} hh => ⟨fun q hq => by
          obtain ⟨_, a, b, e, ha, hb, lt⟩ := F5.el q hq
          exact ⟨hh q hq, a, b, e, memz a (List.mem_of_mem_take ha), memz b (List.mem_of_mem_take hb), lt⟩, F5.nd⟩
        refine ⟨_, rfl, by show 0 ≤ sizeLine; decide, fun e ne => ?_⟩
        have s6 : Same H5 (upd H5 e (.lst [])) := same_new ne
        have F6 := F5.same s6
        have kg6 := s6 _ _ R5.kg
        refine ⟨.list (rs.map kT), .list [], .lst (SqL.of kg6) (rows_dp fun q hq => ⟨s6 _ _ (R5.el q hq).1, rsK2 q hq⟩), .lst (SqL.of upd_same) .nil, rows_shaped rsK, by decide +kernel, _, rfl, ite2 (fun c => ?_) (fun c => ?_)⟩
        · have hpos : 0 < rs.length := by
            cases rs with
            | nil => simp [PyData.eqv, PyData.eqvAll] at c
            | cons _ _ => exact Nat.succ_pos _
          have hsz := R5.sz
          refine ⟨_, rfl, _, rfl, _, rfl, p, g, _, B + 20, rfl, F6.po, by omega, gp, SqL.of kg6, by rw [List.length_map]; exact hpos, by rw [List.length_map]; omega, fun ys q H6 py b6 p6 nq hq => ?_⟩
          obtain ⟨rs', pr, rfl⟩ := perm_map (fun q : Addr × List Key => V.ref q.1) py rfl
          have F7 := F6.on b6 p6
          refine ⟨_, rfl, .inl ⟨_, rfl, _, rfl, _, _, rfl, .inl ⟨_, SqL.of F7.kf, rfl⟩, _, _, rfl, rfl, _, _, rfl, _, rfl, q, _, rfl, SqL.of hq, fun q2 nq2 => ?_⟩⟩
          obtain ⟨c2, ec, hc2⟩ : ∃ c2 : Nat, (if (m : Int) - ((ps.map fun q => V.ref q.1).length : Nat) > 0 then (m : Int) - ((ps.map fun q => V.ref q.1).length : Nat) else 0) = (c2 : Int) ∧ (ps.length + c2 ≤ m ∨ c2 = 0) := by
            refine ⟨m - ps.length, ?_, by omega⟩
            rw [List.length_map]
            split <;> omega
          rw [ec, cut_take]
          have s8 := same_new (o := .lst ((rs'.map fun q => V.ref q.1).take c2)) nq2
          refine ⟨f, q2, _, _, rfl, rfl, s8 _ _ F7.kf, upd_same, ?_, fun l nl => ?_⟩
          · have q1 := F7.sz
            have q3 := pr.length_eq
            rw [List.length_map, List.length_take, List.length_map, sizeLine_eq]
            omega
          have F9 := (F7.same s8).same (same_new (o := .lst ((ps.map fun q => V.ref q.1) ++ (rs'.map fun q => V.ref q.1).take c2)) nl)
          have s9 := s8.trans (same_new (o := .lst ((ps.map fun q => V.ref q.1) ++ (rs'.map fun q => V.ref q.1).take c2)) nl)
          refine k (ps ++ rs'.take c2) l _ ⟨fun x hx => ?_, ?_⟩ ?_ F9.bu (F9.po.mono (by omega)) (but_none (F7.same s8).bu (F7.same s8).po nl) ?_
          · rcases List.mem_append.mp hx with z | z
            · obtain ⟨e1, a, b, e2, ha, hb, lt⟩ := F9.el x z
              exact ⟨e1, a, b, e2, memz a (List.mem_of_mem_take ha), memz b (List.mem_of_mem_take hb), lt⟩
            · obtain ⟨e1, a, b, e2, ha, hb, lt, _⟩ := R5.el x (pr.mem_iff.mp (List.mem_of_mem_take z))
              have e3 := s6 _ _ e1
              exact ⟨s9 _ _ (b6 _ _ (tup_notp e3 F6.po) e3), a, b, e2, List.mem_of_mem_take ha, hb, lt⟩
          · rw [List.map_append]
            have nr : ((rs'.take c2).map (·.2)).Nodup := by
              rw [List.map_take]
              exact (((pr.map (·.2)).nodup_iff.mpr R5.nd)).sublist (List.take_sublist _ _)
            refine List.nodup_append.mpr ⟨F5.nd, nr, ?_⟩
            intro k5 hk5 l5 hl5 e5
            obtain ⟨x, hx, ex⟩ := List.mem_map.mp hl5
            obtain ⟨_, _, _, _, _, _, _, n2⟩ := R5.el x (pr.mem_iff.mp (List.mem_of_mem_take hx))
            rw [ex, ← e5] at n2
            exact n2 hk5
          · rw [List.length_append, List.length_take]
            have := F5.sz
            omega
          · rw [upd_same, List.map_append, List.map_take]
        · have hnil : rs = [] := by
            cases rs with
            | nil => rfl
            | cons _ _ => simp [PyData.eqv, PyData.eqvAll] at c
          refine ⟨_, rfl, k ps f _ (PF fun q hq => (F6.el q hq).1) (.inr ?_) F6.bu (F6.po.mono (by omega)) F6.nf F6.kf⟩
          have := F6.sz
          omega
end
end Toy
set_option Elab.async false
set_option linter.all false
set_option maxRecDepth 100000
set_option maxHeartbeats 4000000
namespace Toy
open PySem L2 Q
theorem roomU3 {k : Nat} {A : Around} (h : Room k A) : A.units + 3 < cLine := by
  have q := h.units
  omega
abbrev linkK (a b : Str) (x y : Nat) : List Key := [.inr a, .inr b, .inl (x : Int), .inl (y : Int)]
/-- right links of the names zs in their order, each a tuple -/
def LinksOk (H : Hp) (zs : List Str) (ls : List (Addr × List Key)) : Prop :=
  (∀ q ∈ ls, H q.1 = some (.tup (q.2.map kV)) ∧ ∃ a b x y, q.2 = linkK a b x y ∧ a ∈ zs ∧ b ∈ zs ∧ tLt a b ∧ 1 ≤ x ∧ x ≤ 90 ∧ 1 ≤ y ∧ y ≤ 90) ∧
  ls.Pairwise (fun q r => ksLt (q.2.take 2) (r.2.take 2) = true) ∧ ls.length ≤ 16
/-- _law_world(pot, least, most, more) -/
def spWorld (K : PySem.W.Frag) : Sp := fun vs H Q _ => ∃ (p : Addr) (lo hi mo B : Nat), vs = [.ref p, .int (lo : Int), .int (hi : Int), .int (mo : Int)] ∧ Pot H p B ∧ B < 990000 ∧ 2 ≤ lo ∧ lo ≤ hi ∧ hi ≤ 8 ∧ mo ≤ 1000 ∧
  ∀ (w r l : Addr) (zs : List Str) (ls : List (Addr × List Key)) (H' : Hp), H' w = some (.tup [.ref r, .ref l]) → H' r = some (.tup (zs.map V.str)) → H' l = some (.tup (ls.map fun q => V.ref q.1)) →
    zs.Pairwise tLt → (∀ z ∈ zs, NameOk z) → lo ≤ zs.length → zs.length ≤ hi → LinksOk H' zs ls → But p H H' → Pot H' p (B + 200) → Q (.ref w) H'
theorem link_lt {a b a' b' : Str} {x y x' y' : Nat} (h : ksLt (linkK a b x y) (linkK a' b' x' y') = true) (ne : pairK a b ≠ pairK a' b') : ksLt (pairK a b) (pairK a' b') = true := by
  unfold linkK ksLt at h
  unfold pairK ksLt
  by_cases e : (Sum.inr a : Key) = Sum.inr a'
  · rw [if_pos e] at h ⊢
    unfold ksLt at h ⊢
    by_cases e2 : (Sum.inr b : Key) = Sum.inr b'
    · exact absurd (by unfold pairK; rw [e, e2]) ne
    · rw [if_neg e2] at h ⊢
      exact h
  · rw [if_neg e] at h ⊢
    exact h
/-- the links made of the first i pairs -/
structure Lnk (p f c : Addr) (H0 H : Hp) (zs : List Str) (r : Addr) (i B : Nat) (ps ls : List (Addr × List Key)) : Prop where
  kf : H f = some (.lst (ls.map fun q => V.ref q.1))
  kc : H c = some (.lst (ps.map fun q => V.ref q.1))
  kr : H r = some (.tup (zs.map V.str))
  pk : PairsOk H zs ps
  el : ∀ q ∈ ls, H q.1 = some (.tup (q.2.map kV)) ∧ ∃ a b x y, q.2 = linkK a b x y ∧ 1 ≤ x ∧ x ≤ 90 ∧ 1 ≤ y ∧ y ≤ 90
  kk : ls.map (fun q => q.2.take 2) = (ps.take i).map (·.2)
  bu : But p H0 H
  po : Pot H p B
  nf : H0 f = none
  fp : f ≠ p
  cp : c ≠ p
  fc : f ≠ c
theorem Lnk.on {p f c r : Addr} {H0 H H' : Hp} {zs : List Str} {i B B' : Nat} {ps ls : List (Addr × List Key)} (h : Lnk p f c H0 H zs r i B ps ls) (b : But p H H') (q : Pot H' p B') : Lnk p f c H0 H' zs r i B' ps ls :=
  ⟨b _ _ h.fp h.kf, b _ _ h.cp h.kc, b _ _ (tup_notp h.kr h.po) h.kr, ⟨fun x hx => ⟨b _ _ (tup_notp (h.pk.1 x hx).1 h.po) (h.pk.1 x hx).1, (h.pk.1 x hx).2⟩, h.pk.2⟩,
    fun x hx => ⟨b _ _ (tup_notp (h.el x hx).1 h.po) (h.el x hx).1, (h.el x hx).2⟩, h.kk, h.bu.trans b, q, h.nf, h.fp, h.cp, h.fc⟩
theorem Lnk.push {p f c r t : Addr} {H0 H : Hp} {zs : List Str} {i B : Nat} {ps ls : List (Addr × List Key)} (h : Lnk p f c H0 H zs r i B ps ls) {q : Addr × List Key} {a b : Str} {x y : Nat} (hq : ps[i]? = some q) (e : q.2 = pairK a b)
    (ht : H t = some (.tup ((linkK a b x y).map kV))) (h1 : 1 ≤ x) (h2 : x ≤ 90) (h3 : 1 ≤ y) (h4 : y ≤ 90) :
    Lnk p f c H0 (upd H f (.lst ((ls.map fun q => V.ref q.1) ++ [.ref t]))) zs r (i + 1) B ps (ls ++ [(t, linkK a b x y)]) := by
  have notf : ∀ {d : Addr} {ws : List V}, H d = some (.tup ws) → d ≠ f := fun {d ws} e z => by
    rw [z, h.kf] at e
    cases e
  refine ⟨?_, by rw [upd_ne h.fc.symm]; exact h.kc, by rw [upd_ne (notf h.kr)]; exact h.kr, ⟨fun x hx => ⟨by rw [upd_ne (notf (h.pk.1 x hx).1)]; exact (h.pk.1 x hx).1, (h.pk.1 x hx).2⟩, h.pk.2⟩, fun z hz => ?_, ?_, fun d u nd e => ?_, ?_, h.nf, h.fp, h.cp, h.fc⟩
  · rw [upd_same, List.map_append]
    rfl
  · rcases List.mem_append.mp hz with w | w
    · exact ⟨by rw [upd_ne (notf (h.el z w).1)]; exact (h.el z w).1, (h.el z w).2⟩
    · rw [List.mem_singleton.mp w]
      exact ⟨by rw [upd_ne (notf ht)]; exact ht, a, b, x, y, rfl, h1, h2, h3, h4⟩
  · rw [List.map_append, h.kk, List.take_add_one, hq, List.map_append]
    show _ ++ [pairK a b] = _ ++ [q.2]
    rw [e]
  · rw [upd_ne]
    · exact h.bu d u nd e
    · rintro rfl
      rw [h.nf] at e
      cases e
  · obtain ⟨o1, s1, c1, e, r⟩ := h.po
    exact ⟨o1, s1, c1, by rw [upd_ne h.fp.symm]; exact e, r⟩
theorem Lnk.same {p f c r : Addr} {H0 H H' : Hp} {zs : List Str} {i B : Nat} {ps ls : List (Addr × List Key)} (h : Lnk p f c H0 H zs r i B ps ls) (s : Same H H') : Lnk p f c H0 H' zs r i B ps ls := h.on (But.of s) (h.po.same s)
theorem Lnk.more {p f c r : Addr} {H0 H : Hp} {zs : List Str} {i B B' : Nat} {ps ls : List (Addr × List Key)} (h : Lnk p f c H0 H zs r i B ps ls) (l : B ≤ B') : Lnk p f c H0 H zs r i B' ps ls := h.on (But.refl _ _) (h.po.mono l)
section
variable {P : Program} {w : World} {K : PySem.W.Frag} {mg : Str → Option Value} {base : Heap} {ca ia fa : Nat → Addr} {fd fi : Nat → FuncData}
theorem ok_world (T : Txt K mg ca ia fa fd fi) : FnOk P w K mg base CX0 4 (fa 62) (fd 62) ["_law_pot_here", "_law_least", "_law_most", "_law_more"] (spWorld K) := by
  have G_l_take := ok_take (P := P) (w := w) (base := base) T
  have G_l_names := ok_names (P := P) (w := w) (base := base) T
  have G_l_pairs := ok_pairs (P := P) (w := w) (base := base) T
  have G_l_far := ok_far (P := P) (w := w) (base := base) T
  refine T.F_l_world.ok sc_l_world (fun vs H Q E h => ?_) (fun cdv A outer s H vs Q E hr h => ?_)
  · obtain ⟨p, lo, hi, mo, B, rfl, _⟩ := h
    rfl
  · obtain ⟨p, lo, hi, mo, B, rfl, hp, hB, h1, h2, h3, h4, k⟩ := h
    refine ⟨_, (pss_cons (ps_set (i := 4) sc_l_world.nd rfl (Or.inl rfl) (pe_op op_add (pv 1) (pe_call G_l_take (hr.mono (by decide)) rfl T.g_l_take T.k_l_take T.b_l_take .nil pass0 (pa_cons (pv 0) (pa_cons (pe_op op_add (pe_op op_sub (pv 2) (pv 1)) pe_int) pa_nil)))))
      (pss_cons (ps_set (i := 5) sc_l_world.nd rfl (Or.inl rfl) (pe_callTy call_tuple_of (by rfl) T.n_tuple (by decide +kernel) (pa_cons (pe_call G_l_names (hr.mono (by decide)) rfl T.g_l_names T.k_l_names T.b_l_names .nil pass0 (pa_cons (pv 0) (pa_cons (pv 4) pa_nil))) pa_nil)))
      (pss_cons (ps_set (i := 6) sc_l_world.nd rfl (Or.inl rfl) (pe_call G_l_pairs (hr.mono (by decide)) rfl T.g_l_pairs T.k_l_pairs T.b_l_pairs .nil pass0 (pa_cons (pv 0) (pa_cons (pv 5) (pa_cons (pe_callB (call_min2 rfl) (by rfl) T.n_min (by decide +kernel) (pa_cons pe_int (pa_cons (pe_op op_add (pe_op op_sub (pv 4) pe_int) (pe_call G_l_take (hr.mono (by decide)) rfl T.g_l_take T.k_l_take T.b_l_take .nil pass0 (pa_cons (pv 0) (pa_cons (pe_op op_add (pv 3) pe_int) pa_nil)))) pa_nil))) pa_nil)))))
      (pss_cons (ps_par (i := 7) (j := 8) (by rfl) sc_l_world.nd rfl rfl (by decide) rfl rfl (pa_cons (pe_lst pa_nil) (pa_cons (pe_cmpR op_eq (pe_call G_l_take (hr.mono (by decide)) rfl T.g_l_take T.k_l_take T.b_l_take .nil pass0 (pa_cons (pv 0) (pa_cons pe_int pa_nil))) pe_int (nomark _)) pa_nil)) (by rfl))
      (pss_cons (ps_for PassesOwn.never rfl (pi_list (pv 6)) (pg_tup rfl (pgs_cons (pg_name (i := 9) sc_l_world.nd rfl (Or.inl rfl)) (pgs_cons (pg_name (i := 10) sc_l_world.nd rfl (Or.inl rfl)) pgs_nil))) (pss_cons (ps_set (i := 11) sc_l_world.nd rfl (Or.inl rfl) (pe_call G_l_far (hr.mono (by decide)) rfl T.g_l_far T.k_l_far T.b_l_far .nil pass0 (pa_cons (pv 0) pa_nil)))
      (pss_one (ps_expr (pe_bm PySem.F.plainAttrs_list PySem.F.slot_list_append PySem.F.type_list_append mt_append (pv 7) (pa_cons (pe_tup (pa_cons (pv 9) (pa_cons (pv 10) (pa_cons (pv 11) (pa_cons (pe_ifExp (pt_val (pv 8)) (pv 11) (pe_call G_l_far (hr.mono (by decide)) rfl T.g_l_far T.k_l_far T.b_l_far .nil pass0 (pa_cons (pv 0) pa_nil))) pa_nil))))) pa_nil))))))
      (pss_one (ps_ret (pe_tup (pa_cons (pv 5) (pa_cons (pe_callTy call_tuple_of (by rfl) T.n_tuple (by decide +kernel) (pa_cons (pe_callB (cr_sortTu rfl (roomU3 hr)) (by rfl) T.n_sorted (by decide +kernel) (pa_cons (pe_callTy (cr_setTu rfl (roomU3 hr)) (by rfl) T.n_set (by decide +kernel) (pa_cons (pv 7) pa_nil)) pa_nil)) pa_nil)) pa_nil)))))))))), ?_⟩
    refine seqS (fun v H' => ∃ n : Nat, v = .int (n : Int) ∧ lo ≤ n ∧ n ≤ hi ∧ But p H H' ∧ Pot H' p (B + 1)) (fun Q k' => ?_) ?_
    · refine ⟨_, rfl, _, rfl, _, rfl, _, rfl, _, _, rfl, rfl, _, _, rfl, rfl, p, _, B, rfl, hp, by omega, by omega, by omega, fun d H1 hd b1 p1 => ⟨_, _, rfl, rfl, k' _ _ ⟨lo + d, congrArg V.int (by omega), by omega, by omega, b1, p1⟩⟩⟩
    rintro _ H1 ⟨n, rfl, n1, n2, b1, p1⟩
    refine seqS (fun v H' => ∃ (r : Addr) (zs : List Str), v = .ref r ∧ H' r = some (.tup (zs.map V.str)) ∧ zs.length = n ∧ zs.Pairwise tLt ∧ (∀ z ∈ zs, NameOk z) ∧ But p H H' ∧ Pot H' p (B + 21)) (fun Q k' => ?_) ?_
    · refine ⟨_, rfl, _, rfl, p, n, B + 1, rfl, p1, by omega, by omega, fun zs q H2 hl pw nok b2 p2 nq hq => ⟨q, _, rfl, .inl ⟨SqL.of hq, fun r nr => k' _ _ ⟨r, zs, rfl, upd_same, hl, pw, nok, (b1.trans b2).trans (But.of (same_new nr)), (p2.same (same_new nr)).mono (by omega)⟩⟩⟩⟩
    rintro _ H2 ⟨r, zs, rfl, hr2, hl, pw, nok, b2, p2⟩
    have nrp := tup_notp hr2 p2
    refine seqS (fun v H' => ∃ (c : Addr) (ps : List (Addr × List Key)), v = .ref c ∧ H' c = some (.lst (ps.map fun q => V.ref q.1)) ∧ PairsOk H' zs ps ∧ ps.length ≤ 16 ∧ H' r = some (.tup (zs.map V.str)) ∧ c ≠ p ∧ But p H H' ∧ Pot H' p (B + 60)) (fun Q k' => ?_) ?_
    · refine ⟨_, rfl, _, rfl, _, rfl, _, _, rfl, rfl, _, rfl, _, rfl, _, _, rfl, rfl, p, _, B + 21, rfl, p2, by omega, by omega, by omega, fun d H3 hd b3 p3 => ⟨_, _, rfl, rfl, _, _, rfl, ?_⟩⟩
      obtain ⟨m, em, hm⟩ : ∃ m : Nat, (if (n : Int) - 1 + (d : Int) < 16 then (n : Int) - 1 + (d : Int) else 16) = (m : Int) ∧ m ≤ 16 := by
        refine ⟨(if (n : Int) - 1 + (d : Int) < 16 then (n : Int) - 1 + (d : Int) else 16).toNat, ?_, ?_⟩ <;> split <;> omega
      have hr3 := b3 _ _ nrp hr2
      refine ⟨p, r, zs, m, B + 22, ?_, p3, by omega, nrp, SqT.of hr3, pw, nok, by omega, by omega, fun ps c H4 pk lp b4 p4 nc hc => k' _ _ ⟨c, ps, rfl, hc, pk, by omega, b4 _ _ nrp hr3, pot_none p3 nc, (b2.trans b3).trans b4, p4.mono (by omega)⟩⟩
      show [V.ref p, V.ref r, V.int _] = _
      rw [← em]
    rintro _ H3 ⟨c, ps, rfl, hc, pk, lp, hr3, ncp, b3, p3⟩
    refine ⟨by show 0 ≤ sizeLine; decide, fun f nf => ⟨_, rfl, p, 2, B + 60, rfl, p3.same (same_new nf), by decide, by decide, by omega, fun d H4 hd b4 p4 => ⟨rfl, _, _, rfl, ?_⟩⟩⟩
    refine nxt ?_
    have s3 : Same H3 (upd H3 f (.lst [])) := same_new nf
    have L4 : Lnk p f c H H4 zs r 0 (B + 61) ps [] := Lnk.on (H := upd H3 f (.lst []))
      ⟨upd_same, s3 _ _ hc, s3 _ _ hr3, ⟨fun x hx => ⟨s3 _ _ (pk.1 x hx).1, (pk.1 x hx).2⟩, pk.2⟩, fun _ z => (by cases z), rfl, b3.trans (But.of s3), p3.same s3, but_none b3 p3 nf, pot_none p3 nf, ncp, fun z => by rw [z, hc] at nf; cases nf⟩ b4 p4
    generalize decide (V.int (d : Int) = V.int 0) = ev
    refine ⟨_, rfl, c, rfl, ⟨_, SqL.of L4.kc⟩, ?_⟩
    refine for_list (xs := ps.map fun q => V.ref q.1) (fun i σ H' => ∃ (y9 y10 y11 : Option V) (ls : List (Addr × List Key)), σ = [some (.ref p), some (.int (lo : Int)), some (.int (hi : Int)), some (.int (mo : Int)), some (.int (n : Int)), some (.ref r), some (.ref c), some (.ref f), some (.bl ev), y9, y10, y11] ∧
      Lnk p f c H H' zs r i (B + 61 + 6 * i) ps ls) ⟨_, _, _, [], rfl, L4⟩ (fun i σ H' _ z => ?_) ?_ ?_
    · obtain ⟨_, _, _, _, _, L⟩ := z
      exact SqL.of L.kc
    · rintro i x σ H5 hx ⟨y9, y10, y11, ls, rfl, L5⟩
      rw [List.getElem?_map] at hx
      obtain ⟨q, gq, rfl⟩ := Option.map_eq_some_iff.mp hx
      have li : i < ps.length := (List.getElem?_eq_some_iff.mp gq).1
      obtain ⟨eq1, a, b, eq2, ha, hb, lt⟩ := L5.pk.1 q (List.mem_of_getElem? gq)
      rw [eq2] at eq1
      refine ⟨q.1, _, rfl, SqT.of eq1, rfl, _, _, rfl, _, _, rfl, rfl, ?_⟩
      refine seqS (fun v H' => ∃ x : Nat, v = .int (x : Int) ∧ 1 ≤ x ∧ x ≤ 90 ∧ Lnk p f c H H' zs r i (B + 61 + 6 * i + 3) ps ls) (fun Q k' => ?_) ?_
      · exact ⟨_, rfl, p, _, rfl, L5.po, by omega, fun x H6 x1 x2 b6 p6 => k' _ _ ⟨x, rfl, x1, x2, L5.on b6 p6⟩⟩
      rintro _ H6 ⟨x, rfl, x1, x2, L6⟩
      refine ⟨_, rfl, .inl ⟨rfl, _, SqL.of L6.kf⟩, ?_⟩
      have lls : (ls.map fun q => V.ref q.1).length < sizeLine := by
        have e := congrArg List.length L6.kk
        rw [List.length_map, List.length_map, List.length_take] at e
        rw [List.length_map, sizeLine_eq]
        omega
      refine ⟨_, rfl, _, rfl, _, rfl, _, rfl, ev, rfl, ?_⟩
      cases ev
      · dsimp only
        rw [if_neg Bool.false_ne_true]
        refine ⟨_, rfl, p, _, rfl, L6.po, by omega, fun y H7 y1 y2 b7 p7 => ?_⟩
        have L7 := L6.on b7 p7
        refine ⟨by show 4 ≤ sizeLine; decide, fun t nt => ?_⟩
        have s8 := same_new (o := .tup [.str a, .str b, .int (x : Int), .int (y : Int)]) nt
        exact ⟨f, _, .ref t, rfl, rfl, (L7.same s8).kf, lls, _, _, _, ls ++ [(t, linkK a b x y)], rfl, ((L7.same s8).push gq eq2 upd_same x1 x2 y1 y2).more (by omega)⟩
      · dsimp only
        rw [if_pos rfl]
        refine ⟨_, rfl, ?_⟩
        refine ⟨by show 4 ≤ sizeLine; decide, fun t nt => ?_⟩
        have s8 := same_new (o := .tup [.str a, .str b, .int (x : Int), .int (x : Int)]) nt
        exact ⟨f, _, .ref t, rfl, rfl, (L6.same s8).kf, lls, _, _, _, ls ++ [(t, linkK a b x x)], rfl, ((L6.same s8).push gq eq2 upd_same x1 x2 x1 x2).more (by omega)⟩
    · rintro σ H5 ⟨y9, y10, y11, ls, rfl, L5⟩
      refine nxt ?_
      have kk : ls.map (fun q => q.2.take 2) = ps.map (·.2) := by
        have e := L5.kk
        rw [List.length_map, List.take_length] at e
        exact e
      have lls : ls.length = ps.length := by
        have e := congrArg List.length kk
        rw [List.length_map, List.length_map] at e
        exact e
      have nd2 : (ls.map (fun q => q.2.take 2)).Nodup := by
        rw [kk]
        exact L5.pk.2
      have ndk : (ls.map (·.2)).Nodup := by
        refine nodup_of_map (f := fun k : List Key => k.take 2) ?_
        rw [List.map_map]
        exact nd2
      have shp : ∀ q ∈ ls, shape q.2 = [false, false, true, true] := fun q hq => by
        obtain ⟨_, a, b, x, y, e, _⟩ := L5.el q hq
        rw [e]
        rfl
      refine ⟨_, rfl, _, rfl, f, ls, rfl, SqL.of L5.kf, fun q hq => SqT.of (L5.el q hq).1, ndk, by omega, fun S nS => ?_⟩
      have L6 := L5.same (same_new (o := SetM w S (ls.map fun q => Value.ref q.1)) nS)
      refine ⟨S, ls, _, rfl, upd_same, fun q hq => SqT.of (L6.el q hq).1, shp, by simp, ndk, by omega, fun g ts pts pwt ng => ?_⟩
      have L7 := L6.same (same_new (o := .lst (ts.map fun q => V.ref q.1)) ng)
      refine ⟨g, _, rfl, .inl ⟨SqL.of upd_same, fun lt nlt => ?_⟩⟩
      have L8 := L7.same (same_new (o := .tup (ts.map fun q => V.ref q.1)) nlt)
      refine ⟨by show 2 ≤ sizeLine; decide, fun wd nwd => ?_⟩
      have s9 := same_new (o := .tup [.ref r, .ref lt]) nwd
      have L9 := L8.same s9
      have lz := hl
      refine k wd r lt zs ts _ upd_same L9.kr (s9 _ _ upd_same) pw nok (by omega) (by omega) ⟨fun q hq => ?_, ?_, by rw [pts.length_eq]; omega⟩ L9.bu (L9.po.mono (by rw [List.length_map]; omega))
      · have hq2 := pts.mem_iff.mp hq
        obtain ⟨e1, a, b, x, y, e2, x1, x2, y1, y2⟩ := L9.el q hq2
        have hm : pairK a b ∈ ps.map (·.2) := by
          rw [← kk]
          exact List.mem_map.mpr ⟨q, hq2, by rw [e2]; rfl⟩
        obtain ⟨q3, hq3, e3⟩ := List.mem_map.mp hm
        obtain ⟨_, a3, b3, e4, ha, hb, lt⟩ := L5.pk.1 q3 hq3
        rw [e3] at e4
        injection e4 with e5 e6
        injection e5 with e5
        injection e6 with e6 _
        injection e6 with e6
        subst e5
        subst e6
        exact ⟨e1, a, b, x, y, e2, ha, hb, lt, x1, x2, y1, y2⟩
      · have nt : (ts.map (fun q => q.2.take 2)).Nodup := ((pts.map (fun q : Addr × List Key => q.2.take 2)).nodup_iff).mpr nd2
        refine List.Pairwise.imp_of_mem (fun {q q'} hq hq' h => ?_) (List.Pairwise.and pwt (List.pairwise_map.mp nt))
        obtain ⟨_, a, b, x, y, e, _⟩ := L5.el q (pts.mem_iff.mp hq)
        obtain ⟨_, a', b', x', y', e', _⟩ := L5.el q' (pts.mem_iff.mp hq')
        rw [e, e'] at h ⊢
        exact link_lt h.1 h.2
end
end Toy
set_option Elab.async false
set_option linter.all false
set_option maxRecDepth 100000
set_option maxHeartbeats 4000000
namespace Toy
open PySem L2 Q
section
variable {K : PySem.W.Frag} {mg : Str → Option Value} {nm : Str} {C Cn : Addr}
theorem mro_of (h : ∃ nm q N bs sn sub ab col dd k0 k1 k2 k3 k5, K.lookup C = some (excClassObj nm q C N bs (.ref Cn :: PySem.HandSPX.veTail) true sn sub ab col dd k0 k1 k2 k3 k5 "ValueError.__new__"))
    (b : Value) : PySem.W.mroIn K C b = some ((Value.ref C :: Value.ref Cn :: PySem.HandSPX.veTail).contains b) := by
  obtain ⟨_, _, _, _, _, _, _, _, _, _, _, _, _, _, e⟩ := h
  unfold PySem.W.mroIn PySem.W.clsIn
  rw [e]
  rfl
theorem cls_of {bm : List Value} (h : ∃ nm q N bs sn sub ab col dd k0 k1 k2 k3 k5, K.lookup C = some (excClassObj nm q C N bs bm true sn sub ab col dd k0 k1 k2 k3 k5 "ValueError.__new__")) :
    (PySem.W.clsIn K C).isSome = true ∧ PySem.W.hasDictIn K C = true ∧ PySem.W.typeIn K (.ref C) = some (.type "type") := by
  obtain ⟨_, _, _, _, _, _, _, _, _, _, _, _, _, _, e⟩ := h
  refine ⟨?_, ?_, ?_⟩
  · unfold PySem.W.clsIn
    rw [e]
    rfl
  · unfold PySem.W.hasDictIn PySem.W.clsIn
    rw [e]
    rfl
  · show (K.lookup C).map (·.cls) = _
    rw [e]
    rfl
theorem ErrC.sub (c : ErrC K mg nm C Cn) (b : Value) : PySem.W.subIn K (.ref C) b = some ((Value.ref C :: Value.ref Cn :: PySem.HandSPX.veTail).contains b) := mro_of c.xL b
theorem ErrC.oex (c : ErrC K mg nm C Cn) : OexC K C := by
  have h := c.xL
  obtain ⟨nm', q, N, bs, sn, sub, ab, col, dd, k0, k1, k2, k3, k5, e⟩ := h
  refine ⟨⟨nm', q, N, bs, _, sn, sub, ab, col, dd, k0, k1, k2, k3, k5, e, rfl⟩, c.sa, ?_, (cls_of c.xL).2.2, c.kC⟩
  rw [c.sub]
  rfl
theorem ErrC.exc (c : ErrC K mg nm C Cn) (hn : PySem.W.specialIn K (.builtin "object.__class__") "__get__" = some (some (.builtin "getset_descriptor.__get__")))
    (ht : PySem.W.takesIn K (.builtin "object.__class__") = some true) : ExcC K C := by
  refine ⟨c.ga, c.gg, ?_, (cls_of c.xL).2.1, c.hc, hn, ht, ?_⟩
  · rw [c.sub]
    rfl
  · rw [mro_of c.xL]
    rfl
theorem ErrC.kit (c : ErrC K mg nm C Cn) {D : Addr} (h1 : (PySem.W.clsIn K D).isSome = true) (h2 : PySem.W.typeIn K (.ref D) = some (.type "type")) :
    PySem.W.kitOne K (.ref C) (.ref D) = some (decide (D = C ∨ D = Cn)) := by
  unfold PySem.W.kitOne
  by_cases e : C = D
  · subst e
    rw [if_pos (by simp)]
    simp
  · rw [if_neg (by simpa using e)]
    show (if ((PySem.W.clsIn K D).isSome && PySem.W.typeIn K (.ref D) == some (.type "type")) = true then PySem.W.subIn K (.ref C) (.ref D) else none) = _
    rw [if_pos (by rw [h1, h2]; rfl), c.sub]
    congr 1
    simp only [List.contains_cons, PySem.HandSPX.veTail]
    have e2 : (Value.ref D == Value.ref C) = decide (D = C) := by
      by_cases z : D = C
      · simp [z]
      · simp [z]
    have e3 : (Value.ref D == Value.ref Cn) = decide (D = Cn) := by
      by_cases z : D = Cn
      · simp [z]
      · simp [z]
    rw [e2, e3]
    by_cases z : D = C <;> by_cases y : D = Cn <;> simp [z, y]
theorem ErrC.kitVE (c : ErrC K mg nm C Cn) : PySem.W.kitOne K (.ref C) (.type "ValueError") = some true := by
  unfold PySem.W.kitOne
  rw [if_neg (by simp)]
  show (if PySem.W.kitMeta "ValueError" = true then PySem.W.subIn K (.ref C) (.type "ValueError") else none) = _
  rw [if_pos (by decide +kernel), c.sub]
  rfl
end

/-! ### the errors' own __init__ -/
def spI1 (C : Addr) (f : Str) : Sp := fun vs H Q _ => ∃ (a : Addr) (v : V), vs = [.ref a, v] ∧ H a = some (exo a C none) ∧
  ∀ d H', But a H H' → H d = none → H' a = some (exo a C (some d)) → H' d = some (exd d [(f, v)]) → Q .non H'
def spI2 (C : Addr) (f g : Str) : Sp := fun vs H Q _ => ∃ (a : Addr) (v u : V), vs = [.ref a, v, u] ∧ H a = some (exo a C none) ∧
  ∀ d H', But a H H' → H d = none → H' a = some (exo a C (some d)) → H' d = some (exd d [(g, u), (f, v)]) → Q .non H'
theorem spI1_len {C : Addr} {f : Str} {vs : List V} {H : Hp} {Q : VK} {E : XK} (h : spI1 C f vs H Q E) : vs.length = 2 := by
  obtain ⟨a, v, rfl, _⟩ := h
  rfl
theorem spI2_len {C : Addr} {f g : Str} {vs : List V} {H : Hp} {Q : VK} {E : XK} (h : spI2 C f g vs H Q E) : vs.length = 3 := by
  obtain ⟨a, v, u, rfl, _⟩ := h
  rfl
theorem err_laid {H : Hp} {a dx C : Addr} {fs : List (Str × V)} (n : H dx = none) (ne : dx ≠ a) :
    But a H (upd (upd H dx (exd dx fs)) a (exo a C (some dx))) ∧ upd (upd H dx (exd dx fs)) a (exo a C (some dx)) dx = some (exd dx fs) := by
  refine ⟨fun b o nb e => ?_, ?_⟩
  · rw [upd_ne nb, upd_ne (ne_of_none e n)]
    exact e
  · rw [upd_ne ne, upd_same]
theorem init1 {K : PySem.W.Frag} {C : Addr} {f : Str} (o : OexC K C) (nf : PySem.W.findIn K (.ref C) f = some none) {vs : List V} {H : Hp} {Q : VK} {E : XK} {N : List Str}
    (h : spI1 C f vs H Q E) : tOst K f (tVar 0) (tVar 1) { nx := fun _ H' => Q .non H', rt := Q } (L2.start N vs) H := by
  obtain ⟨a, v, rfl, ha, k⟩ := h
  refine ⟨_, rfl, _, rfl, a, C, rfl, o, nf, .inl ⟨ha, fun dx nd ne => ?_⟩⟩
  obtain ⟨b, e⟩ := err_laid (C := C) (fs := [(f, v)]) nd ne
  exact k dx _ b nd upd_same e
theorem init2 {K : PySem.W.Frag} {C : Addr} {f g : Str} (o : OexC K C) (nf : PySem.W.findIn K (.ref C) f = some none) (ng : PySem.W.findIn K (.ref C) g = some none) {vs : List V} {H : Hp} {Q : VK} {E : XK} {N : List Str}
    (h : spI2 C f g vs H Q E) : tSeq (tOst K f (tVar 0) (tVar 1)) (tOst K g (tVar 0) (tVar 2)) { nx := fun _ H' => Q .non H', rt := Q } (L2.start N vs) H := by
  obtain ⟨a, v, u, rfl, ha, k⟩ := h
  refine ⟨_, rfl, _, rfl, a, C, rfl, o, nf, .inl ⟨ha, fun dx nd ne => ?_⟩⟩
  refine ⟨_, rfl, _, rfl, a, C, rfl, o, ng, .inr ⟨dx, [(f, v)], upd_same, by rw [upd_ne ne, upd_same], (by show 1 ≤ 900; decide), ?_⟩⟩
  refine k dx _ (fun b x nb e => ?_) nd ?_ upd_same
  · rw [upd_ne (ne_of_none e nd), upd_ne nb, upd_ne (ne_of_none e nd)]
    exact e
  · rw [upd_ne (Ne.symm ne), upd_same]
section
variable {P : Program} {w : World} {K : PySem.W.Frag} {mg : Str → Option Value} {base : Heap} {ca ia fa : Nat → Addr} {fd fi : Nat → FuncData}
theorem sci_BadNet : FnScope ["self", "value"] ["self", "value"] (defScope (inClass (topS 6) 0)) := ⟨rfl, rfl, rfl, by decide +kernel, rfl, by decide +kernel, by decide +kernel⟩
theorem in_BadNet (T : Txt K mg ca ia fa fd fi) : FnOk P w K mg base CX0 1 (ia 6) (fi 6) ["self", "value"] (spI1 (ca 6) "value") :=
  T.FI_BadNet.ok sci_BadNet (fun _ _ _ _ h => spI1_len h) (fun cdv A outer s H vs Q E hr h => ⟨_, pss_one (ps_ost (pv 0) (pv 1)), init1 T.c_BadNet.oex T.no_BadNet_value h⟩)
theorem sci_NoRouter : FnScope ["self", "value"] ["self", "value"] (defScope (inClass (topS 7) 0)) := ⟨rfl, rfl, rfl, by decide +kernel, rfl, by decide +kernel, by decide +kernel⟩
theorem in_NoRouter (T : Txt K mg ca ia fa fd fi) : FnOk P w K mg base CX0 1 (ia 7) (fi 7) ["self", "value"] (spI1 (ca 7) "value") :=
  T.FI_NoRouter.ok sci_NoRouter (fun _ _ _ _ h => spI1_len h) (fun cdv A outer s H vs Q E hr h => ⟨_, pss_one (ps_ost (pv 0) (pv 1)), init1 T.c_NoRouter.oex T.no_NoRouter_value h⟩)
theorem sci_BadRows : FnScope ["self", "value"] ["self", "value"] (defScope (inClass (topS 8) 0)) := ⟨rfl, rfl, rfl, by decide +kernel, rfl, by decide +kernel, by decide +kernel⟩
theorem in_BadRows (T : Txt K mg ca ia fa fd fi) : FnOk P w K mg base CX0 1 (ia 8) (fi 8) ["self", "value"] (spI1 (ca 8) "value") :=
  T.FI_BadRows.ok sci_BadRows (fun _ _ _ _ h => spI1_len h) (fun cdv A outer s H vs Q E hr h => ⟨_, pss_one (ps_ost (pv 0) (pv 1)), init1 T.c_BadRows.oex T.no_BadRows_value h⟩)
theorem Txt.exm (T : Txt K mg ca ia fa fd fi) {nm : Str} {C : Addr} (c : ErrC K mg nm C (ca 5)) : PySem.W.exmOne K (.ref C) (.ref (ca 5)) = some true := by
  obtain ⟨d1, d2, d3⟩ := cls_of T.cN.xL
  refine PySem.W.exm_ref ?_ d2 d3 ?_
  · obtain ⟨_, _, _, _, _, _, _, _, _, _, _, _, _, _, e⟩ := T.cN.xL
    show PySem.W.mroIn K (ca 5) _ = _
    unfold PySem.W.mroIn PySem.W.clsIn
    rw [e]
    rfl
  · rw [c.sub]
    congr 1
    simp
end
/-- a new error as an argument, the rest behind it -/
theorem mk1 {C : Addr} {f : Str} {te : TE} {σ : L2.St} {H : Hp} {v : V} {Q : VK} (h : ∀ Q' : VK, Q' v H → te σ H Q')
    (k : ∀ a H', Same H H' → ErrAt H' a C [(f, v)] → H a = none → Q (.ref a) H') : tMkV C (spI1 C f) [] (tCons te tNil) σ H Q := by
  refine h _ ⟨(by decide : 1 ≤ 1000), fun a na => ⟨a, v, rfl, upd_same, fun d H' b _ ea ed => ⟨rfl, k a H' ?_ ⟨d, .inl ea, .inl ed⟩ na⟩⟩⟩
  intro c o e2
  exact b c o (ne_of_none e2 na) (same_new na _ _ e2)
theorem mk2 {C : Addr} {f g : Str} {te ue : TE} {σ : L2.St} {H : Hp} {v u : V} {Q : VK} (h : ∀ Q' : VK, Q' v H → te σ H Q') (h2 : ∀ Q' : VK, Q' u H → ue σ H Q')
    (k : ∀ a H', Same H H' → ErrAt H' a C [(g, u), (f, v)] → H a = none → Q (.ref a) H') : tMkV C (spI2 C f g) [] (tCons te (tCons ue tNil)) σ H Q := by
  refine h _ (h2 _ ⟨(by decide : 2 ≤ 1000), fun a na => ⟨a, v, u, rfl, upd_same, fun d H' b _ ea ed => ⟨rfl, k a H' ?_ ⟨d, .inl ea, .inl ed⟩ na⟩⟩⟩)
  intro c o e2
  exact b c o (ne_of_none e2 na) (same_new na _ _ e2)
theorem lst0 {t : TA} {σ : L2.St} {H : Hp} {Q : VK} (h : t σ H fun xs H1 => xs.length ≤ sizeLine ∧ ∀ p, H1 p = none → Q (.ref p) (upd H1 p (.lst xs))) : tLst t σ H Q := h
theorem tup0 {t : TA} {σ : L2.St} {H : Hp} {Q : VK} (h : t σ H fun xs H1 => xs.length ≤ sizeLine ∧ ∀ p, H1 p = none → Q (.ref p) (upd H1 p (.tup xs))) : tTup t σ H Q := h
theorem cons0 {ta : TE} {tr : TA} {σ : L2.St} {H : Hp} {Q : List V → Hp → Prop} (h : ta σ H fun x H1 => tr σ H1 fun xs H2 => Q (x :: xs) H2) : tCons ta tr σ H Q := h
theorem var {i : Nat} {σ : L2.St} {H : Hp} {v : V} (e : σ[i]? = some (some v)) : ∀ Q' : VK, Q' v H → tVar i σ H Q' := fun _ q => ⟨v, e, q⟩
end Toy
set_option Elab.async false
set_option linter.all false
set_option maxRecDepth 100000
set_option maxHeartbeats 4000000
namespace Toy
open PySem L2 Q
/-- is_integer(v) of a whole number -/
def spInt : Sp := fun vs H Q _ => ∃ v : Int, vs = [.int v] ∧ Q (.bl true) H
/-- is_integer_from(v, least) of whole numbers -/
def spIntFrom : Sp := fun vs H Q _ => ∃ v l : Int, vs = [.int v, .int l] ∧ Q (.bl (decide (l ≤ v))) H
def spLength : Sp := fun vs H Q _ => ∃ v : Int, vs = [.int v] ∧ Q (.bl (decide (1 ≤ v))) H
/-- is_name of a text -/
def spName : Sp := fun vs H Q _ => ∃ z : Str, vs = [.str z] ∧ z.length ≤ 1000000 ∧ ∀ b : Bool, (b = true ↔ NameOk z) → ∀ H', Same H H' → Q (.bl b) H'
section
variable {P : Program} {w : World} {K : PySem.W.Frag} {mg : Str → Option Value} {base : Heap} {ca ia fa : Nat → Addr} {fd fi : Nat → FuncData}
theorem ok_integer (T : Txt K mg ca ia fa fd fi) : FnOk P w K mg base CX0 1 (fa 11) (fd 11) ["value"] spInt := by
  refine T.F_is_integer.ok sc_is_integer (fun vs H Q E h => ?_) (fun cdv A outer s H vs Q E hr h => ?_)
  · obtain ⟨v, rfl, _⟩ := h
    rfl
  · obtain ⟨v, rfl, k⟩ := h
    refine ⟨_, (pss_one (ps_ret (pe_and (pe_callB call_isi (by rfl) T.n_isinstance (by decide +kernel) (pa_cons (pv 0) (pa_cons (pe_bltn (v := .ty "int") (by rfl) T.n_int (by decide +kernel) rfl) pa_nil))) (pe_one (pe_not (pe_callB call_isi (by rfl) T.n_isinstance (by decide +kernel) (pa_cons (pv 0) (pa_cons (pe_bltn (v := .ty "bool") (by rfl) T.n_bool (by decide +kernel) rfl) pa_nil)))))))), ?_⟩
    refine ⟨_, rfl, .int v, .ty "int", _, _, true, rfl, .ty _, .base (.int v), rfl, ?_⟩
    refine ⟨_, rfl, ?_⟩
    dsimp only
    rw [if_pos rfl]
    exact ⟨_, rfl, .int v, .ty "bool", _, _, false, rfl, .ty _, .base (.int v), rfl, _, rfl, k⟩
theorem ok_int_from (T : Txt K mg ca ia fa fd fi) : FnOk P w K mg base CX0 2 (fa 12) (fd 12) ["value", "least"] spIntFrom := by
  have G_is_integer := ok_integer (P := P) (w := w) (base := base) T
  refine T.F_is_integer_from.ok sc_is_integer_from (fun vs H Q E h => ?_) (fun cdv A outer s H vs Q E hr h => ?_)
  · obtain ⟨v, l, rfl, _⟩ := h
    rfl
  · obtain ⟨v, l, rfl, k⟩ := h
    refine ⟨_, (pss_one (ps_ret (pe_and (pe_call G_is_integer (hr.mono (by decide)) rfl T.g_is_integer T.k_is_integer T.b_is_integer .nil pass0 (pa_cons (pv 0) pa_nil)) (pe_one (pe_cmpR op_ge (pv 0) (pv 1) (nomark _)))))), ?_⟩
    refine ⟨_, rfl, v, rfl, _, rfl, ?_⟩
    dsimp only
    rw [if_pos rfl]
    exact ⟨_, rfl, _, rfl, _, _, rfl, rfl, k⟩
theorem ok_length (T : Txt K mg ca ia fa fd fi) : FnOk P w K mg base CX0 3 (fa 23) (fd 23) ["value"] spLength := by
  have G_is_integer_from := ok_int_from (P := P) (w := w) (base := base) T
  refine T.F_is_length.ok sc_is_length (fun vs H Q E h => ?_) (fun cdv A outer s H vs Q E hr h => ?_)
  · obtain ⟨v, rfl, _⟩ := h
    rfl
  · obtain ⟨v, rfl, k⟩ := h
    refine ⟨_, (pss_one (ps_ret (pe_call G_is_integer_from (hr.mono (by decide)) rfl T.g_is_integer_from T.k_is_integer_from T.b_is_integer_from .nil pass0 (pa_cons (pv 0) (pa_cons pe_int pa_nil))))), ?_⟩
    exact ⟨_, rfl, v, 1, rfl, k⟩
theorem lowS (c : Nat) : (!decide ((⟨#[c]⟩ : Str).cps.toList < (Str.ofString "a").cps.toList)) = decide (97 ≤ c) ∧ (!decide ((Str.ofString "z").cps.toList < (⟨#[c]⟩ : Str).cps.toList)) = decide (c ≤ 122) := by
  have ea : (Str.ofString "a").cps.toList = [97] := by decide +kernel
  have ez : (Str.ofString "z").cps.toList = [122] := by decide +kernel
  rw [ea, ez]
  constructor
  · rw [Bool.eq_iff_iff]
    simp [List.cons_lt_cons_iff]
  · rw [Bool.eq_iff_iff]
    simp [List.cons_lt_cons_iff]
theorem ok_name (T : Txt K mg ca ia fa fd fi) : FnOk P w K mg base CX0 1 (fa 14) (fd 14) ["value"] spName := by
  refine T.F_is_name.ok sc_is_name (fun vs H Q E h => ?_) (fun cdv A outer s H vs Q E hr h => ?_)
  · obtain ⟨z, rfl, _⟩ := h
    rfl
  · obtain ⟨z, rfl, hz, k⟩ := h
    obtain ⟨tk8, hv_LONGEST_NAME⟩ := T.v_LONGEST_NAME
    refine ⟨_, (pss_cons (ps_if (PW.pt (pw_or (pt_not (pt_val (pe_callB call_isi (by rfl) T.n_isinstance (by decide +kernel) (pa_cons (pv 0) (pa_cons (pe_bltn (v := .ty "str") (by rfl) T.n_str (by decide +kernel) rfl) pa_nil))))) (pw_or1 (pt_not (pt_chain op_le op_le pe_int (pe_callB call_len (by rfl) T.n_len (by decide +kernel) (pa_cons (pv 0) pa_nil)) (pe_glob rfl hv_LONGEST_NAME (v := .int 8) ⟨_, rfl⟩)))))) (pss_one (ps_ret pe_bl)) pss_nil)
      (pss_one (ps_ret (pe_callB (cr_all rfl) (by rfl) T.n_all (by decide +kernel) (pa_cons (pe_lc (own := [("letter", 1)]) (g := (gName 1)) (tt := tYes) rfl sc_is_name.nd (pi_str (pv 0)) (blkOk_by (own := [("letter", 1)]) (N := N_is_name) (sc := defScope s_is_name) (by decide +kernel)) (fun _ _ _ _ _ => (pg_name (i := 1) sc_is_name.nd rfl (Or.inl rfl))) (fun _ _ _ _ _ => pts_nil) (fun _ _ _ _ _ => by exact (pe_chain op_le_str op_le_str pe_str (pv 1) pe_str))) pa_nil))))), ?_⟩
    have lenV : LenV K (.str z) H z.length := ⟨by rw [sizeLine_eq]; omega, rfl⟩
    have stop : ∀ {u : TS} {D : Ends} {σ : L2.St}, D.rt = Q → ¬ NameOk z → tRet (tC (.bl false)) D σ H := fun {u D σ} e n => by
      show D.rt (.bl false) H
      rw [e]
      exact k false ⟨fun q => (by cases q), fun q => absurd q n⟩ H (fun _ _ e => e)
    refine ⟨_, rfl, .str z, .ty "str", _, _, true, rfl, .ty _, .base (.str z), rfl, _, rfl, ?_⟩
    refine ite2 (fun c => (by cases c)) fun _ => ?_
    refine ⟨_, rfl, _, _, rfl, lenV, _, _, rfl, rfl, _, rfl, ite2 (fun c1 => ?_) (fun c1 => ?_)⟩
    · have l1 : (1 : Int) ≤ (z.length : Nat) := of_decide_eq_true c1
      refine ⟨_, _, rfl, rfl, _, rfl, ite2 (fun c2 => ?_) (fun c2 => ?_)⟩
      · have l2 : ¬ ((z.length : Nat) : Int) ≤ 8 := fun q => by
          rw [decide_eq_true q] at c2
          cases c2
        exact stop (u := tNext) rfl fun q => l2 (by have := q.2.1; omega)
      · have l2 : ((z.length : Nat) : Int) ≤ 8 := Classical.byContradiction fun q => c2 (by rw [decide_eq_false q]; rfl)
        refine nxt ?_
        refine ⟨_, rfl, z, rfl, fun D hD => ?_⟩
        refine lc_it walk_str (fun i H' => ∃ bs : List Bool, bs.length = i ∧ H' D = some (.lst (bs.map V.bl)) ∧ Same H H' ∧ (bs.all id = true ↔ ∀ c ∈ z.cps.toList.take i, 97 ≤ c ∧ c ≤ 122))
          ⟨[], rfl, upd_same, same_new hD, by simp⟩ (fun _ _ _ _ => trivial) ?_ ?_
        · rintro i x H1 H2 hi ⟨bs, lb, hb, s1, iff1⟩ ⟨rfl, c, hc, rfl⟩
          refine ⟨rfl, ?_⟩
          dsimp only [tYes]
          rw [if_pos rfl]
          have hi2 : i < z.length := hi
          have fin : ∀ b : Bool, (b = true ↔ 97 ≤ c ∧ c ≤ 122) → ∃ acc, H2 D = some (.lst acc) ∧ acc.length < sizeLine ∧ ∃ bs : List Bool, bs.length = i + 1 ∧ upd H2 D (.lst (acc ++ [.bl b])) D = some (.lst (bs.map V.bl)) ∧ Same H (upd H2 D (.lst (acc ++ [.bl b]))) ∧
              (bs.all id = true ↔ ∀ c ∈ z.cps.toList.take (i + 1), 97 ≤ c ∧ c ≤ 122) := fun b hb2 => by
            refine ⟨_, hb, ?_, bs ++ [b], by simp [lb], ?_, fun d u e => ?_, ?_⟩
            · rw [List.length_map, sizeLine_eq]
              omega
            · rw [upd_same, List.map_append]
              rfl
            · rw [upd_ne (ne_of_none e hD)]
              exact s1 _ _ e
            · have hc2 : z.cps.toList[i]? = some c := by rw [Array.getElem?_toList]; exact hc
              rw [List.take_add_one, hc2, List.all_append, Bool.and_eq_true, iff1]
              constructor
              · rintro ⟨q1, q2⟩ d hd
                rcases List.mem_append.mp hd with q | q
                · exact q1 d q
                · have e : d = c := by simpa using q
                  rw [e]
                  exact hb2.1 (by simpa using q2)
              · intro q
                refine ⟨fun d hd => q d (List.mem_append_left _ hd), ?_⟩
                have e := hb2.2 (q c (List.mem_append_right _ (by simp)))
                simp [e]
          obtain ⟨low1, low2⟩ := lowS c
          refine ⟨_, rfl, _, _, rfl, rfl, _, rfl, ite2 (fun a1 => ?_) (fun a1 => ?_)⟩
          · rw [low1] at a1
            refine ⟨_, _, rfl, rfl, ?_⟩
            rw [low2]
            exact fin _ ⟨fun q => ⟨of_decide_eq_true a1, of_decide_eq_true q⟩, fun q => decide_eq_true q.2⟩
          · rw [low1] at a1
            exact fin _ ⟨fun q => (by cases q), fun q => absurd (decide_eq_true q.1) a1⟩
        · rintro H1 ⟨bs, lb, hb, s1, iff1⟩
          have e : z.cps.toList.take z.cps.size = z.cps.toList := List.take_of_length_le (Nat.le_of_eq (Array.length_toList ..))
          rw [e] at iff1
          exact ⟨D, bs, rfl, SqL.of hb, k _ ⟨fun q => ⟨by omega, by omega, iff1.1 q⟩, fun q => iff1.2 q.2.2⟩ H1 s1⟩
    · have l1 : ¬ (1 : Int) ≤ (z.length : Nat) := fun q => c1 (decide_eq_true q)
      refine ⟨_, rfl, ite2 (fun _ => ?_) (fun c2 => absurd rfl c2)⟩
      exact stop (u := tNext) rfl fun q => l1 (by have := q.1; omega)
end
end Toy
set_option Elab.async false
set_option linter.all false
set_option maxRecDepth 100000
set_option maxHeartbeats 4000000
namespace Toy
open PySem L2 Q RZ
theorem walk_zipT {K : PySem.W.Frag} {a b : Addr} {xs ys : List V} {n : Nat} (hn : n = min xs.length ys.length) :
    Walk (ItzT K a b) n (fun H => SqT K H a xs ∧ SqT K H b ys) (YPair (fun i => xs[i]?) (fun i => ys[i]?)) where
  goes := fun i H hi q => by
    have l1 : i < xs.length := by rw [hn] at hi; exact Nat.lt_of_lt_of_le hi (Nat.min_le_left _ _)
    have l2 : i < ys.length := by rw [hn] at hi; exact Nat.lt_of_lt_of_le hi (Nat.min_le_right _ _)
    exact ⟨xs, ys, _, _, q.1, q.2, List.getElem?_eq_getElem l1, List.getElem?_eq_getElem l2⟩
  stops := fun H q => ⟨xs, ys, q.1, q.2, by rw [hn]; omega⟩
  yields := fun i H v H' _ q y => by
    obtain ⟨T, u, z, r1, r2, r3, r4, r5⟩ := y
    exact ⟨T, u, z, r1, r2, r3, r4 _ q.1, r5 _ q.2⟩
/-- a slice of a tuple, new or the tuple itself -/
theorem slT {K : PySem.W.Frag} {H : Hp} {a : Addr} {xs : List V} {lo hi : Option Int} {Q : VK} (h : H a = some (.tup xs))
    (q : ∀ t H', Same H H' → H' t = some (.tup (cutV xs lo hi)) → Q (.ref t) H') : rSlA K (.ref a) lo hi H Q := by
  refine ⟨a, xs, rfl, SqT.of h, fun z => q a H (Same.refl H) ?_, fun z p np => q p _ (same_new np) upd_same⟩
  unfold cutV
  rw [z.1, z.2, List.drop_zero, Nat.sub_zero, List.take_length]
  exact h
theorem all_rep : ∀ n : Nat, (List.replicate n true).all id = true
  | 0 => rfl
  | n + 1 => by rw [List.replicate_succ, List.all_cons, all_rep n]; rfl
theorem rep_succ {α : Type} (n : Nat) (x : α) : List.replicate n x ++ [x] = List.replicate (n + 1) x := by
  rw [List.replicate_succ']
theorem cut_tail (xs : List V) : cutV xs (some 1) none = xs.drop 1 := cut_drop xs 1
theorem pair_at {α : Type} {R : α → α → Prop} {l : List α} (pw : l.Pairwise R) {i : Nat} {x y : α} (hx : l[i]? = some x) (hy : (l.drop 1)[i]? = some y) : R x y := by
  rw [List.getElem?_drop] at hy
  obtain ⟨h1, rfl⟩ := List.getElem?_eq_some_iff.mp hx
  obtain ⟨h2, rfl⟩ := List.getElem?_eq_some_iff.mp hy
  exact List.pairwise_iff_getElem.mp pw i (1 + i) h1 h2 (by omega)
theorem at_map {α β : Type} {f : α → β} {l : List α} {i : Nat} {v : β} (h : (l.map f)[i]? = some v) : ∃ x, l[i]? = some x ∧ v = f x := by
  rw [List.getElem?_map] at h
  obtain ⟨x, h1, h2⟩ := Option.map_eq_some_iff.mp h
  exact ⟨x, h1, h2.symm⟩
theorem tcons {te : TE} {ta : TA} {σ : L2.St} {H : Hp} {Q : List V → Hp → Prop} (h : te σ H fun x H1 => ta σ H1 fun xs H2 => Q (x :: xs) H2) : tCons te ta σ H Q := h
theorem roomU1 {k : Nat} {A : Around} (h : Room k A) : A.units + 1 < cLine := by
  have q := h.units
  omega
abbrev rLess (K : PySem.W.Frag) : R2 := fun x y H Q => (∃ i j, x = .str i ∧ y = .str j ∧ Q (.bl (decide (i.cps.toList < j.cps.toList))) H) ∨ rLtK K x y H Q
/-- is_rising of texts that rise, or of tuples that do -/
def spRising (K : PySem.W.Frag) : Sp := fun vs H Q _ => ∃ a : Addr, vs = [.ref a] ∧ (∀ H', Same H H' → Q (.bl true) H') ∧
  ((∃ zs : List Str, H a = some (.tup (zs.map V.str)) ∧ zs.Pairwise tLt ∧ zs.length ≤ 1000) ∨
   (∃ (ks : List (Addr × List Key)) (sh : List Bool), SqL K H a (ks.map fun p => V.ref p.1) ∧ (∀ p ∈ ks, SqT K H p.1 (p.2.map kV) ∧ shape p.2 = sh) ∧ ks.Pairwise (fun p q => ksLt p.2 q.2 = true) ∧ ks.length ≤ 1000))
section
variable {P : Program} {w : World} {K : PySem.W.Frag} {mg : Str → Option Value} {base : Heap} {ca ia fa : Nat → Addr} {fd fi : Nat → FuncData}
theorem ok_rising (T : Txt K mg ca ia fa fd fi) : FnOk P w K mg base CX0 1 (fa 15) (fd 15) ["values"] (spRising K) := by
  refine T.F_is_rising.ok sc_is_rising (fun vs H Q E h => ?_) (fun cdv A outer s H vs Q E hr h => ?_)
  · obtain ⟨a, rfl, _⟩ := h
    rfl
  · obtain ⟨a, rfl, k, h⟩ := h
    refine ⟨_, (pss_one (ps_ret (pe_callB (cr_all rfl) (by rfl) T.n_all (by decide +kernel) (pa_cons (pe_lc (own := [("low", 1), ("high", 2)]) (g := (gTup K 2 (gCons (gName 1) (gCons (gName 2) gNil)))) (tt := tYes) (te := (tOp (rLess K) (tVar 1) (tVar 2))) rfl sc_is_rising.nd (pi_zipA (by rfl) T.n_zip (pa_cons (pv 0) (pa_cons (pe_slice (SlR.or sl_list sl_tupA) (pv 0) (po_some pe_int) po_none) pa_nil))) (blkOk_by (own := [("low", 1), ("high", 2)]) (N := N_is_rising) (sc := defScope s_is_rising) (by decide +kernel)) (fun _ _ _ _ _ => (pg_tup rfl (pgs_cons (pg_name (i := 1) sc_is_rising.nd rfl (Or.inl rfl)) (pgs_cons (pg_name (i := 2) sc_is_rising.nd rfl (Or.inl rfl)) pgs_nil)))) (fun _ _ _ _ _ => pts_nil) (fun _ _ _ _ _ => by exact (pe_cmpR (OpR.or op_lt_str (op_ltK (roomU1 hr))) (pv 1) (pv 2) (nomark _)))) pa_nil)))), ?_⟩
    rcases h with ⟨zs, hz, pw, l1⟩ | ⟨ks, sh, hz, hk, pw, l1⟩
    · refine ⟨_, rfl, _, rfl, _, rfl, .inr (slT hz fun t H1 s1 ht => ?_)⟩
      rw [cut_tail] at ht
      refine ⟨a, t, _, _, rfl, .inr ⟨SqT.of (s1 _ _ hz), SqT.of ht, fun D hD => ?_⟩⟩
      refine lc_it (walk_zipT rfl) (fun i H' => H' D = some (.lst (List.replicate i (V.bl true))) ∧ Same H1 H') ⟨upd_same, same_new hD⟩ (fun i H' _ q => ⟨SqT.of (q.2 _ _ (s1 _ _ hz)), SqT.of (q.2 _ _ ht)⟩) ?_ ?_
      · rintro i x H2 H3 hi ⟨h2, s2⟩ ⟨T, u, v, rfl, nT, rfl, e1, e2⟩
        obtain ⟨y, hy, rfl⟩ := at_map e1
        rw [← List.map_drop] at e2
        obtain ⟨z, hz2, rfl⟩ := at_map e2
        have lt : tLt y z := pair_at pw hy hz2
        have hi2 : i < 1000 := by rw [List.length_map] at hi; omega
        refine ⟨T, _, rfl, SqT.of upd_same, rfl, _, _, rfl, _, _, rfl, rfl, rfl, ?_⟩
        dsimp only [tYes]
        rw [if_pos rfl]
        refine ⟨_, rfl, _, rfl, .inl ⟨_, _, rfl, rfl, _, same_new nT _ _ h2, ?_, ?_, ?_⟩⟩
        · rw [List.length_replicate, sizeLine_eq]
          omega
        · rw [upd_same, decide_eq_true lt, rep_succ]
        · intro b o e
          rw [upd_ne (ne_of_none e hD)]
          exact same_new nT _ _ (s2 _ _ e)
      · rintro H2 ⟨h2, s2⟩
        refine ⟨D, List.replicate _ true, rfl, SqL.of (by rw [List.map_replicate]; exact h2), ?_⟩
        rw [all_rep]
        exact k H2 (s1.trans s2)
    · refine ⟨_, rfl, _, rfl, _, rfl, .inl ⟨a, _, rfl, hz, fun t nt => ?_⟩⟩
      rw [cut_tail]
      have s1 : Same H (upd H t (.lst ((ks.map fun p => V.ref p.1).drop 1))) := same_new nt
      refine ⟨a, t, _, _, rfl, .inl ⟨s1.seq hz, SqL.of upd_same, fun D hD => ?_⟩⟩
      have ht : upd H t (.lst ((ks.map fun p => V.ref p.1).drop 1)) t = some (.lst ((ks.map fun p => V.ref p.1).drop 1)) := upd_same
      generalize upd H t (.lst ((ks.map fun p => V.ref p.1).drop 1)) = H1 at s1 ht hD ⊢
      refine lc_it (walk_zip rfl) (fun i H' => H' D = some (.lst (List.replicate i (V.bl true))) ∧ Same H1 H') ⟨upd_same, same_new hD⟩ (fun i H' _ q => ⟨(s1.trans q.2).seq hz, SqL.of (q.2 _ _ ht)⟩) ?_ ?_
      · rintro i x H2 H3 hi ⟨h2, s2⟩ ⟨T, u, v, rfl, nT, rfl, e1, e2⟩
        obtain ⟨y, hy, rfl⟩ := at_map e1
        rw [← List.map_drop] at e2
        obtain ⟨z, hz2, rfl⟩ := at_map e2
        have lt := pair_at pw hy hz2
        have iy := List.mem_of_getElem? hy
        have iz : z ∈ ks := List.mem_of_mem_drop (List.mem_of_getElem? hz2)
        have hi2 : i < 1000 := by rw [List.length_map] at hi; omega
        have s3 := (s1.trans s2).trans (same_new (o := .tup [V.ref y.1, V.ref z.1]) nT)
        refine ⟨T, _, rfl, SqT.of upd_same, rfl, _, _, rfl, _, _, rfl, rfl, rfl, ?_⟩
        dsimp only [tYes]
        rw [if_pos rfl]
        refine ⟨_, rfl, _, rfl, .inr ⟨_, _, y.2, z.2, rfl, rfl, SqT.same s3 (hk y iy).1, SqT.same s3 (hk z iz).1, (hk y iy).2.trans (hk z iz).2.symm, _, same_new nT _ _ h2, ?_, ?_, ?_⟩⟩
        · rw [List.length_replicate, sizeLine_eq]
          omega
        · rw [upd_same, lt, rep_succ]
        · intro b o e
          rw [upd_ne (ne_of_none e hD)]
          exact same_new nT _ _ (s2 _ _ e)
      · rintro H2 ⟨h2, s2⟩
        refine ⟨D, List.replicate _ true, rfl, SqL.of (by rw [List.map_replicate]; exact h2), ?_⟩
        rw [all_rep]
        exact k H2 (s1.trans s2)
end
end Toy
set_option Elab.async false
set_option linter.all false
set_option maxRecDepth 100000
set_option maxHeartbeats 4000000
namespace Toy
open PySem L2 Q RZ
/-- routers as a net takes them -/
abbrev RtOk (zs : List Str) : Prop := 2 ≤ zs.length ∧ zs.length ≤ 8 ∧ ∀ z ∈ zs, NameOk z
def spRouters : Sp := fun vs H Q _ => ∃ (r : Addr) (zs : List Str), vs = [.ref r] ∧ H r = some (.tup (zs.map V.str)) ∧ (∀ z ∈ zs, z.length ≤ 1000000) ∧ zs.length ≤ 1000 ∧ zs.Pairwise tLt ∧
  ∀ b : Bool, (b = true ↔ RtOk zs) → ∀ H', Same H H' → Q (.bl b) H'
/-- a link of routers -/
def LkOk (zs : List Str) (k : List Key) : Prop := ∃ (a b : Str) (x y : Int), k = [.inr a, .inr b, .inl x, .inl y] ∧ a ∈ zs ∧ b ∈ zs ∧ tLt a b ∧ 1 ≤ x ∧ 1 ≤ y
abbrev pLt (k l : List Key) : Prop := ksLt (k.take 2) (l.take 2) = true
def spLink : Sp := fun vs H Q _ => ∃ (t r : Addr) (zs : List Str) (k : List Key), vs = [.ref t, .ref r] ∧ H t = some (.tup (k.map kV)) ∧ H r = some (.tup (zs.map V.str)) ∧ LkOk zs k ∧
  ∀ H', Same H H' → Q (.bl true) H'
/-- links of routers, by their pairs -/
structure Lks (H : Hp) (zs : List Str) (l : Addr) (ls : List (Addr × List Key)) : Prop where
  at_ : H l = some (.tup (ls.map fun q => V.ref q.1))
  el : ∀ q ∈ ls, H q.1 = some (.tup (q.2.map kV)) ∧ LkOk zs q.2
  up : ls.Pairwise fun p q => pLt p.2 q.2
  few : ls.length ≤ 100
theorem Lks.same {H H' : Hp} {zs : List Str} {l : Addr} {ls : List (Addr × List Key)} (h : Lks H zs l ls) (s : Same H H') : Lks H' zs l ls :=
  ⟨s _ _ h.at_, fun q hq => ⟨s _ _ (h.el q hq).1, (h.el q hq).2⟩, h.up, h.few⟩
def spLinks : Sp := fun vs H Q _ => ∃ (l r : Addr) (zs : List Str) (ls : List (Addr × List Key)), vs = [.ref l, .ref r] ∧ H r = some (.tup (zs.map V.str)) ∧ Lks H zs l ls ∧
  ∀ b : Bool, (b = true ↔ ls.length ≤ 16) → ∀ H', Same H H' → Q (.bl b) H'
theorem flat_strs : ∀ zs : List Str, (zs.map V.str).all flatV = true
  | [] => rfl
  | z :: zs => by rw [List.map_cons, List.all_cons, flat_strs zs]; rfl
theorem in_strs {a : Str} : ∀ {zs : List Str}, inV (V.str a) (zs.map V.str) = true ↔ a ∈ zs
  | [] => by simp [inV]
  | z :: zs => by
    have ih := in_strs (a := a) (zs := zs)
    unfold inV at ih ⊢
    rw [List.map_cons, List.any_cons, Bool.or_eq_true, ih, List.mem_cons]
    refine or_congr_left ?_
    show (z == a) = true ↔ a = z
    rw [beq_iff_eq]
    exact eq_comm
theorem iteB {c : Bool} {A B : Prop} (h : c = true) (a : A) : if c = true then A else B := by
  rw [if_pos h]
  exact a
section
variable {P : Program} {w : World} {K : PySem.W.Frag} {mg : Str → Option Value} {base : Heap} {ca ia fa : Nat → Addr} {fd fi : Nat → FuncData}
theorem ok_routers (T : Txt K mg ca ia fa fd fi) : FnOk P w K mg base CX0 2 (fa 24) (fd 24) ["value"] spRouters := by
  have G_is_name := ok_name (P := P) (w := w) (base := base) T
  have G_is_rising := ok_rising (P := P) (w := w) (base := base) T
  obtain ⟨t1, hv_FEWEST_ROUTERS⟩ := T.v_FEWEST_ROUTERS
  obtain ⟨t2, hv_MOST_ROUTERS⟩ := T.v_MOST_ROUTERS
  refine T.F_are_routers.ok sc_are_routers (fun vs H Q E h => ?_) (fun cdv A outer s H vs Q E hr h => ?_)
  · obtain ⟨r, zs, rfl, _⟩ := h
    rfl
  · obtain ⟨r, zs, rfl, hz, big, few, pw, k⟩ := h
    refine ⟨_, (pss_cons (ps_if (PW.pt (pw_or (pt_not (pt_val (pe_callB call_isi (by rfl) T.n_isinstance (by decide +kernel) (pa_cons (pv 0) (pa_cons (pe_bltn (v := .ty "tuple") (by rfl) T.n_tuple (by decide +kernel) rfl) pa_nil))))) (pw_or1 (pt_not (pt_chain op_le op_le (pe_glob rfl hv_FEWEST_ROUTERS (v := .int 2) ⟨_, rfl⟩) (pe_callB call_len (by rfl) T.n_len (by decide +kernel) (pa_cons (pv 0) pa_nil)) (pe_glob rfl hv_MOST_ROUTERS (v := .int 8) ⟨_, rfl⟩)))))) (pss_one (ps_ret pe_bl)) pss_nil)
      (pss_one (ps_ret (pe_and (pe_callB (cr_all rfl) (by rfl) T.n_all (by decide +kernel) (pa_cons (pe_lc (own := [("name", 1)]) (g := (gName 1)) (tt := tYes) rfl sc_are_routers.nd (pi_tup (pv 0)) (blkOk_by (own := [("name", 1)]) (N := N_are_routers) (sc := defScope s_are_routers) (by decide +kernel)) (fun _ _ _ _ _ => (pg_name (i := 1) sc_are_routers.nd rfl (Or.inl rfl))) (fun _ _ _ _ _ => pts_nil) (fun _ _ _ _ _ => by exact (pe_call G_is_name (hr.mono (by decide)) rfl T.g_is_name T.k_is_name T.b_is_name .nil pass0 (pa_cons (pv 1) pa_nil)))) pa_nil)) (pe_one (pe_call G_is_rising (hr.mono (by decide)) rfl T.g_is_rising T.k_is_rising T.b_is_rising .nil pass0 (pa_cons (pv 0) pa_nil))))))), ?_⟩
    have lz : (zs.map V.str).length = zs.length := List.length_map ..
    have no : ¬ RtOk zs → Q (.bl false) H := fun n => k false ⟨fun q => (by cases q), fun q => absurd q n⟩ H (Same.refl H)
    refine ⟨_, rfl, .ref r, .ty "tuple", _, _, true, rfl, .ty _, .base (.tup hz), rfl, _, rfl, ?_⟩
    refine ite2 (fun c => (by cases c)) fun _ => ?_
    refine ⟨_, rfl, _, _, rfl, .inr ⟨_, SqT.of hz, rfl⟩, _, _, rfl, rfl, _, rfl, ite2 (fun c1 => ?_) (fun c1 => ?_)⟩
    · have l1 : (2 : Int) ≤ ((zs.map V.str).length : Nat) := of_decide_eq_true c1
      refine ⟨_, _, rfl, rfl, _, rfl, ite2 (fun c2 => ?_) (fun c2 => ?_)⟩
      · have l2 : ¬ (((zs.map V.str).length : Nat) : Int) ≤ 8 := fun q => by
          rw [decide_eq_true q] at c2
          cases c2
        exact no fun q => l2 (by rw [lz]; have := q.2.1; omega)
      · have l2 : (((zs.map V.str).length : Nat) : Int) ≤ 8 := Classical.byContradiction fun q => c2 (by rw [decide_eq_false q]; rfl)
        rw [lz] at l1 l2
        refine nxt ?_
        refine ⟨_, rfl, r, rfl, ⟨_, SqT.of hz⟩, fun D hD => ?_⟩
        refine lc_it (walk_tup (xs := zs.map V.str)) (fun i H' => ∃ bs : List Bool, bs.length = i ∧ H' D = some (.lst (bs.map V.bl)) ∧ Same H H' ∧ (bs.all id = true ↔ ∀ z ∈ zs.take i, NameOk z))
          ⟨[], rfl, upd_same, same_new hD, by simp⟩ (fun i H' _ q => ?_) ?_ ?_
        · obtain ⟨_, _, _, q, _⟩ := q
          exact SqT.of (q _ _ hz)
        · rintro i x H1 H2 hi ⟨bs, lb, hb, s1, iff1⟩ ⟨rfl, hx⟩
          obtain ⟨z, hz2, rfl⟩ := at_map hx
          refine ⟨rfl, ?_⟩
          dsimp only [tYes]
          rw [if_pos rfl]
          have mz := List.mem_of_getElem? hz2
          refine ⟨_, rfl, z, rfl, big z mz, fun b hb2 H3 s3 => ⟨_, s3 _ _ hb, ?_, bs ++ [b], by simp [lb], ?_, fun d u e => ?_, ?_⟩⟩
          · rw [List.length_map, sizeLine_eq]
            rw [lz] at hi
            omega
          · rw [upd_same, List.map_append]
            rfl
          · rw [upd_ne (ne_of_none e hD)]
            exact s3 _ _ (s1 _ _ e)
          · rw [List.take_add_one, hz2, List.all_append, Bool.and_eq_true, iff1]
            constructor
            · rintro ⟨q1, q2⟩ d hd
              rcases List.mem_append.mp hd with q | q
              · exact q1 d q
              · have e : d = z := by simpa using q
                rw [e]
                exact hb2.1 (by simpa using q2)
            · intro q
              refine ⟨fun d hd => q d (List.mem_append_left _ hd), ?_⟩
              have e := hb2.2 (q z (List.mem_append_right _ (by simp)))
              simp [e]
        · rintro H1 ⟨bs, lb, hb, s1, iff1⟩
          rw [lz, List.take_length] at iff1
          refine ⟨D, bs, rfl, SqL.of hb, _, rfl, ite2 (fun c => ?_) fun c => ?_⟩
          · refine ⟨_, rfl, r, rfl, fun H2 s2 => ?_, .inl ⟨zs, s1 _ _ hz, pw, few⟩⟩
            exact k true ⟨fun _ => ⟨by omega, by omega, iff1.1 c⟩, fun _ => rfl⟩ H2 (s1.trans s2)
          · exact k false ⟨fun q => (by cases q), fun q => absurd (iff1.2 q.2.2) c⟩ H1 s1
    · have l1 : ¬ (2 : Int) ≤ ((zs.map V.str).length : Nat) := fun q => c1 (decide_eq_true q)
      refine ⟨_, rfl, ite2 (fun _ => ?_) (fun c2 => absurd rfl c2)⟩
      exact no fun q => l1 (by rw [lz]; have := q.1; omega)
theorem ok_is_link (T : Txt K mg ca ia fa fd fi) : FnOk P w K mg base CX0 4 (fa 26) (fd 26) ["value", "routers"] spLink := by
  have G_is_length := ok_length (P := P) (w := w) (base := base) T
  refine T.F_is_link.ok sc_is_link (fun vs H Q E h => ?_) (fun cdv A outer s H vs Q E hr h => ?_)
  · obtain ⟨t, r, zs, k, rfl, _⟩ := h
    rfl
  · obtain ⟨t, r, zs, k, rfl, ht, hz, ⟨a, b, x, y, rfl, ha, hb, ab, hx, hy⟩, q⟩ := h
    refine ⟨_, (pss_cons (ps_if (PW.pt (pw_or (pt_not (pt_val (pe_callB call_isi (by rfl) T.n_isinstance (by decide +kernel) (pa_cons (pv 0) (pa_cons (pe_bltn (v := .ty "tuple") (by rfl) T.n_tuple (by decide +kernel) rfl) pa_nil))))) (pw_or1 (pt_cmpR op_ne (pe_callB call_len (by rfl) T.n_len (by decide +kernel) (pa_cons (pv 0) pa_nil)) pe_int (nomark _))))) (pss_one (ps_ret pe_bl)) pss_nil)
      (pss_cons (ps_asg (pv 0) (pg_tup rfl (pgs_cons (pg_name (i := 2) sc_is_link.nd rfl (Or.inl rfl)) (pgs_cons (pg_name (i := 3) sc_is_link.nd rfl (Or.inl rfl)) (pgs_cons (pg_name (i := 4) sc_is_link.nd rfl (Or.inl rfl)) (pgs_cons (pg_name (i := 5) sc_is_link.nd rfl (Or.inl rfl)) pgs_nil))))))
      (pss_one (ps_ret (pe_and (pe_cmpR op_in_seq (pv 2) (pv 1) rfl) (pe_and (pe_cmpR op_in_seq (pv 3) (pv 1) rfl) (pe_and (pe_cmpR op_lt_str (pv 2) (pv 3) (nomark _)) (pe_and (pe_call G_is_length (hr.mono (by decide)) rfl T.g_is_length T.k_is_length T.b_is_length .nil pass0 (pa_cons (pv 4) pa_nil)) (pe_one (pe_call G_is_length (hr.mono (by decide)) rfl T.g_is_length T.k_is_length T.b_is_length .nil pass0 (pa_cons (pv 5) pa_nil))))))))))), ?_⟩
    refine ⟨_, rfl, .ref t, .ty "tuple", _, _, true, rfl, .ty _, .base (.tup ht), rfl, _, rfl, ?_⟩
    refine ite2 (fun c => (by cases c)) fun _ => ?_
    refine ⟨_, rfl, _, _, rfl, .inr ⟨_, SqT.of ht, rfl⟩, rfl, _, rfl, ite2 (fun c => absurd (show (!decide (V.int 4 = V.int 4)) = true from c) (by decide)) fun _ => ?_⟩
    refine nxt ?_
    refine ⟨_, rfl, t, _, rfl, SqT.of ht, rfl, _, _, rfl, _, _, rfl, _, _, rfl, _, _, rfl, rfl, ?_⟩
    refine nxt ?_
    have flat : (zs.map V.str).all flatV = true := flat_strs zs
    refine ⟨_, rfl, _, rfl, r, _, rfl, .inr (SqT.of hz), rfl, flat, _, rfl, ?_⟩
    refine iteB (by exact in_strs.mpr ha) ⟨_, rfl, _, rfl, r, _, rfl, .inr (SqT.of hz), rfl, flat, _, rfl, ?_⟩
    refine iteB (by exact in_strs.mpr hb) ⟨_, rfl, _, rfl, _, _, rfl, rfl, _, rfl, ?_⟩
    rw [if_pos (decide_eq_true ab)]
    refine ⟨_, rfl, x, rfl, _, rfl, ?_⟩
    rw [if_pos (decide_eq_true hx)]
    refine ⟨_, rfl, y, rfl, ?_⟩
    rw [decide_eq_true hy]
    exact q H (Same.refl H)
theorem ok_are_links (T : Txt K mg ca ia fa fd fi) : FnOk P w K mg base CX0 5 (fa 25) (fd 25) ["value", "routers"] spLinks := by
  have G_is_link := ok_is_link (P := P) (w := w) (base := base) T
  have G_is_rising := ok_rising (P := P) (w := w) (base := base) T
  obtain ⟨t1, hv_MOST_LINKS⟩ := T.v_MOST_LINKS
  refine T.F_are_links.ok sc_are_links (fun vs H Q E h => ?_) (fun cdv A outer s H vs Q E hr h => ?_)
  · obtain ⟨l, r, zs, ls, rfl, _⟩ := h
    rfl
  · obtain ⟨l, r, zs, ls, rfl, hz, hl, k⟩ := h
    refine ⟨_, (pss_cons (ps_if (PW.pt (pw_or (pt_not (pt_val (pe_callB call_isi (by rfl) T.n_isinstance (by decide +kernel) (pa_cons (pv 0) (pa_cons (pe_bltn (v := .ty "tuple") (by rfl) T.n_tuple (by decide +kernel) rfl) pa_nil))))) (pw_or1 (pt_cmpR op_gt (pe_callB call_len (by rfl) T.n_len (by decide +kernel) (pa_cons (pv 0) pa_nil)) (pe_glob rfl hv_MOST_LINKS (v := .int 16) ⟨_, rfl⟩) (nomark _))))) (pss_one (ps_ret pe_bl)) pss_nil)
      (pss_one (ps_ret (pe_and (pe_callB (cr_all rfl) (by rfl) T.n_all (by decide +kernel) (pa_cons (pe_lc (own := [("link", 2)]) (g := (gName 2)) (tt := tYes) rfl sc_are_links.nd (pi_tup (pv 0)) (blkOk_by (own := [("link", 2)]) (N := N_are_links) (sc := defScope s_are_links) (by decide +kernel)) (fun _ _ _ _ _ => (pg_name (i := 2) sc_are_links.nd rfl (Or.inl rfl))) (fun _ _ _ _ _ => pts_nil) (fun _ _ _ _ _ => by exact (pe_call G_is_link (hr.mono (by decide)) rfl T.g_is_link T.k_is_link T.b_is_link .nil pass0 (pa_cons (pv 2) (pa_cons (pv 1) pa_nil))))) pa_nil)) (pe_one (pe_call G_is_rising (hr.mono (by decide)) rfl T.g_is_rising T.k_is_rising T.b_is_rising .nil pass0 (pa_cons (pe_lc (own := [("link", 2)]) (g := (gName 2)) (tt := tYes) (te := (tSl (rSlA K) (tVar 2) tNoPart (tPart (tC (.int 2))))) rfl sc_are_links.nd (pi_tup (pv 0)) (blkOk_by (own := [("link", 2)]) (N := N_are_links) (sc := defScope s_are_links) (by decide +kernel)) (fun _ _ _ _ _ => (pg_name (i := 2) sc_are_links.nd rfl (Or.inl rfl))) (fun _ _ _ _ _ => pts_nil) (fun _ _ _ _ _ => by exact (pe_slice sl_tupA (pv 2) po_none (po_some pe_int)))) pa_nil))))))), ?_⟩
    have ll : (ls.map fun q => V.ref q.1).length = ls.length := List.length_map ..
    refine ⟨_, rfl, .ref l, .ty "tuple", _, _, true, rfl, .ty _, .base (.tup hl.at_), rfl, _, rfl, ?_⟩
    refine ite2 (fun c => (by cases c)) fun _ => ?_
    refine ⟨_, rfl, _, _, rfl, .inr ⟨_, SqT.of hl.at_, rfl⟩, _, _, rfl, rfl, _, rfl, ite2 (fun c => ?_) fun c => ?_⟩
    · have c1 := of_decide_eq_true c
      rw [ll] at c1
      exact k false ⟨fun q => (by cases q), fun q => absurd q (by omega)⟩ H (Same.refl H)
    have c1 : ¬ ((16 : Int) < ((ls.map fun q => V.ref q.1).length : Nat)) := fun q => c (decide_eq_true q)
    rw [ll] at c1
    have out : ∀ H', Same H H' → Q (.bl true) H' := k true ⟨fun _ => by omega, fun _ => rfl⟩
    refine nxt ?_
    refine ⟨_, rfl, l, rfl, ⟨_, SqT.of hl.at_⟩, fun D hD => ?_⟩
    refine lc_it (walk_tup (xs := ls.map fun q => V.ref q.1)) (fun i H' => H' D = some (.lst (List.replicate i (V.bl true))) ∧ Same H H') ⟨upd_same, same_new hD⟩ (fun i H' _ q => SqT.of (q.2 _ _ hl.at_)) ?_ ?_
    · rintro i x H1 H2 hi ⟨h1, s1⟩ ⟨rfl, hx⟩
      obtain ⟨q, hq, rfl⟩ := at_map hx
      have mq := List.mem_of_getElem? hq
      refine ⟨rfl, ?_⟩
      dsimp only [tYes]
      rw [if_pos rfl]
      refine ⟨_, rfl, _, rfl, q.1, r, zs, q.2, rfl, s1 _ _ (hl.el q mq).1, s1 _ _ hz, (hl.el q mq).2, fun H3 s3 => ⟨_, s3 _ _ h1, ?_, ?_, fun b o e => ?_⟩⟩
      · rw [List.length_replicate, sizeLine_eq]
        rw [ll] at hi
        omega
      · rw [upd_same, rep_succ]
      · rw [upd_ne (ne_of_none e hD)]
        exact s3 _ _ (s1 _ _ e)
    · rintro H1 ⟨h1, s1⟩
      refine ⟨D, List.replicate _ true, rfl, SqL.of (by rw [List.map_replicate]; exact h1), ?_⟩
      rw [all_rep]
      refine ⟨_, rfl, ?_⟩
      rw [if_pos rfl]
      have hl1 := hl.same s1
      refine ⟨_, rfl, l, rfl, ⟨_, SqT.of hl1.at_⟩, fun D2 hD2 => ?_⟩
      refine lc_it (walk_tup (xs := ls.map fun q => V.ref q.1)) (fun i H' => ∃ ts : List (Addr × List Key), ts.map (·.2) = (ls.take i).map (fun q => q.2.take 2) ∧ H' D2 = some (.lst (ts.map fun q => V.ref q.1)) ∧ (∀ q ∈ ts, H' q.1 = some (.tup (q.2.map kV))) ∧ Same H1 H')
        ⟨[], by rw [List.take_zero]; rfl, upd_same, (fun _ q => by cases q), same_new hD2⟩ (fun i H' _ q => ?_) ?_ ?_
      · obtain ⟨_, _, _, _, q⟩ := q
        exact SqT.of (q _ _ hl1.at_)
      · rintro i x H2 H3 hi ⟨ts, et, h2, el, s2⟩ ⟨rfl, hx⟩
        obtain ⟨q, hq, rfl⟩ := at_map hx
        have mq := List.mem_of_getElem? hq
        have lt : ts.length = i := by
          have e := congrArg List.length et
          rw [List.length_map, List.length_map, List.length_take] at e
          rw [ll] at hi
          omega
        refine ⟨rfl, ?_⟩
        dsimp only [tYes]
        rw [if_pos rfl]
        have hq2 := s2 _ _ (hl1.el q mq).1
        refine ⟨_, rfl, _, rfl, slT hq2 fun t H4 s4 ht => ?_⟩
        rw [show cutV (q.2.map kV) none (some 2) = (q.2.take 2).map kV from by rw [List.map_take]; exact cut_take _ 2] at ht
        have h4 := s4 _ _ h2
        have ntD : t ≠ D2 := fun z => by rw [z, h4] at ht; cases ht
        refine ⟨_, h4, ?_, ts ++ [(t, q.2.take 2)], ?_, ?_, fun p hp => ?_, fun b o e => ?_⟩
        · rw [List.length_map, sizeLine_eq, lt]
          rw [ll] at hi
          omega
        · rw [List.map_append, et, List.take_add_one (l := ls), show ls[i]? = some q from hq, List.map_append]
          rfl
        · rw [upd_same, List.map_append]
          rfl
        · rcases List.mem_append.mp hp with z | z
          · rw [upd_ne (fun y => by have e := s4 _ _ (el p z); rw [y, h4] at e; cases e)]
            exact s4 _ _ (el p z)
          · rw [List.mem_singleton.mp z, upd_ne ntD]
            exact ht
        · rw [upd_ne (ne_of_none e hD2)]
          exact s4 _ _ (s2 _ _ e)
      · rintro H2 ⟨ts, et, h2, el, s2⟩
        rw [ll, List.take_length] at et
        have lt : ts.length = ls.length := by
          have e := congrArg List.length et
          rw [List.length_map, List.length_map] at e
          exact e
        have pw : (ts.map (·.2)).Pairwise fun k l => ksLt k l = true := by
          rw [et]
          exact List.pairwise_map.mpr hl.up
        refine ⟨D2, rfl, fun H3 s3 => out H3 ((s1.trans s2).trans s3), .inr ⟨ts, [false, false], SqL.of h2, fun p hp => ⟨SqT.of (el p hp), ?_⟩, List.pairwise_map.mp pw, by have := hl.few; omega⟩⟩
        have mp : p.2 ∈ ts.map (·.2) := List.mem_map_of_mem hp
        rw [et] at mp
        obtain ⟨q, hq, e⟩ := List.mem_map.mp mp
        obtain ⟨_, a, b, x, y, e2, _⟩ := hl.el q hq
        rw [← e, e2]
        rfl
end
end Toy
set_option Elab.async false
set_option linter.all false
set_option maxRecDepth 100000
set_option maxHeartbeats 4000000
namespace Toy
open PySem L2 Q RZ
abbrev netFs (r l : Addr) : List (Str × V) := [("_routers", .ref r), ("_links", .ref l)]
/-- a net at n with these routers and links -/
def NetO (C : Addr) (H : Hp) (n r l : Addr) : Prop := ∃ dx, H n = some (.ins C dx (netFs r l))
theorem NetO.same {C : Addr} {H H' : Hp} {n r l : Addr} (h : NetO C H n r l) (s : Same H H') : NetO C H' n r l := let ⟨dx, e⟩ := h; ⟨dx, s _ _ e⟩
theorem put_links (u v : V) : putF "_links" v (putF "_routers" u []) = ([("_routers", u), ("_links", v)] : List (Str × V)) := by
  unfold putF
  simp only [putF]
  rw [if_neg (by decide)]
/-- an error of one value, raised -/
theorem oexc {C : Addr} {f : Str} {v : V} {H : Hp} {Q : XK} (q : ∀ d H', Same H H' → H' d = some (.xd [(f, v)]) → Q (.ref C) (some d) H') :
    ([v] : List V).length ≤ 1000 ∧ ∀ a, H a = none → spI1 C f (.ref a :: ([v] ++ [])) (upd H a (exo a C none))
      (fun u H2 => u = .non ∧ ∃ (d : Addr) (fs : List (Str × V)), H2 a = some (exo a C (some d)) ∧ H2 d = some (exd d fs) ∧ H d = none ∧ Q (.ref C) (some d) (upd (del H2 a) d (.xd fs))) (fun _ _ _ => False) := by
  refine ⟨(by show 1 ≤ 1000; decide), fun a na => ⟨a, v, rfl, upd_same, fun d H2 b nd ea ed => ?_⟩⟩
  have nd0 : H d = none := by
    cases z : H d with
    | none => rfl
    | some o =>
      rw [same_new na _ _ z] at nd
      cases nd
  refine ⟨rfl, d, _, ea, ed, nd0, q d _ (fun c o e => ?_) upd_same⟩
  rw [upd_ne (ne_of_none e nd0), del_ne (ne_of_none e na)]
  exact b c o (ne_of_none e na) (same_new na _ _ e)
/-- Net(routers, links): made, or refused by the pair of both -/
def spInit (C B : Addr) : Sp := fun vs H Q E => ∃ (x r l : Addr) (zs : List Str) (ls : List (Addr × List Key)), vs = [.ref x, .ref r, .ref l] ∧ (∃ dx, H x = some (.ins C dx [])) ∧
  H r = some (.tup (zs.map V.str)) ∧ (∀ z ∈ zs, z.length ≤ 1000000) ∧ zs.length ≤ 1000 ∧ zs.Pairwise tLt ∧ Lks H zs l ls ∧
  (RtOk zs ∧ ls.length ≤ 16 → ∀ H', But x H H' → NetO C H' x r l → Q .non H') ∧
  (¬ (RtOk zs ∧ ls.length ≤ 16) → ∀ d t H', Same H H' → H' d = some (.xd [("value", .ref t)]) → H' t = some (.tup [.ref r, .ref l]) → E (.ref B) (some d) H')
theorem mk_net {C B : Addr} {H : Hp} {r l : Addr} {zs : List Str} {ls : List (Addr × List Key)} {Q : VK} {E : XK} (hr : H r = some (.tup (zs.map V.str))) (big : ∀ z ∈ zs, z.length ≤ 1000000) (few : zs.length ≤ 1000) (pw : zs.Pairwise tLt) (hl : Lks H zs l ls)
    (ok : RtOk zs ∧ ls.length ≤ 16 → ∀ n H', H n = none → Same H H' → NetO C H' n r l → Q (.ref n) H')
    (no : ¬ (RtOk zs ∧ ls.length ≤ 16) → ∀ d t H', Same H H' → H' d = some (.xd [("value", .ref t)]) → H' t = some (.tup [.ref r, .ref l]) → E (.ref B) (some d) H') :
    ∀ x dx, H x = none → H dx = none → dx ≠ x → spInit C B (.ref x :: ([.ref r, .ref l] ++ [])) (upd (upd H dx (.own x)) x (.ins C dx [])) (fun v H2 => v = .non ∧ Q (.ref x) H2) E := by
  intro x dx nx nd ne
  have s1 : Same H (upd (upd H dx (.own x)) x (.ins C dx [])) := fun b o e => by
    rw [upd_ne (ne_of_none e nx), upd_ne (ne_of_none e nd)]
    exact e
  refine ⟨x, r, l, zs, ls, rfl, ⟨dx, upd_same⟩, s1 _ _ hr, big, few, pw, hl.same s1, fun h H' b n => ⟨rfl, ok h x H' nx (fun c o e => b c o (ne_of_none e nx) (s1 _ _ e)) n⟩, fun h d t H' s e1 e2 => no h d t H' (s1.trans s) e1 e2⟩
section
variable {P : Program} {w : World} {K : PySem.W.Frag} {mg : Str → Option Value} {base : Heap} {ca ia fa : Nat → Addr} {fd fi : Nat → FuncData}
theorem ok_init (T : Txt K mg ca ia fa fd fi) : FnOk P w K mg base (L2.CX P w) 6 (ia 100) (fi 100) ["self", "routers", "links"] (spInit (ca 20) (ca 6)) := by
  have G_are_routers := ok_routers (P := P) (w := w) (base := base) T
  have G_are_links := ok_are_links (P := P) (w := w) (base := base) T
  refine T.F_m_init.okX sc_m_init (fun vs H Q E h => ?_) (fun cdv A outer s H vs Q E hr h => ?_)
  · obtain ⟨x, r, l, zs, ls, rfl, _⟩ := h
    rfl
  · obtain ⟨x, r, l, zs, ls, rfl, ⟨dx, hx⟩, hz, big, few, pw, hl, ok, no⟩ := h
    refine ⟨_, (pss_cons (ps_if (PW.pt (pw_or (pt_not (pt_val (pe_call G_are_routers (hr.mono (by decide)) rfl T.g_are_routers T.k_are_routers T.b_are_routers .nil pass0 (pa_cons (pv 1) pa_nil)))) (pw_or1 (pt_not (pt_val (pe_call G_are_links (hr.mono (by decide)) rfl T.g_are_links T.k_are_links T.b_are_links .nil pass0 (pa_cons (pv 2) (pa_cons (pv 1) pa_nil)))))))) (pss_one (ps_raise rfl (takes_of rfl rfl rfl rfl) (pmk_oex T.c_BadNet.oex T.iC_BadNet T.tI_BadNet (in_BadNet T) (hr.mono (by decide)) T.bi_BadNet .nil pass0 rfl T.c_BadNet.g (pa_cons (pe_tup (pa_cons (pv 1) (pa_cons (pv 2) pa_nil))) pa_nil)))) pss_nil)
      (pss_cons (ps_fld (pv 0) (pv 1) rfl)
      (pss_one (ps_fld (pv 0) (pv 2) rfl)))), ?_⟩
    have bad : ∀ H', Same H H' → ¬ (RtOk zs ∧ ls.length ≤ 16) → ∀ t, H' t = none → ∀ d H2, Same (upd H' t (.tup [.ref r, .ref l])) H2 → H2 d = some (.xd [("value", .ref t)]) → E (.ref (ca 6)) (some d) H2 := fun H' s n t nt d H2 s2 e => no n d t H2 ((s.trans (same_new nt)).trans s2) e (s2 _ _ upd_same)
    refine ⟨_, rfl, r, zs, rfl, hz, big, few, pw, fun b hb H1 s1 => ?_⟩
    have raise : ∀ H', Same H H' → ¬ (RtOk zs ∧ ls.length ≤ 16) → tMkO (ca 6) (spI1 (ca 6) "value") [] (tCons (tTup (tCons (tVar 1) (tCons (tVar 2) tNil))) tNil) (L2.start N_m_init [V.ref x, V.ref r, V.ref l]) H' E := fun H' s n =>
      ⟨_, rfl, _, rfl, (by show 2 ≤ sizeLine; decide), fun t nt => oexc fun d H2 s2 e => bad H' s n t nt d H2 s2 e⟩
    cases b with
    | false => exact ⟨_, rfl, raise H1 s1 fun q => by cases hb.2 q.1⟩
    | true =>
      have hz1 := hb.1 rfl
      refine ⟨_, rfl, ?_⟩
      refine ⟨_, rfl, _, rfl, l, r, zs, ls, rfl, s1 _ _ hz, hl.same s1, fun b2 hb2 H2 s2 => ?_⟩
      cases b2 with
      | false => exact ⟨_, rfl, raise H2 (s1.trans s2) fun q => by cases hb2.2 q.2⟩
      | true =>
        refine ⟨_, rfl, ?_⟩
        show Ends.nx _ _ _
        refine nxt ?_
        have hx2 := s2 _ _ (s1 _ _ hx)
        refine ⟨_, rfl, _, rfl, x, _, dx, _, rfl, hx2, T.cl_Net, T.no_Net_routers, (by show 0 < 1000; decide), ?_⟩
        refine nxt ?_
        refine ⟨_, rfl, _, rfl, x, _, dx, _, rfl, upd_same, T.cl_Net, T.no_Net_links, (by show 1 < 1000; decide), ?_⟩
        refine ok ⟨hz1, hb2.1 rfl⟩ _ (fun c o nc e => ?_) ⟨dx, ?_⟩
        · rw [upd_ne nc, upd_ne nc]
          exact s2 _ _ (s1 _ _ e)
        · rw [upd_same]
          exact congrArg (fun z => some (HO.ins _ dx z)) (put_links _ _)
theorem ok_m_routers (T : Txt K mg ca ia fa fd fi) : FnOk P w K mg base CX0 1 (ia 101) (fi 101) ["self"] (getSp (ca 20) "_routers") := by
  refine T.F_m_routers.ok sc_m_routers (fun vs H Q E h => ?_) (fun cdv A outer s H vs Q E hr h => ?_)
  · obtain ⟨a, dx, fs, v, rfl, _⟩ := h
    rfl
  · obtain ⟨a, dx, fs, v, rfl, ha, hl, q⟩ := h
    exact ⟨_, (pss_one (ps_ret (pe_fld (pv 0) rfl))), _, rfl, a, _, dx, fs, v, rfl, ha, T.cl_Net, T.no_Net_routers, hl, q⟩
theorem ok_m_links (T : Txt K mg ca ia fa fd fi) : FnOk P w K mg base CX0 1 (ia 102) (fi 102) ["self"] (getSp (ca 20) "_links") := by
  refine T.F_m_links.ok sc_m_links (fun vs H Q E h => ?_) (fun cdv A outer s H vs Q E hr h => ?_)
  · obtain ⟨a, dx, fs, v, rfl, _⟩ := h
    rfl
  · obtain ⟨a, dx, fs, v, rfl, ha, hl, q⟩ := h
    exact ⟨_, (pss_one (ps_ret (pe_fld (pv 0) rfl))), _, rfl, a, _, dx, fs, v, rfl, ha, T.cl_Net, T.no_Net_links, hl, q⟩
/-- one of the routers -/
def inR (x : V) (zs : List Str) : Prop := ∃ z ∈ zs, x = .str z
theorem any_isStr {x : V} {zs : List Str} : zs.any (isStr x) = true ↔ inR x zs := by
  rw [List.any_eq_true]
  constructor
  · rintro ⟨z, hz, e⟩
    unfold isStr at e
    split at e
    · rename_i y
      exact ⟨z, hz, by rw [of_decide_eq_true e]⟩
    · cases e
  · rintro ⟨z, hz, rfl⟩
    exact ⟨z, hz, decide_eq_true rfl⟩
/-- need_router(net, x): x any told value; N: the class NoRouter -/
def spNeed1 {K : PySem.W.Frag} (C N : Addr) : Sp := fun vs H Q E => ∃ (n r l : Addr) (zs : List Str) (x : V), vs = [.ref n, x] ∧ NetO C H n r l ∧ H r = some (.tup (zs.map V.str)) ∧ Odd K H x ∧
  (inR x zs → Q .non H) ∧ (¬ inR x zs → ∀ d H', Same H H' → H' d = some (.xd [("value", x)]) → E (.ref N) (some d) H')
def spNeed2 {K : PySem.W.Frag} (C N : Addr) : Sp := fun vs H Q E => ∃ (n r l : Addr) (zs : List Str) (x y : V), vs = [.ref n, x, y] ∧ NetO C H n r l ∧ H r = some (.tup (zs.map V.str)) ∧ Odd K H x ∧ Odd K H y ∧
  (inR x zs → inR y zs → Q .non H) ∧ (¬ inR x zs → ∀ d H', Same H H' → H' d = some (.xd [("value", x)]) → E (.ref N) (some d) H') ∧
  (inR x zs → ¬ inR y zs → ∀ d H', Same H H' → H' d = some (.xd [("value", y)]) → E (.ref N) (some d) H')
theorem ok_need_router (T : Txt K mg ca ia fa fd fi) : FnOk P w K mg base (L2.CX P w) 3 (fa 22) (fd 22) ["net", "value"] (spNeed1 (K := K) (ca 20) (ca 7)) := by
  have G_m_routers := ok_m_routers (P := P) (w := w) (base := base) T
  obtain ⟨pr, hp_routers⟩ := T.P_routers
  refine T.F_need_router.okX sc_need_router (fun vs H Q E h => ?_) (fun cdv A outer s H vs Q E hr h => ?_)
  · obtain ⟨n, r, l, zs, a, rfl, _⟩ := h
    rfl
  · obtain ⟨n, r, l, zs, x, rfl, ⟨dx, hn⟩, hz, hx, q, q2⟩ := h
    refine ⟨_, (pss_one (ps_if (pt_cmpR (op_notInO (roomU1 hr)) (pv 1) (pe_prop (pv 0) T.cl_Net hp_routers G_m_routers (hr.mono (by decide)) T.b_m_routers .nil pass0 rfl) rfl) (pss_one (ps_raise rfl (takes_of rfl rfl rfl rfl) (pmk_oex T.c_NoRouter.oex T.iC_NoRouter T.tI_NoRouter (in_NoRouter T) (hr.mono (by decide)) T.bi_NoRouter .nil pass0 rfl T.c_NoRouter.g (pa_cons (pv 1) pa_nil)))) pss_nil)), ?_⟩
    refine ⟨_, rfl, _, rfl, n, dx, _, rfl, hn, n, dx, _, _, rfl, hn, rfl, r, zs, rfl, SqT.of hz, hx, _, rfl, ?_⟩
    refine ite2 (fun e => ?_) fun e => ?_
    · have no : ¬ inR x zs := fun z => by
        have e2 : (!(zs.any (isStr x))) = true := e
        rw [any_isStr.mpr z] at e2
        cases e2
      exact ⟨_, rfl, oexc fun d H' s e => q2 no d H' s e⟩
    · have yes : inR x zs := by
        refine any_isStr.mp ?_
        have e2 : ¬ (!(zs.any (isStr x))) = true := e
        cases z : zs.any (isStr x)
        · rw [z] at e2
          exact absurd rfl e2
        · rfl
      exact q yes
theorem ok_need_routers (T : Txt K mg ca ia fa fd fi) : FnOk P w K mg base (L2.CX P w) 4 (fa 21) (fd 21) ["net", "a", "b"] (spNeed2 (K := K) (ca 20) (ca 7)) := by
  have G_need_router := ok_need_router (P := P) (w := w) (base := base) T
  refine T.F_need_routers.okX sc_need_routers (fun vs H Q E h => ?_) (fun cdv A outer s H vs Q E hr h => ?_)
  · obtain ⟨n, r, l, zs, a, b, rfl, _⟩ := h
    rfl
  · obtain ⟨n, r, l, zs, x, y, rfl, hn, hz, hx, hy, q, q1, q2⟩ := h
    refine ⟨_, (pss_cons (ps_expr (pe_call G_need_router (hr.mono (by decide)) rfl T.g_need_router T.k_need_router T.b_need_router .nil (passes_call (takes_of rfl rfl rfl rfl) fun _ _ _ _ h => h) (pa_cons (pv 0) (pa_cons (pv 1) pa_nil))))
      (pss_one (ps_expr (pe_call G_need_router (hr.mono (by decide)) rfl T.g_need_router T.k_need_router T.b_need_router .nil (passes_call (takes_of rfl rfl rfl rfl) fun _ _ _ _ h => h) (pa_cons (pv 0) (pa_cons (pv 2) pa_nil)))))), ?_⟩
    exact ⟨_, rfl, _, rfl, n, r, l, zs, x, rfl, hn, hz, hx, fun ix => nxt ⟨_, rfl, _, rfl, n, r, l, zs, y, rfl, hn, hz, hy, fun iy => q ix iy, fun ny => q2 ix ny⟩, q1⟩
end
end Toy
set_option Elab.async false
set_option linter.all false
set_option maxRecDepth 100000
set_option maxHeartbeats 4000000
namespace Toy
open PySem L2 Q RZ D7
abbrev linkI (a b : Str) (x y : Int) : List Key := [.inr a, .inr b, .inl x, .inl y]
theorem lks_irr : ∀ k : List Key, ksLt k k = false
  | [] => rfl
  | a :: as => by
    unfold ksLt
    rw [if_pos rfl]
    exact lks_irr as
/-- a net with its routers and links -/
structure NetW (C : Addr) (H : Hp) (n r l : Addr) (zs : List Str) (ls : List (Addr × List Key)) : Prop where
  net : NetO C H n r l
  rt : H r = some (.tup (zs.map V.str))
  ok : RtOk zs
  pw : zs.Pairwise tLt
  lk : Lks H zs l ls
  m : ls.length ≤ 16
section
variable {C : Addr} {H H' : Hp} {n r l : Addr} {zs : List Str} {ls : List (Addr × List Key)}
theorem NetW.same (h : NetW C H n r l zs ls) (s : Same H H') : NetW C H' n r l zs ls := ⟨h.net.same s, s _ _ h.rt, h.ok, h.pw, h.lk.same s, h.m⟩
theorem NetW.low (h : NetW C H n r l zs ls) {a : Str} (ha : a ∈ zs) : Low a := (h.ok.2.2 a ha).2.2
theorem Lks.nd (h : Lks H zs l ls) : (ls.map fun q => q.2.take 2).Nodup := by
  refine List.pairwise_map.mpr (h.up.imp fun {x y} e z => ?_)
  have e2 : ksLt (x.2.take 2) (y.2.take 2) = true := e
  rw [z, lks_irr] at e2
  cases e2
theorem nd_same {α β : Type} {f : α → β} {l : List α} (nd : (l.map f).Nodup) {i j : Nat} {x y : α} (hx : l[i]? = some x) (hy : l[j]? = some y) (e : f x = f y) : i = j := by
  obtain ⟨h1, rfl⟩ := List.getElem?_eq_some_iff.mp hx
  obtain ⟨h2, rfl⟩ := List.getElem?_eq_some_iff.mp hy
  have l1 : i < (l.map f).length := by rw [List.length_map]; exact h1
  have l2 : j < (l.map f).length := by rw [List.length_map]; exact h2
  exact (List.getElem_inj (h₀ := l1) (h₁ := l2) nd).mp (by rw [List.getElem_map, List.getElem_map]; exact e)
end
/-- how one link leads -/
def LkOf (k : List Key) (a m : Str) (x : Int) : Prop := ∃ u v x' y', k = linkI u v x' y' ∧ ((a = u ∧ m = v ∧ x = x') ∨ (a = v ∧ m = u ∧ x = y'))
def LkR (ls : List (Addr × List Key)) : LK := fun a m x => ∃ q ∈ ls, LkOf q.2 a m x
theorem lk_bound {zs : List Str} : ∀ {ls : List (Addr × List Key)}, (∀ q ∈ ls, LkOk zs q.2) → ∃ L : Int, 0 ≤ L ∧ ∀ a m x, LkR ls a m x → a ∈ zs ∧ m ∈ zs ∧ 1 ≤ x ∧ x ≤ L
  | [], _ => ⟨0, Int.le_refl _, fun _ _ _ ⟨q, hq, _⟩ => nomatch hq⟩
  | p :: ls, h => by
    obtain ⟨L, l0, hL⟩ := lk_bound (ls := ls) fun q hq => h q (List.mem_cons_of_mem _ hq)
    obtain ⟨u, v, x, y, e, hu, hv, _, x1, y1⟩ := h p List.mem_cons_self
    refine ⟨L + x + y, by omega, fun a m z hz => ?_⟩
    obtain ⟨q, hq, lk⟩ := hz
    rcases List.mem_cons.mp hq with rfl | hq
    · obtain ⟨u', v', x', y', e2, c⟩ := lk
      rw [e] at e2
      cases e2
      rcases c with ⟨rfl, rfl, rfl⟩ | ⟨rfl, rfl, rfl⟩
      · exact ⟨hu, hv, by omega, by omega⟩
      · exact ⟨hv, hu, by omega, by omega⟩
    · obtain ⟨q1, q2, q3, q4⟩ := hL a m z ⟨q, hq, lk⟩
      exact ⟨q1, q2, q3, by omega⟩
theorem NetW.rel {C : Addr} {H : Hp} {n r l : Addr} {zs : List Str} {ls : List (Addr × List Key)} (h : NetW C H n r l zs ls) : ∃ L, RelOk (LkR ls) zs L := by
  obtain ⟨L, l0, hL⟩ := lk_bound fun q hq => (h.lk.el q hq).2
  exact ⟨L, h.ok.2.1, l0, hL⟩
/-- net.length(x, y) of any told values -/
def spLen {K : PySem.W.Frag} (C N : Addr) : Sp := fun vs H Q E => ∃ (n r l : Addr) (zs : List Str) (ls : List (Addr × List Key)) (x y : V), vs = [.ref n, x, y] ∧ NetW C H n r l zs ls ∧ Odd K H x ∧ Odd K H y ∧
  (∀ a b, x = .str a → y = .str b → a ∈ zs → b ∈ zs → ∀ v H', Same H H' → ((∃ t : Int, v = .int t ∧ LkR ls a b t) ∨ (v = .non ∧ ∀ t : Int, ¬ LkR ls a b t)) → Q v H') ∧
  (¬ inR x zs → ∀ d H', Same H H' → H' d = some (.xd [("value", x)]) → E (.ref N) (some d) H') ∧
  (inR x zs → ¬ inR y zs → ∀ d H', Same H H' → H' d = some (.xd [("value", y)]) → E (.ref N) (some d) H')
section
variable {P : Program} {w : World} {K : PySem.W.Frag} {mg : Str → Option Value} {base : Heap} {ca ia fa : Nat → Addr} {fd fi : Nat → FuncData}
theorem dp_pair {H : Hp} {t : Addr} {a b : Str} (h : H t = some (.tup [.str a, .str b])) : Dp K H (.ref t) (.tuple [.str a, .str b]) := .tup (SqT.of h) (.cons (.str a) (.cons (.str b) .nil))
theorem ok_m_length (T : Txt K mg ca ia fa fd fi) : FnOk P w K mg base (L2.CX P w) 5 (ia 104) (fi 104) ["self", "a", "b"] (spLen (K := K) (ca 20) (ca 7)) := by
  have G_need_routers := ok_need_routers (P := P) (w := w) (base := base) T
  have G_m_links := ok_m_links (P := P) (w := w) (base := base) T
  obtain ⟨pl, hp_links⟩ := T.P_links
  refine T.F_m_length.okX sc_m_length (fun vs H Q E h => ?_) (fun cdv A outer s H vs Q E hr h => ?_)
  · obtain ⟨n, r, l, zs, ls, x, y, rfl, _⟩ := h
    rfl
  · obtain ⟨n, r, l, zs, ls, x, y, rfl, hw, ox, oy, k, k1, k2⟩ := h
    refine ⟨_, (pss_cons (ps_expr (pe_call G_need_routers (hr.mono (by decide)) rfl T.g_need_routers T.k_need_routers T.b_need_routers .nil (passes_call (takes_of rfl rfl rfl rfl) fun _ _ _ _ h => h) (pa_cons (pv 0) (pa_cons (pv 1) (pa_cons (pv 2) pa_nil)))))
      (pss_cons (ps_for (passes_of rfl) rfl (pi_tup (pe_prop (pv 0) T.cl_Net hp_links G_m_links (hr.mono (by decide)) T.b_m_links .nil pass0 rfl)) (pg_tup rfl (pgs_cons (pg_name (i := 3) sc_m_length.nd rfl (Or.inl rfl)) (pgs_cons (pg_name (i := 4) sc_m_length.nd rfl (Or.inl rfl)) (pgs_cons (pg_name (i := 5) sc_m_length.nd rfl (Or.inl rfl)) (pgs_cons (pg_name (i := 6) sc_m_length.nd rfl (Or.inl rfl)) pgs_nil))))) (pss_cons (ps_if (pt_cmpR (op_eqD hr.units) (pe_tup (pa_cons (pv 1) (pa_cons (pv 2) pa_nil))) (pe_tup (pa_cons (pv 3) (pa_cons (pv 4) pa_nil))) (nomark _)) (pss_one (ps_ret (pv 5))) pss_nil)
      (pss_one (ps_if (pt_cmpR (op_eqD hr.units) (pe_tup (pa_cons (pv 2) (pa_cons (pv 1) pa_nil))) (pe_tup (pa_cons (pv 3) (pa_cons (pv 4) pa_nil))) (nomark _)) (pss_one (ps_ret (pv 6))) pss_nil))))
      (pss_one (ps_ret pe_non)))), ?_⟩
    obtain ⟨dx, hn⟩ := hw.net
    refine ⟨_, rfl, _, rfl, _, rfl, n, r, l, zs, x, y, rfl, hw.net, hw.rt, ox, oy, fun ix iy => ?_, k1, k2⟩
    obtain ⟨a, ha, rfl⟩ := ix
    obtain ⟨b, hb, rfl⟩ := iy
    have k := k a b rfl rfl ha hb
    refine nxt ?_
    refine ⟨_, rfl, n, dx, _, rfl, hn, n, dx, _, _, rfl, hn, rfl, l, rfl, ⟨_, SqT.of hw.lk.at_⟩, ?_⟩
    refine for_it (walk_tup (xs := ls.map fun q => V.ref q.1)) (fun i σ H' => (∀ q ∈ ls.take i, ∀ t : Int, ¬ LkOf q.2 a b t) ∧ Same H H' ∧ ∃ x3 x4 x5 x6 : Option V, σ = [some (.ref n), some (.str a), some (.str b), x3, x4, x5, x6]) ⟨fun q hq => (nomatch hq), Same.refl H, none, none, none, none, rfl⟩ (fun i σ H' _ z => SqT.of (z.2.1 _ _ hw.lk.at_)) ?_ ?_
    · rintro i x σ H1 H2 hi ⟨ij, s1, x3, x4, x5, x6, rfl⟩ ⟨rfl, hx⟩
      obtain ⟨p, hp, rfl⟩ := at_map hx
      have mp := List.mem_of_getElem? hp
      obtain ⟨ep, c, d, cx, cy, e3, hc, hd, cd, _⟩ := hw.lk.el p mp
      rw [e3] at ep
      refine ⟨p.1, _, rfl, SqT.of (s1 _ _ ep), rfl, _, _, rfl, _, _, rfl, _, _, rfl, _, _, rfl, rfl, ?_⟩
      refine ⟨_, rfl, _, rfl, (by show 2 ≤ sizeLine; decide), fun t1 n1 => ⟨_, rfl, _, rfl, (by show 2 ≤ sizeLine; decide), fun t2 n2 => ?_⟩⟩
      have la := hw.low ha
      have lb := hw.low hb
      have lc := hw.low hc
      have ld := hw.low hd
      have s3 : Same H (upd (upd H2 t1 (.tup [.str a, .str b])) t2 (.tup [.str c, .str d])) := (s1.trans (same_new n1)).trans (same_new n2)
      refine ⟨_, _, dp_pair (same_new n2 _ _ upd_same), dp_pair upd_same, pair_shaped la lb, pair_shaped lc ld, _, rfl, ite2 (fun e1 => ?_) fun e1 => ?_⟩
      · have e2 := of_decide_eq_true ((pair_eqv a b c d).symm.trans e1)
        cases e2
        exact ⟨_, rfl, k _ _ s3 (.inl ⟨cx, rfl, p, mp, a, b, cx, cy, e3, .inl ⟨rfl, rfl, rfl⟩⟩)⟩
      · refine nxt ?_
        refine stepH (fun H3 => Same H H3) s3 fun H3 s3 => ?_
        refine ⟨_, rfl, _, rfl, (by show 2 ≤ sizeLine; decide), fun t3 n3 => ⟨_, rfl, _, rfl, (by show 2 ≤ sizeLine; decide), fun t4 n4 => ?_⟩⟩
        have s4 : Same H (upd (upd H3 t3 (.tup [.str b, .str a])) t4 (.tup [.str c, .str d])) := (s3.trans (same_new n3)).trans (same_new n4)
        refine ⟨_, _, dp_pair (same_new n4 _ _ upd_same), dp_pair upd_same, pair_shaped lb la, pair_shaped lc ld, _, rfl, ite2 (fun e2 => ?_) fun e2 => ?_⟩
        · have e2 := of_decide_eq_true ((pair_eqv b a c d).symm.trans e2)
          cases e2
          exact ⟨_, rfl, k _ _ s4 (.inl ⟨cy, rfl, p, mp, b, a, cx, cy, e3, .inr ⟨rfl, rfl, rfl⟩⟩)⟩
        · refine nxt ⟨fun q hq t lk => ?_, s4, _, _, _, _, rfl⟩
          rw [List.take_add_one (l := ls), show ls[i]? = some p from hp] at hq
          rcases List.mem_append.mp hq with hq | hq
          · exact ij q hq t lk
          · obtain rfl : q = p := by simpa using hq
            obtain ⟨u, v, x', y', e5, z⟩ := lk
            rw [e3] at e5
            cases e5
            rcases z with ⟨rfl, rfl, _⟩ | ⟨rfl, rfl, _⟩
            · exact e1 ((pair_eqv a b a b).trans (decide_eq_true rfl))
            · exact e2 ((pair_eqv b a b a).trans (decide_eq_true rfl))
    · rintro σ H1 ⟨ij, s1, x3, x4, x5, x6, rfl⟩
      rw [List.length_map, List.take_length] at ij
      exact nxt (k _ _ s1 (.inr ⟨rfl, fun t ⟨q, hq, lk⟩ => ij q hq t lk⟩))
end
end Toy
set_option Elab.async false
set_option linter.all false
set_option maxRecDepth 100000
set_option maxHeartbeats 4000000
namespace Toy
open PySem L2 Q RZ D7
/-! ### data of every kind: is it a whole number, a length, a name -/
def intB : PyData → Bool
  | .int _ => true
  | _ => false
def boolB : PyData → Bool
  | .bool _ => true
  | _ => false
def strB : PyData → Bool
  | .str _ => true
  | _ => false
def tupB : PyData → Bool
  | .tuple _ => true
  | _ => false
section
variable {K : PySem.W.Frag} {H : Hp} {x : V} {d : PyData}
theorem _root_.Q.Dd.kits (h : Dd K H x d) : ∃ t, TyX K H x t ∧ PySem.W.kitOne K t (.type "int") = some (intB d || boolB d) ∧ PySem.W.kitOne K t (.type "bool") = some (boolB d) ∧ PySem.W.kitOne K t (.type "str") = some (strB d) ∧ PySem.W.kitOne K t (.type "tuple") = some (tupB d) := by
  cases h with
  | non => exact ⟨_, .base .non, rfl, rfl, rfl, rfl⟩
  | bl b => exact ⟨_, .base (.bl b), rfl, rfl, rfl, rfl⟩
  | int i => exact ⟨_, .base (.int i), rfl, rfl, rfl, rfl⟩
  | str z => exact ⟨_, .base (.str z), rfl, rfl, rfl, rfl⟩
  | lst h _ =>
    rcases h with (h | ⟨o, h⟩) | ⟨o, its, n, e, c, _⟩
    · exact ⟨_, .base (.lst h), rfl, rfl, rfl, rfl⟩
    · exact ⟨_, .base (.frz h), rfl, rfl, rfl, rfl⟩
    · exact ⟨_, .kList e c, rfl, rfl, rfl, rfl⟩
  | tup h _ =>
    rcases h with (h | ⟨o, h⟩) | ⟨o, its, n, e, c, _⟩
    · exact ⟨_, .base (.tup h), rfl, rfl, rfl, rfl⟩
    · exact ⟨_, .fTuple h, rfl, rfl, rfl, rfl⟩
    · exact ⟨_, .kTuple e c, rfl, rfl, rfl, rfl⟩
  | dic h _ _ => exact ⟨_, .base (.dK h), rfl, rfl, rfl, rfl⟩
/-- isinstance(x, c) of data -/
theorem isD {c : String} {b : Bool} {t : Value} {Q : VK} (ty : TyX K H x t) (e : PySem.W.kitOne K t (.type c) = some b) (q : Q (.bl b) H) : rIsi K [x, .ty c] H Q :=
  ⟨x, .ty c, t, .type c, b, rfl, .ty c, ty, e, q⟩
end
theorem ifB {c : Bool} {A B : Prop} (h1 : c = true → A) (h2 : c = false → B) : if c = true then A else B := by
  cases c
  · rw [if_neg Bool.false_ne_true]
    exact h2 rfl
  · rw [if_pos rfl]
    exact h1 rfl
/-- a whole number from l on -/
def fromB : PyData → Int → Bool
  | .int i, l => decide (l ≤ i)
  | _, _ => false
theorem fromB_no {d : PyData} {l : Int} (h : intB d = false) : fromB d l = false := by
  cases d <;> first | rfl | cases h
theorem intB_of {K : PySem.W.Frag} {H : Hp} {x : V} {d : PyData} (h : Dd K H x d) (e : intB d = true) : ∃ i, x = .int i ∧ d = .int i := by
  cases h <;> first | exact ⟨_, rfl, rfl⟩ | cases e
theorem strB_of {K : PySem.W.Frag} {H : Hp} {x : V} {d : PyData} (h : Dd K H x d) (e : strB d = true) : ∃ z, x = .str z ∧ d = .str z := by
  cases h <;> first | exact ⟨_, rfl, rfl⟩ | cases e
theorem tupB_of {K : PySem.W.Frag} {H : Hp} {x : V} {d : PyData} (h : Dd K H x d) (e : tupB d = true) : ∃ a xs ds, x = .ref a ∧ d = .tuple ds ∧ SqT K H a xs ∧ DdAll K H xs ds := by
  cases h with
  | tup h a => exact ⟨_, _, _, rfl, rfl, h, a⟩
  | _ => cases e
def spIntA (K : PySem.W.Frag) : Sp := fun vs H Q _ => ∃ (v : V) (d : PyData), vs = [v] ∧ Dd K H v d ∧ Q (.bl (intB d)) H
def spFromA (K : PySem.W.Frag) : Sp := fun vs H Q _ => ∃ (v : V) (d : PyData) (l : Int), vs = [v, .int l] ∧ Dd K H v d ∧ Q (.bl (fromB d l)) H
def spLengthA (K : PySem.W.Frag) : Sp := fun vs H Q _ => ∃ (v : V) (d : PyData), vs = [v] ∧ Dd K H v d ∧ Q (.bl (fromB d 1)) H
/-- a name, as data -/
def NameD (d : PyData) : Prop := ∃ z, d = .str z ∧ NameOk z
abbrev TxOk (d : PyData) : Prop := ∀ z, d = .str z → z.length ≤ 1000000
def spNameA (K : PySem.W.Frag) : Sp := fun vs H Q _ => ∃ (v : V) (d : PyData), vs = [v] ∧ Dd K H v d ∧ TxOk d ∧ ∀ b : Bool, (b = true ↔ NameD d) → ∀ H', Same H H' → Q (.bl b) H'
section
variable {P : Program} {w : World} {K : PySem.W.Frag} {mg : Str → Option Value} {base : Heap} {ca ia fa : Nat → Addr} {fd fi : Nat → FuncData}
theorem ok_integerA (T : Txt K mg ca ia fa fd fi) : FnOk P w K mg base CX0 1 (fa 11) (fd 11) ["value"] (spIntA K) := by
  refine T.F_is_integer.ok sc_is_integer (fun vs H Q E h => ?_) (fun cdv A outer s H vs Q E hr h => ?_)
  · obtain ⟨v, d, rfl, _⟩ := h
    rfl
  · obtain ⟨v, d, rfl, hd, k⟩ := h
    refine ⟨_, (pss_one (ps_ret (pe_and (pe_callB call_isi (by rfl) T.n_isinstance (by decide +kernel) (pa_cons (pv 0) (pa_cons (pe_bltn (v := .ty "int") (by rfl) T.n_int (by decide +kernel) rfl) pa_nil))) (pe_one (pe_not (pe_callB call_isi (by rfl) T.n_isinstance (by decide +kernel) (pa_cons (pv 0) (pa_cons (pe_bltn (v := .ty "bool") (by rfl) T.n_bool (by decide +kernel) rfl) pa_nil)))))))), ?_⟩
    obtain ⟨t, ty, e1, e2, _⟩ := hd.kits
    refine ⟨_, rfl, _, _, _, _, _, rfl, .ty _, ty, e1, _, rfl, ifB (fun c => ?_) fun c => ?_⟩
    · refine ⟨_, rfl, _, _, _, _, _, rfl, .ty _, ty, e2, _, rfl, ?_⟩
      have e : (!boolB d) = intB d := by
        cases d <;> first | rfl | (cases c; done)
      rw [e]
      exact k
    · have e : intB d = false := by
        cases d <;> first | rfl | (cases c; done)
      rw [e] at k
      first | exact k | (rw [c]; exact k)
theorem ok_fromA (T : Txt K mg ca ia fa fd fi) : FnOk P w K mg base CX0 2 (fa 12) (fd 12) ["value", "least"] (spFromA K) := by
  have G_is_integer := ok_integerA (P := P) (w := w) (base := base) T
  refine T.F_is_integer_from.ok sc_is_integer_from (fun vs H Q E h => ?_) (fun cdv A outer s H vs Q E hr h => ?_)
  · obtain ⟨v, d, l, rfl, _⟩ := h
    rfl
  · obtain ⟨v, d, l, rfl, hd, k⟩ := h
    refine ⟨_, (pss_one (ps_ret (pe_and (pe_call G_is_integer (hr.mono (by decide)) rfl T.g_is_integer T.k_is_integer T.b_is_integer .nil pass0 (pa_cons (pv 0) pa_nil)) (pe_one (pe_cmpR op_ge (pv 0) (pv 1) (nomark _)))))), ?_⟩
    refine ⟨_, rfl, v, d, rfl, hd, _, rfl, ifB (fun c => ?_) fun c => ?_⟩
    · obtain ⟨i, rfl, rfl⟩ := intB_of hd c
      exact ⟨_, rfl, _, rfl, _, _, rfl, rfl, k⟩
    · rw [fromB_no c] at k
      first | exact k | (rw [c]; exact k)
theorem ok_lengthA (T : Txt K mg ca ia fa fd fi) : FnOk P w K mg base CX0 3 (fa 23) (fd 23) ["value"] (spLengthA K) := by
  have G_is_integer_from := ok_fromA (P := P) (w := w) (base := base) T
  refine T.F_is_length.ok sc_is_length (fun vs H Q E h => ?_) (fun cdv A outer s H vs Q E hr h => ?_)
  · obtain ⟨v, d, rfl, _⟩ := h
    rfl
  · obtain ⟨v, d, rfl, hd, k⟩ := h
    refine ⟨_, (pss_one (ps_ret (pe_call G_is_integer_from (hr.mono (by decide)) rfl T.g_is_integer_from T.k_is_integer_from T.b_is_integer_from .nil pass0 (pa_cons (pv 0) (pa_cons pe_int pa_nil))))), ?_⟩
    exact ⟨_, rfl, v, d, 1, rfl, hd, k⟩
end
end Toy
set_option Elab.async false
set_option linter.all false
set_option maxRecDepth 100000
set_option maxHeartbeats 8000000
namespace Toy
open PySem L2 Q RZ D7
/-! ### odd values; how great data is -/
abbrev oddDs : List PyData := [.none, .bool true, .bool false, .int (-1), .int (-7), .str "", .str "A", .str "a b", .str "abcdefghi", .str "a1",
  .tuple [.none], .tuple [.tuple []], .list [], .list [.str "a"], .dict [], .dict [(.str "a", .int 1)]]
/-- the heap without the pot and without what is set apart -/
abbrev off (Z : Addr → Bool) (H : Hp) (p : Addr) : Hp := fun b => if b = p ∨ Z b = true then none else H b
theorem off_at {Z : Addr → Bool} {H : Hp} {p a : Addr} {o : HO} (h : H a = some o) (n : ¬(a = p ∨ Z a = true)) : off Z H p a = some o := by
  show (if a = p ∨ Z a = true then none else H a) = some o
  rw [if_neg n]
  exact h
theorem off_in {Z : Addr → Bool} {H : Hp} {p a : Addr} {o : HO} (h : off Z H p a = some o) : ¬(a = p ∨ Z a = true) ∧ H a = some o := by
  by_cases z : a = p ∨ Z a = true
  · have e2 : (if a = p ∨ Z a = true then none else H a) = some o := h
    rw [if_pos z] at e2
    cases e2
  · have e2 : (if a = p ∨ Z a = true then none else H a) = some o := h
    rw [if_neg z] at e2
    exact ⟨z, e2⟩
theorem But.off {Z : Addr → Bool} {p : Addr} {H H' : Hp} (b : But p H H') : Same (off Z H p) (off Z H' p) := fun a o e => by
  obtain ⟨n, e2⟩ := off_in e
  exact off_at (b a o (fun z => n (.inl z)) e2) n
theorem off_same (Z : Addr → Bool) (H : Hp) (p : Addr) : Same (off Z H p) H := fun a o e => (off_in e).2
/-- a list or a dict stands there -/
def Lk (H : Hp) (b : Addr) : Prop := (∃ xs, H b = some (.lst xs)) ∨ ∃ kvs, H b = some (.dK kvs)
theorem Lk.same {H H' : Hp} {b : Addr} (h : Lk H b) (s : Same H H') : Lk H' b := by
  rcases h with ⟨x, h⟩ | ⟨x, h⟩
  · exact .inl ⟨x, s _ _ h⟩
  · exact .inr ⟨x, s _ _ h⟩
/-- a pot, and what is set apart besides it -/
structure PotZ (Z : Addr → Bool) (H : Hp) (p : Addr) (B : Nat) : Prop where
  po : Pot H p B
  tr : ∀ b, Z b = true → b ≠ p → Lk H b
section
variable {Z : Addr → Bool} {H H' : Hp} {p : Addr} {B B' : Nat}
theorem PotZ.same (h : PotZ Z H p B) (s : Same H H') : PotZ Z H' p B := ⟨h.po.same s, fun b z n => (h.tr b z n).same s⟩
theorem PotZ.mono (h : PotZ Z H p B) (l : B ≤ B') : PotZ Z H p B' := ⟨h.po.mono l, h.tr⟩
theorem PotZ.but (h : PotZ Z H p B) (u : But p H H') (q : Pot H' p B') : PotZ Z H' p B' := ⟨q, fun b z n => by
  rcases h.tr b z n with ⟨x, h⟩ | ⟨x, h⟩
  · exact .inl ⟨x, u _ _ n h⟩
  · exact .inr ⟨x, u _ _ n h⟩⟩
theorem PotZ.out {a : Addr} (h : PotZ Z H p B) (n : H a = none) : ¬(a = p ∨ Z a = true) := fun z => by
  by_cases e : a = p
  · obtain ⟨o, sd, c, hpp, _⟩ := h.po
    rw [e, hpp] at n
    cases n
  · rcases z with z | z
    · exact e z
    · rcases h.tr a z e with ⟨x, h⟩ | ⟨x, h⟩
      · rw [h] at n
        cases n
      · rw [h] at n
        cases n
theorem PotZ.outS {a : Addr} (h : PotZ Z H p B) (s : Same H H') (n : H' a = none) : ¬(a = p ∨ Z a = true) := (h.same s).out n
end
def spOdd (K : PySem.W.Frag) : Sp := fun vs H Q _ => ∃ (Z : Addr → Bool) (p : Addr) (B : Nat), vs = [.ref p] ∧ PotZ Z H p B ∧ B < 1000000 ∧
  ∀ (v : V) (d : PyData) (H' : Hp), But p H H' → PotZ Z H' p (B + 1) → Dd K (off Z H' p) v d → d ∈ oddDs → Q v H'
theorem dd_len {K : PySem.W.Frag} {H : Hp} : ∀ {xs : List V} {ds : List PyData}, DdAll K H xs ds → xs.length = ds.length
  | _, _, .nil => rfl
  | _, _, .cons _ t => by simp [dd_len t]
theorem dd_get {K : PySem.W.Frag} {H : Hp} : ∀ {xs : List V} {ds : List PyData} {i : Nat} {v : V}, DdAll K H xs ds → xs[i]? = some v → ∃ d, d ∈ ds ∧ Dd K H v d
  | _, _, 0, _, .cons h _, e => ⟨_, List.mem_cons_self .., by simp at e; subst e; exact h⟩
  | _, _, i + 1, v, .cons _ t, e => by
    obtain ⟨d, m, h⟩ := dd_get (i := i) (v := v) t (by simpa using e)
    exact ⟨d, List.mem_cons_of_mem _ m, h⟩
theorem same_two {H : Hp} {a : Addr} {o u : HO} (n : H a = none) : Same H (upd (upd H a o) a u) := fun b x e => by
  have z := ne_of_none e n
  rw [upd_ne z, upd_ne z]
  exact e
/-- small data -/
structure Sm (n k : Nat) (d : PyData) : Prop where
  ok : d.showable = true
  len : d.shown.length ≤ n
  dp : d.depth ≤ k
theorem Sm.mono {n k n' k' : Nat} {d : PyData} (h : Sm n k d) (a : n ≤ n') (b : k ≤ k') : Sm n' k' d := ⟨h.ok, Nat.le_trans h.len a, Nat.le_trans h.dp b⟩
theorem sm_all {n k : Nat} : ∀ {xs : List PyData}, (∀ x ∈ xs, Sm n k x) →
    PyData.showableAll xs = true ∧ piled (PyData.shownAll xs) ≤ xs.length * (n + 2) ∧ PyData.depthAll xs ≤ k
  | [], _ => ⟨rfl, Nat.zero_le _, Nat.zero_le _⟩
  | x :: xs, h => by
    obtain ⟨h1, h2, h3⟩ := sm_all (xs := xs) fun y m => h y (List.mem_cons_of_mem _ m)
    obtain ⟨q1, q2, q3⟩ := h x (List.mem_cons_self ..)
    refine ⟨?_, ?_, ?_⟩
    · simp only [PyData.showableAll, q1, h1, Bool.and_self]
    · simp only [PyData.shownAll, piled_cons, List.length_cons, Nat.succ_mul]
      omega
    · simp only [PyData.depthAll]
      omega
theorem sm_tuple {n k : Nat} {xs : List PyData} (h : ∀ x ∈ xs, Sm n k x) : Sm (xs.length * (n + 2) + 2) (k + 1) (.tuple xs) := by
  obtain ⟨h1, h2, h3⟩ := sm_all h
  refine ⟨?_, ?_, ?_⟩
  · simp only [PyData.showable, h1]
  · simp only [PyData.shown]
    exact Nat.le_trans (fmt_text _) (by omega)
  · simp only [PyData.depth]
    omega
theorem list_tuple (ts : List Str) : (listText ts).length ≤ piled ts + 3 := by
  have h := listText_len_le ts
  have e : ∀ l : List Str, (l.map (·.length)).sum + 2 * l.length = piled l := fun l => by
    induction l with
    | nil => rfl
    | cons a l ih =>
      rw [List.map_cons, List.sum_cons, List.length_cons, piled_cons, ← ih]
      omega
  rw [e] at h
  exact h
theorem sm_list {n k : Nat} {xs : List PyData} (h : ∀ x ∈ xs, Sm n k x) : Sm (xs.length * (n + 2) + 3) (k + 1) (.list xs) := by
  obtain ⟨h1, h2, h3⟩ := sm_all h
  refine ⟨?_, ?_, ?_⟩
  · simp only [PyData.showable, h1]
  · simp only [PyData.shown]
    exact Nat.le_trans (list_tuple _) (by omega)
  · simp only [PyData.depth]
    omega
/-- a short text of plain signs -/
abbrev Tc (z : Str) : Prop := z.length ≤ 10 ∧ ∀ c ∈ z.cps.toList, c < 128
theorem sm_tc {z : Str} (h : Tc z) : Sm 110 3 (.str z) := by
  refine ⟨rfl, ?_, ?_⟩
  · have q := PySem.StrLaws.reprText_len z fun c hc => by have := h.2 c hc; omega
    simp only [PyData.shown]
    have := h.1
    omega
  · simp only [PyData.depth]
    omega
theorem sm_nat {n : Nat} (h : n < 1000000000) : Sm 20 3 (.int (n : Int)) := by
  refine ⟨?_, ?_, ?_⟩
  · unfold PyData.showable
    rw [decide_eq_true_eq, Int.natAbs_natCast]
    by_cases z : n = 0
    · subst z
      decide
    · exact (Nat.log2_lt z).mpr (Nat.lt_trans h (by decide +kernel))
  · unfold PyData.shown
    have e : (toString (n : Int) : String) = n.repr := rfl
    rw [e, PySem.ofString_length]
    exact Nat.le_trans ((Nat.length_repr_le_iff (k := 9) (by decide)).mpr h) (by decide)
  · unfold PyData.depth
    decide
theorem sm_neg {n : Nat} (h : n < 100) : Sm 20 3 (.int (-(n : Int))) := by
  have q : ∀ m : _root_.Fin 100, (PyData.int (-(m.val : Int))).showable = true ∧ (PyData.int (-(m.val : Int))).shown.length ≤ 20 ∧ (PyData.int (-(m.val : Int))).depth ≤ 3 := by decide +kernel
  have z := q ⟨n, h⟩
  exact ⟨z.1, z.2.1, z.2.2⟩
section
variable {P : Program} {w : World} {K : PySem.W.Frag} {mg : Str → Option Value} {base : Heap} {ca ia fa : Nat → Addr} {fd fi : Nat → FuncData}
theorem ok_odd (T : Txt K mg ca ia fa fd fi) : FnOk P w K mg base CX0 3 (fa 65) (fd 65) ["_law_pot_here"] (spOdd K) := by
  have G_l_of := ok_of (P := P) (w := w) (base := base) T
  refine T.F_l_odd.ok sc_l_odd (fun vs H Q E h => ?_) (fun cdv A outer s H vs Q E hr h => ?_)
  · obtain ⟨Z, p, B, rfl, _⟩ := h
    rfl
  · obtain ⟨Z, p, B, rfl, hp, hB, k⟩ := h
    refine ⟨_, (pss_cons (ps_set (i := 1) sc_l_odd.nd rfl (Or.inl rfl) (pe_lst (pa_cons pe_non (pa_cons pe_bl (pa_cons pe_bl (pa_cons (pe_un un_neg pe_int) (pa_cons (pe_un un_neg pe_int) (pa_cons pe_str (pa_cons pe_str (pa_cons pe_str (pa_cons pe_str (pa_cons pe_str (pa_cons (pe_tup (pa_cons pe_non pa_nil)) (pa_cons (pe_tup (pa_cons (pe_tup pa_nil) pa_nil)) (pa_cons (pe_lst pa_nil) (pa_cons (pe_lst (pa_cons pe_str pa_nil)) (pa_cons pe_dnewK (pa_cons (pe_disp (pps_cons pe_str pe_int pps_nil) (by rfl) (by rfl) (fun z => by cases z) (by decide)) pa_nil))))))))))))))))))
      (pss_one (ps_ret (pe_call G_l_of (hr.mono (by decide)) rfl T.g_l_of T.k_l_of T.b_l_of .nil pass0 (pa_cons (pv 0) (pa_cons (pv 1) pa_nil)))))), ?_⟩
    refine seqS (fun v H' => ∃ (l : Addr) (xs : List V), v = .ref l ∧ l ≠ p ∧ Same H H' ∧ H' l = some (.lst xs) ∧ DdAll K (off Z H' p) xs oddDs) (fun Q k' => ?_) ?_
    · refine ⟨_, rfl, _, rfl, by show 1 ≤ sizeLine; decide, fun t1 n1 => ?_⟩
      refine ⟨by show 0 ≤ sizeLine; decide, fun t2 n2 => ⟨by show 1 ≤ sizeLine; decide, fun t3 n3 => ⟨by show 0 ≤ sizeLine; decide, fun l1 n4 => ⟨by show 1 ≤ sizeLine; decide, fun l2 n5 => fun d1 n6 => fun d2 n7 => ?_⟩⟩⟩⟩
      refine ⟨upd_same, [(.inr "a", .int 1)], rfl, by decide, by show 16 ≤ sizeLine; decide, fun l n8 => ?_⟩
      have s1 := same_new (o := .tup [.non]) n1
      have s2 := same_new (o := .tup []) n2
      have s3 := same_new (o := .tup [.ref t2]) n3
      have s4 := same_new (o := .lst []) n4
      have s5 := same_new (o := .lst [.str "a"]) n5
      have s6 := same_new (o := .dK []) n6
      have s7 := same_two (o := .dK []) (u := .dK (mergeK [] [(.inr "a", .int 1)])) n7
      have s8 := same_new (o := .lst [.non, .bl true, .bl false, .int (-1), .int (-7), .str "", .str "A", .str "a b", .str "abcdefghi", .str "a1",
        .ref t1, .ref t3, .ref l1, .ref l2, .ref d1, .ref d2]) n8
      have g2 := s1
      have g3 := g2.trans s2
      have g4 := g3.trans s3
      have g5 := g4.trans s4
      have g6 := g5.trans s5
      have g7 := g6.trans s6
      have h8 := s8
      have h7 := s7.trans h8
      have h6 := s6.trans h7
      have h5 := s5.trans h6
      have h4 := s4.trans h5
      have h3 := s3.trans h4
      have h2 := s2.trans h3
      obtain ⟨o, sd, c, hpp, _⟩ := hp.po
      have p2 := s1 _ _ hpp
      have p3 := s2 _ _ p2
      have p4 := s3 _ _ p3
      have p5 := s4 _ _ p4
      have p6 := s5 _ _ p5
      have p7 := s6 _ _ p6
      have p8 := s7 _ _ p7
      refine k' _ _ ⟨l, _, rfl, (ne_of_none p8 n8).symm, s1.trans h2, upd_same, ?_⟩
      refine .cons .non (.cons (.bl _) (.cons (.bl _) (.cons (.int _) (.cons (.int _) (.cons (.str _) (.cons (.str _) (.cons (.str _) (.cons (.str _) (.cons (.str _)
        (.cons (.tup (SqT.of (off_at (h2 _ _ upd_same) (hp.out n1))) (.cons .non .nil))
        (.cons (.tup (SqT.of (off_at (h4 _ _ upd_same) (hp.outS g3 n3))) (.cons (.tup (SqT.of (off_at (h3 _ _ upd_same) (hp.outS g2 n2))) .nil) .nil))
        (.cons (.lst (SqL.of (off_at (h5 _ _ upd_same) (hp.outS g4 n4))) .nil)
        (.cons (.lst (SqL.of (off_at (h6 _ _ upd_same) (hp.outS g5 n5))) (.cons (.str _) .nil))
        (.cons (.dic (kvs := []) (off_at (h7 _ _ upd_same) (hp.outS g6 n6)) rfl .nil)
        (.cons (.dic (kvs := [(.inr "a", .int 1)]) (off_at (h8 _ _ upd_same) (hp.outS g7 n7)) rfl (.cons (.int _) .nil)) .nil)))))))))))))))
    · rintro _ H1 ⟨l, xs, rfl, nl, s1, hl, hd⟩
      have hlen : xs.length = 16 := dd_len hd
      refine ⟨_, rfl, _, rfl, p, .ref l, xs, B, rfl, (hp.same s1).po, hB, .inl ⟨l, rfl, nl, SqL.of hl⟩, by omega, by omega, fun d v H2 hv b2 hp2 => ?_⟩
      have hp2 := (hp.same s1).but b2 hp2
      obtain ⟨dd, hm, hdd⟩ := dd_get hd hv
      refine k v dd H2 ((But.of s1).trans b2) hp2 (hdd.same b2.off) hm
end
end Toy
set_option Elab.async false
set_option linter.all false
set_option maxRecDepth 100000
set_option maxHeartbeats 8000000
namespace Toy
open PySem L2 Q RZ D7
theorem iteB2 {c : Bool} {A B : Prop} (h : c = false) (b : B) : if c = true then A else B := by
  rw [h, if_neg Bool.false_ne_true]
  exact b
/-! ### how great bent data is -/
structure Sz (n k : Nat) (d : PyData) : Prop where
  sm : Sm n k d
  tx : ∀ ds, d = .tuple ds → ds.length ≤ 40 ∧ ∀ e ∈ ds, ∀ es, e = .tuple es → es.length ≤ 40
theorem Sz.mono {n k n' k' : Nat} {d : PyData} (h : Sz n k d) (a : n ≤ n') (b : k ≤ k') : Sz n' k' d := ⟨h.sm.mono a b, h.tx⟩
theorem sz_tc {z : Str} (h : Tc z) : Sz 110 3 (.str z) := ⟨sm_tc h, (fun ds e => by cases e)⟩
theorem sz_nat {n : Nat} (h : n < 1000000000) : Sz 20 3 (.int (n : Int)) := ⟨sm_nat h, (fun ds e => by cases e)⟩
theorem sz_neg {n : Nat} (h : n < 100) : Sz 20 3 (.int (-(n : Int))) := ⟨sm_neg h, (fun ds e => by cases e)⟩
theorem sz_non : Sz 20 3 .none := ⟨⟨by decide +kernel, by decide +kernel, by decide +kernel⟩, (fun ds e => by cases e)⟩
theorem sz_bool (b : Bool) : Sz 20 3 (.bool b) := by
  refine ⟨?_, (fun ds e => by cases e)⟩
  cases b <;> exact ⟨by decide +kernel, by decide +kernel, by decide +kernel⟩
theorem sz_tuple {n k m : Nat} {xs : List PyData} (h : ∀ x ∈ xs, Sz n k x) (l : xs.length ≤ m) (hm : m ≤ 40 := by decide) : Sz (m * (n + 2) + 2) (k + 1) (.tuple xs) :=
  ⟨(sm_tuple fun x hx => (h x hx).sm).mono (by have := Nat.mul_le_mul_right (n + 2) l; omega) (Nat.le_refl _), (fun ds e => by
    injection e with e
    rw [← e]
    exact ⟨by omega, fun x hx es ex => ((h x hx).tx es ex).1⟩)⟩
theorem sz_list {n k m : Nat} {xs : List PyData} (h : ∀ x ∈ xs, Sz n k x) (l : xs.length ≤ m) : Sz (m * (n + 2) + 3) (k + 1) (.list xs) :=
  ⟨(sm_list fun x hx => (h x hx).sm).mono (by have := Nat.mul_le_mul_right (n + 2) l; omega) (Nat.le_refl _), (fun ds e => by cases e)⟩
def tupLen : PyData → Nat
  | .tuple ds => ds.length
  | _ => 0
def tupIn : PyData → Bool
  | .tuple ds => decide (ds.length ≤ 40) && ds.all fun e => decide (tupLen e ≤ 40)
  | _ => true
theorem sz_odd : ∀ d ∈ oddDs, Sz 60 3 d := by
  have sm : ∀ d ∈ oddDs, d.showable = true ∧ d.shown.length ≤ 60 ∧ d.depth ≤ 3 ∧ tupIn d = true := by decide +kernel
  exact fun d hd => ⟨⟨(sm d hd).1, (sm d hd).2.1, (sm d hd).2.2.1⟩, (fun ds e => by
    have := (sm d hd).2.2.2
    rw [e] at this
    have this : (decide (ds.length ≤ 40) && ds.all fun e => decide (tupLen e ≤ 40)) = true := this
    rw [Bool.and_eq_true, decide_eq_true_eq, List.all_eq_true] at this
    refine ⟨this.1, fun x hx es ex => ?_⟩
    have := of_decide_eq_true (this.2 x hx)
    rw [ex] at this
    exact this)⟩
/-- a slice of a tuple, new or the tuple itself -/
theorem slA {K : PySem.W.Frag} {H : Hp} {a : Addr} {xs : List V} {lo hi : Option Int} {Q : VK} (h : SqT K H a xs)
    (q : ∀ t H', Same H H' → SqT K H' t (cutV xs lo hi) → Q (.ref t) H') : rSlA K (.ref a) lo hi H Q := by
  refine ⟨a, xs, rfl, h, fun z => q a H (Same.refl H) ?_, fun z p np => q p _ (same_new np) (SqT.of upd_same)⟩
  unfold cutV
  rw [z.1, z.2, List.drop_zero, Nat.sub_zero, List.take_length]
  exact h
theorem ifE {c : Bool} {A B : Prop} (h1 : c = true → A) (h2 : c = false → B) : if c = true then A else B := by
  cases c
  · rw [if_neg Bool.false_ne_true]
    exact h2 rfl
  · rw [if_pos rfl]
    exact h1 rfl
theorem ixT {K : PySem.W.Frag} {H : Hp} {a : Addr} {xs : List V} (h : SqT K H a xs) (i : Nat) {v : V} {Q : VK} (e : xs[i]? = some v) (q : Q v H) : rIx K (.ref a) (.int (i : Int)) H Q :=
  .inr (.inl ⟨a, _, (i : Int), v, rfl, rfl, h, atI_nat e, q⟩)
end Toy
set_option Elab.async false
set_option linter.all false
set_option maxRecDepth 100000
set_option maxHeartbeats 8000000
namespace Toy
open PySem L2 Q RZ D7
/-! ### bent parts -/
/-- what is bent: texts and whole numbers, tuples of them, tuples of those -/
def Wm : Nat → PyData → Prop
  | 0, d => (∃ z, d = .str z ∧ Low z ∧ z.length ≤ 8) ∨ ∃ x : Nat, d = .int (x : Int) ∧ 1 ≤ x ∧ x ≤ 90
  | m + 1, d => ∃ ds, d = .tuple ds ∧ ds.length ≤ 16 ∧ ∀ e ∈ ds, Wm m e
def ww : Nat → Nat
  | 0 => 110
  | m + 1 => 16 * (ww m + 2) + 2
def rr : Nat → Nat
  | 0 => 200
  | m + 1 => 33 * (rr m + 2) + 3
theorem ww_rr : ∀ m, 110 ≤ ww m ∧ ww m ≤ rr m
  | 0 => ⟨Nat.le_refl _, by decide⟩
  | m + 1 => by
    obtain ⟨h1, h2⟩ := ww_rr m
    unfold ww rr
    omega
theorem wm_rs : ∀ {m : Nat} {d : PyData}, Wm m d → Sz (ww m) (m + 3) d
  | 0, d, h => by
    rcases h with ⟨z, rfl, lo, l⟩ | ⟨x, rfl, _, l⟩
    · exact sz_tc ⟨by omega, fun c hc => by have := (lo c hc).2; omega⟩
    · exact (sz_nat (by omega)).mono (by unfold ww; omega) (Nat.le_refl _)
  | m + 1, d, h => by
    obtain ⟨ds, rfl, l, al⟩ := h
    exact sz_tuple (fun e he => wm_rs (al e he)) l
/-- data, whatever the pot -/
def OkV (K : PySem.W.Frag) (Z : Addr → Bool) (p : Addr) (R : PyData → Prop) (H : Hp) (v : V) : Prop := ∃ d, Dd K (off Z H p) v d ∧ R d
def OkA (K : PySem.W.Frag) (Z : Addr → Bool) (p : Addr) (R : PyData → Prop) (H : Hp) (xs : List V) : Prop := ∃ ds, DdAll K (off Z H p) xs ds ∧ ∀ d ∈ ds, R d
theorem off_mono {Z : Addr → Bool} {p : Addr} {H H' : Hp} (s : Same H H') : Same (off Z H p) (off Z H' p) := (But.of s).off
section
variable {K : PySem.W.Frag} {Z : Addr → Bool} {p : Addr} {R R' : PyData → Prop} {H H' H0 : Hp} {B : Nat}
theorem OkV.same {v : V} (h : OkV K Z p R H v) (s : Same H H') : OkV K Z p R H' v := let ⟨d, h1, h2⟩ := h; ⟨d, h1.same (off_mono s), h2⟩
theorem OkV.but {v : V} (h : OkV K Z p R H v) (s : But p H H') : OkV K Z p R H' v := let ⟨d, h1, h2⟩ := h; ⟨d, h1.same s.off, h2⟩
theorem OkV.imp {v : V} (h : OkV K Z p R H v) (f : ∀ d, R d → R' d) : OkV K Z p R' H v := let ⟨d, h1, h2⟩ := h; ⟨d, h1, f d h2⟩
theorem OkA.same {xs : List V} (h : OkA K Z p R H xs) (s : Same H H') : OkA K Z p R H' xs := let ⟨d, h1, h2⟩ := h; ⟨d, DdAll.same (off_mono s) h1, h2⟩
theorem OkA.nil : OkA K Z p R H [] := ⟨[], .nil, fun _ h => nomatch h⟩
theorem OkA.cons {v : V} {xs : List V} (h : OkV K Z p R H v) (t : OkA K Z p R H xs) : OkA K Z p R H (v :: xs) := by
  obtain ⟨d, h1, h2⟩ := h
  obtain ⟨ds, t1, t2⟩ := t
  exact ⟨d :: ds, .cons h1 t1, fun e he => by
    rcases List.mem_cons.mp he with rfl | he
    · exact h2
    · exact t2 e he⟩
theorem dd_app : ∀ {xs ys : List V} {ds es : List PyData}, DdAll K H xs ds → DdAll K H ys es → DdAll K H (xs ++ ys) (ds ++ es)
  | _, _, _, _, .nil, h => h
  | _, _, _, _, .cons a t, h => .cons a (dd_app t h)
theorem OkA.app {xs ys : List V} (h : OkA K Z p R H xs) (t : OkA K Z p R H ys) : OkA K Z p R H (xs ++ ys) := by
  obtain ⟨ds, h1, h2⟩ := h
  obtain ⟨es, t1, t2⟩ := t
  refine ⟨ds ++ es, dd_app h1 t1, fun e he => ?_⟩
  rcases List.mem_append.mp he with he | he
  · exact h2 e he
  · exact t2 e he
theorem OkA.get {xs : List V} (h : OkA K Z p R H xs) {i : Nat} {v : V} (e : xs[i]? = some v) : OkV K Z p R H v := by
  obtain ⟨ds, h1, h2⟩ := h
  obtain ⟨d, m, hd⟩ := dd_get h1 e
  exact ⟨d, hd, h2 d m⟩
theorem dd_drop : ∀ {xs : List V} {ds : List PyData} (i : Nat), DdAll K H xs ds → DdAll K H (xs.drop i) (ds.drop i)
  | _, _, 0, h => h
  | _, _, i + 1, .nil => .nil
  | _, _, i + 1, .cons _ t => dd_drop i t
theorem dd_take : ∀ {xs : List V} {ds : List PyData} (i : Nat), DdAll K H xs ds → DdAll K H (xs.take i) (ds.take i)
  | _, _, 0, _ => .nil
  | _, _, i + 1, .nil => .nil
  | _, _, i + 1, .cons a t => .cons a (dd_take i t)
theorem sqT_off {a : Addr} {xs : List V} (h : SqT K H a xs) (po : PotZ Z H p B) : SqT K (off Z H p) a xs := by
  have ou : ∀ o, H a = some o → (∀ xs, o ≠ .lst xs) → (∀ k, o ≠ .dK k) → ¬(a = p ∨ Z a = true) := fun o e n1 n2 z => by
    have lk : Lk H a := by
      by_cases g : a = p
      · obtain ⟨o', s, c, hp, _⟩ := po.po
        rw [g]
        exact .inl ⟨_, hp⟩
      · rcases z with z | z
        · exact absurd z g
        · exact po.tr a z g
    rcases lk with ⟨x, h⟩ | ⟨x, h⟩
    · rw [h] at e
      injection e with e
      exact n1 _ e.symm
    · rw [h] at e
      injection e with e
      exact n2 _ e.symm
  rcases h with (h | ⟨ob, h⟩) | h
  · exact .inl (.inl (off_at h (ou _ h (fun _ z => by cases z) fun _ z => by cases z)))
  · exact .inl (.inr ⟨ob, off_at h (ou _ h (fun _ z => by cases z) fun _ z => by cases z)⟩)
  · exact .inr h
theorem pot_ne {a : Addr} (n : H a = none) (po : Pot H p B) : a ≠ p := fun z => by
  obtain ⟨o, s, c, hp, _⟩ := po
  rw [z, hp] at n
  cases n
theorem pot_neZ {a : Addr} (n : H a = none) (po : PotZ Z H p B) : a ≠ p := fun z => po.out n (.inl z)
/-- a tuple of at most n items -/
def Tp (K : PySem.W.Frag) (Z : Addr → Bool) (p : Addr) (R : PyData → Prop) (n : Nat) (H : Hp) (v : V) : Prop := ∃ a xs, v = .ref a ∧ SqT K H a xs ∧ OkA K Z p R H xs ∧ xs.length ≤ n
theorem Tp.same {n : Nat} {v : V} (h : Tp K Z p R n H v) (s : Same H H') : Tp K Z p R n H' v := let ⟨a, xs, e, h1, h2, h3⟩ := h; ⟨a, xs, e, SqT.same s h1, h2.same s, h3⟩
theorem Tp.but {n : Nat} {v : V} (h : Tp K Z p R n H v) (po : PotZ Z H p B) (b : But p H H') : Tp K Z p R n H' v :=
  let ⟨a, xs, e, h1, ⟨ds, d1, d2⟩, h3⟩ := h; ⟨a, xs, e, SqT.same (off_same Z H' p) (SqT.same b.off (sqT_off h1 po)), ⟨ds, DdAll.same b.off d1, d2⟩, h3⟩
theorem OkA.but {xs : List V} (h : OkA K Z p R H xs) (b : But p H H') : OkA K Z p R H' xs := let ⟨d, h1, h2⟩ := h; ⟨d, DdAll.same b.off h1, h2⟩
theorem dd_rev : ∀ {xs : List V} {ds : List PyData}, DdAll K H xs ds → DdAll K H xs.reverse ds.reverse
  | _, _, .nil => .nil
  | _, _, .cons a t => by
    rw [List.reverse_cons, List.reverse_cons]
    exact dd_app (dd_rev t) (.cons a .nil)
theorem OkA.rev {xs : List V} (h : OkA K Z p R H xs) : OkA K Z p R H xs.reverse := let ⟨d, h1, h2⟩ := h; ⟨_, dd_rev h1, fun e he => h2 e (List.mem_reverse.mp he)⟩
theorem Tp.imp {n : Nat} {v : V} (h : Tp K Z p R n H v) (f : ∀ d, R d → R' d) : Tp K Z p R' n H v := let ⟨a, xs, e, h1, ⟨ds, d1, d2⟩, h3⟩ := h; ⟨a, xs, e, h1, ⟨ds, d1, fun d hd => f d (d2 d hd)⟩, h3⟩
theorem Tp.ok {n : Nat} {v : V} (h : Tp K Z p R n H v) (po : PotZ Z H p B) (f : ∀ ds : List PyData, (∀ d ∈ ds, R d) → ds.length ≤ n → R' (.tuple ds)) : OkV K Z p R' H v := by
  obtain ⟨a, xs, rfl, h1, ⟨ds, d1, d2⟩, h3⟩ := h
  exact ⟨_, .tup (sqT_off h1 po) d1, f ds d2 (by rw [← dd_len d1]; exact h3)⟩
theorem OkA.cut {xs : List V} (h : OkA K Z p R H xs) (lo hi : Option Int) : OkA K Z p R H (cutV xs lo hi) := by
  obtain ⟨ds, d1, d2⟩ := h
  unfold cutV
  exact ⟨_, dd_take _ (dd_drop _ d1), fun d hd => d2 d (List.mem_of_mem_drop (List.mem_of_mem_take hd))⟩
theorem cut_len (xs : List V) (lo hi : Option Int) : (cutV xs lo hi).length ≤ xs.length := by
  unfold cutV
  rw [List.length_take, List.length_drop]
  omega
/-- t[lo:hi] -/
theorem Tp.slice {n : Nat} {v : V} {lo hi : Option Int} {Q : VK} (h : Tp K Z p R n H v) (q : ∀ u H', Same H H' → Tp K Z p R n H' u → Q u H') : rSlA K v lo hi H Q := by
  obtain ⟨a, xs, rfl, h1, h2, h3⟩ := h
  exact slA h1 fun t H' s ht => q _ H' s ⟨t, _, rfl, ht, (h2.cut lo hi).same s, Nat.le_trans (cut_len xs lo hi) h3⟩
/-- t + u -/
theorem Tp.cat {n m : Nat} {v u : V} {Q : VK} (h : Tp K Z p R n H v) (g : Tp K Z p R m H u) (l : n + m ≤ 1000) (q : ∀ t H', Same H H' → Tp K Z p R (n + m) H' t → Q t H') : rCatA K v u H Q := by
  obtain ⟨a, xs, rfl, h1, h2, h3⟩ := h
  obtain ⟨b, ys, rfl, g1, g2, g3⟩ := g
  refine ⟨a, b, xs, ys, rfl, rfl, h1, g1, by rw [sizeLine_eq]; omega, fun e => ?_, fun _ e => ?_, fun _ _ t nt => ?_⟩
  · exact q _ H (Same.refl H) ⟨b, ys, rfl, g1, g2, by omega⟩
  · exact q _ H (Same.refl H) ⟨a, xs, rfl, h1, h2, by omega⟩
  · have s := same_new (o := .tup (xs ++ ys)) nt
    exact q _ _ s ⟨t, _, rfl, SqT.of upd_same, (h2.app g2).same s, by rw [List.length_append]; omega⟩
/-- (x,) -/
theorem Tp.one {v : V} {Q : VK} (h : OkV K Z p R H v) (q : ∀ t H', Same H H' → Tp K Z p R 1 H' t → Q t H') : ∀ t, H t = none → Q (.ref t) (upd H t (.tup [v])) := fun t nt =>
  q _ _ (same_new nt) ⟨t, _, rfl, SqT.of upd_same, (OkA.cons h .nil).same (same_new nt), Nat.le_refl _⟩
theorem Tp.new {v : V} (h : OkV K Z p R H v) {t : Addr} (nt : H t = none) : Tp K Z p R 1 (upd H t (.tup [v])) (.ref t) :=
  ⟨t, _, rfl, SqT.of upd_same, (OkA.cons h .nil).same (same_new nt), Nat.le_refl _⟩
/-- a new list -/
theorem lst_ok {xs : List V} (h : OkA K Z p R H xs) {n : Nat} (l : xs.length ≤ n) (f : ∀ ds : List PyData, (∀ d ∈ ds, R d) → ds.length ≤ n → R' (.list ds)) {a : Addr} (na : H a = none) (po : PotZ Z H p B) : OkV K Z p R' (upd H a (.lst xs)) (.ref a) := by
  obtain ⟨ds, d1, d2⟩ := h
  exact ⟨_, .lst (SqL.of (off_at upd_same (po.out na))) (DdAll.same (off_mono (same_new na)) d1), f ds d2 (by rw [← dd_len d1]; exact l)⟩
/-- one more item of a list that is written out -/
theorem itemA {te : TE} {ta : TA} {σ : L2.St} {Q : List V → Hp → Prop} (h : ∀ Q' : VK, (∀ v H1, Same H H1 → OkV K Z p R H1 v → Q' v H1) → te σ H Q')
    (k : ∀ v H1, Same H H1 → OkV K Z p R H1 v → ta σ H1 fun ys H2 => Q (v :: ys) H2) : tCons te ta σ H Q := h _ fun v H1 s o => k v H1 s o
end
end Toy
set_option Elab.async false
set_option linter.all false
set_option maxRecDepth 100000
set_option maxHeartbeats 8000000
namespace Toy
open PySem L2 Q RZ D7
theorem tc_app {x y : Str} {n m : Nat} (h : x.length ≤ n ∧ ∀ c ∈ x.cps.toList, c < 128) (g : y.length ≤ m ∧ ∀ c ∈ y.cps.toList, c < 128) (l : n + m ≤ 10) : Tc (x ++ y) := by
  refine ⟨by rw [strLen_append]; omega, fun c hc => ?_⟩
  have e : (x ++ y).cps.toList = x.cps.toList ++ y.cps.toList := TL.tl_append x y
  rw [e] at hc
  rcases List.mem_append.mp hc with hc | hc
  · exact h.2 c hc
  · exact g.2 c hc
theorem tc_cut {x : Str} (h : Tc x) (lo hi : Option Int) : Tc (cutS x lo hi) := by
  have e : (cutS x lo hi).cps.toList = (x.cps.toList.drop (HT.sIx x.length 0 lo)).take (HT.sIx x.length x.length hi - HT.sIx x.length 0 lo) := by
    unfold cutS
    rw [List.toList_toArray]
  refine ⟨?_, fun c hc => ?_⟩
  · show (cutS x lo hi).cps.size ≤ 10
    rw [← Array.length_toList, e, List.length_take, List.length_drop, Array.length_toList]
    have : x.cps.size ≤ 10 := h.1
    omega
  · rw [e] at hc
    exact h.2 c (List.mem_of_mem_drop (List.mem_of_mem_take hc))
theorem tc_up {x : Str} (h : Tc x) : Tc (Txt.upper x) := by
  rw [PyProof.Rows.upper_ascii h.2]
  refine ⟨?_, fun c hc => ?_⟩
  · show (x.cps.map PyProof.Rows.up1).size ≤ 10
    rw [Array.size_map]
    exact h.1
  · have hc2 : c ∈ (x.cps.map PyProof.Rows.up1).toList := hc
    rw [Array.toList_map] at hc2
    obtain ⟨y, hy, rfl⟩ := List.mem_map.mp hc2
    have := h.2 y hy
    unfold PyProof.Rows.up1
    split <;> omega
theorem tc_int : ∀ x : Nat, x ≤ 90 → Tc (Str.ofString (toString (x : Int))) := by
  have q : ∀ m : _root_.Fin 91, (Str.ofString (toString ((m.val : Nat) : Int))).length ≤ 10 ∧ (Str.ofString (toString ((m.val : Nat) : Int))).cps.toList.all (fun c => decide (c < 128)) = true := by decide +kernel
  intro x hx
  obtain ⟨h1, h2⟩ := q ⟨x, by omega⟩
  exact ⟨h1, fun c hc => of_decide_eq_true (List.all_eq_true.mp h2 c hc)⟩
abbrev RR (m : Nat) (d : PyData) : Prop := Sz (rr m) (m + 4) d
/-- _law_bent_part(pot, value) -/
def spBP (K : PySem.W.Frag) (m : Nat) : Sp := fun vs H Q _ => ∃ (Z : Addr → Bool) (p : Addr) (v : V) (B : Nat), vs = [.ref p, v] ∧ PotZ Z H p B ∧ B < 900000 ∧ OkV K Z p (Wm m) H v ∧
  ∀ v' H', But p H H' → PotZ Z H' p (B + 3) → OkV K Z p (RR m) H' v' → Q v' H'
section
variable {P : Program} {w : World} {K : PySem.W.Frag} {mg : Str → Option Value} {base : Heap} {ca ia fa : Nat → Addr} {fd fi : Nat → FuncData}
theorem ok_bp (T : Txt K mg ca ia fa fd fi) (m : Nat) : FnOk P w K mg base CX0 4 (fa 66) (fd 66) ["_law_pot_here", "_law_value"] (spBP K m) := by
  have G_l_take := ok_take (P := P) (w := w) (base := base) T
  have G_l_of := ok_of (P := P) (w := w) (base := base) T
  have G_l_odd := ok_odd (P := P) (w := w) (base := base) T
  refine T.F_l_bent_part.ok sc_l_bent_part (fun vs H Q E h => ?_) (fun cdv A outer s H vs Q E hr h => ?_)
  · obtain ⟨Z, p, v, B, rfl, _⟩ := h
    rfl
  · obtain ⟨Z, p, v, B, rfl, hp, hB, ⟨d, hd, hm⟩, k⟩ := h
    refine ⟨_, (pss_cons (ps_if (pt_val (pe_callB call_isA (by rfl) T.n_isinstance (by decide +kernel) (pa_cons (pv 1) (pa_cons (pe_bltn (v := .ty "tuple") (by rfl) T.n_tuple (by decide +kernel) rfl) pa_nil)))) (pss_cons (ps_set (i := 2) sc_l_bent_part.nd rfl (Or.inl rfl) (pe_call G_l_take (hr.mono (by decide)) rfl T.g_l_take T.k_l_take T.b_l_take .nil pass0 (pa_cons (pv 0) (pa_cons (pe_op op_add (pe_callB call_len (by rfl) T.n_len (by decide +kernel) (pa_cons (pv 1) pa_nil)) pe_int) pa_nil))))
      (pss_cons (ps_set (i := 3) sc_l_bent_part.nd rfl (Or.inl rfl) (pe_lst (pa_cons (pe_callTy call_list_of (by rfl) T.n_list (by decide +kernel) (pa_cons (pv 1) pa_nil)) (pa_cons (pe_op op_catA (pe_slice (SlR.or sl_tupA sl_str) (pv 1) po_none (po_some (pv 2))) (pe_slice (SlR.or sl_tupA sl_str) (pv 1) (po_some (pe_op op_add (pv 2) pe_int)) po_none)) (pa_cons (pe_op op_catA (pe_slice (SlR.or sl_tupA sl_str) (pv 1) po_none (po_some (pv 2))) (pe_slice (SlR.or sl_tupA sl_str) (pv 1) (po_some (pe_op op_sub (pv 2) pe_int)) po_none)) (pa_cons (pe_revT (pv 1)) (pa_cons (pe_op op_catA (pv 1) (pe_tup (pa_cons pe_int pa_nil))) pa_nil)))))))
      (pss_one (ps_ret (pe_call G_l_of (hr.mono (by decide)) rfl T.g_l_of T.k_l_of T.b_l_of .nil pass0 (pa_cons (pv 0) (pa_cons (pe_op op_cat (pv 3) (pe_lst (pa_cons pe_non (pa_cons (pe_tup (pa_cons (pv 1) pa_nil)) (pa_cons (pe_slice (SlR.or sl_tupA sl_str) (pv 1) po_none (po_some (pv 2))) (pa_cons (pe_op op_catA (pe_op op_catA (pe_slice (SlR.or sl_tupA sl_str) (pv 1) po_none (po_some (pv 2))) (pe_tup (pa_cons (pe_call G_l_odd (hr.mono (by decide)) rfl T.g_l_odd T.k_l_odd T.b_l_odd .nil pass0 (pa_cons (pv 0) pa_nil)) pa_nil))) (pe_slice (SlR.or sl_tupA sl_str) (pv 1) (po_some (pv 2)) po_none)) pa_nil)))))) pa_nil))))))) pss_nil)
      (pss_cons (ps_if (PW.pt (pw_or (pt_val (pe_callB call_isA (by rfl) T.n_isinstance (by decide +kernel) (pa_cons (pv 1) (pa_cons (pe_bltn (v := .ty "bool") (by rfl) T.n_bool (by decide +kernel) rfl) pa_nil)))) (pw_or1 (pt_not (pt_val (pe_callB call_isiT (by rfl) T.n_isinstance (by decide +kernel) (pa_cons (pv 1) (pa_cons (pe_tup (pa_cons (pe_bltn (v := .ty "int") (by rfl) T.n_int (by decide +kernel) rfl) (pa_cons (pe_bltn (v := .ty "str") (by rfl) T.n_str (by decide +kernel) rfl) pa_nil))) pa_nil)))))))) (pss_one (ps_ret (pe_call G_l_odd (hr.mono (by decide)) rfl T.g_l_odd T.k_l_odd T.b_l_odd .nil pass0 (pa_cons (pv 0) pa_nil)))) pss_nil)
      (pss_cons (ps_if (pt_val (pe_callB call_isA (by rfl) T.n_isinstance (by decide +kernel) (pa_cons (pv 1) (pa_cons (pe_bltn (v := .ty "int") (by rfl) T.n_int (by decide +kernel) rfl) pa_nil)))) (pss_one (ps_ret (pe_call G_l_of (hr.mono (by decide)) rfl T.g_l_of T.k_l_of T.b_l_of .nil pass0 (pa_cons (pv 0) (pa_cons (pe_lst (pa_cons (pe_op op_add (pv 1) pe_int) (pa_cons (pe_op op_sub (pv 1) pe_int) (pa_cons (pe_un un_neg (pv 1)) (pa_cons (pe_cmpR op_eq (pv 1) pe_int (nomark _)) (pa_cons (pe_callTy call_str_int (by rfl) T.n_str (by decide +kernel) (pa_cons (pv 1) pa_nil)) (pa_cons (pe_tup (pa_cons (pv 1) pa_nil)) (pa_cons pe_non (pa_cons pe_int (pa_cons (pe_op op_pw pe_int pe_int) pa_nil)))))))))) pa_nil))))) pss_nil)
      (pss_one (ps_ret (pe_call G_l_of (hr.mono (by decide)) rfl T.g_l_of T.k_l_of T.b_l_of .nil pass0 (pa_cons (pv 0) (pa_cons (pe_lst (pa_cons (pe_op op_add_str (pv 1) pe_str) (pa_cons (pe_slice (SlR.or sl_tupA sl_str) (pv 1) po_none (po_some (pe_un un_neg pe_int))) (pa_cons (pe_slice (SlR.or sl_tupA sl_str) (pv 1) (po_some pe_int) po_none) (pa_cons (pe_upper (pv 1)) (pa_cons (pe_tup (pa_cons (pv 1) pa_nil)) (pa_cons (pe_lst (pa_cons (pv 1) pa_nil)) (pa_cons pe_non (pa_cons (pe_op op_add_str pe_str (pv 1)) pa_nil))))))))) pa_nil)))))))), ?_⟩
    have hd2 := hd.same (off_same Z H p)
    obtain ⟨t, ty, e1, e2, e3, e4⟩ := hd2.kits
    refine ⟨_, rfl, .inl ⟨_, _, _, _, _, rfl, .ty _, ty, e4, _, rfl, ?_⟩⟩
    cases m with
    | zero =>
      have sq : sizeLine = 16777216 := sizeLine_eq
      rcases hm with ⟨z, rfl, lo, l8⟩ | ⟨x, rfl, x1, x90⟩
      · cases hd
        refine iteB2 rfl (nxt ?_)
        refine ⟨_, rfl, .inl ⟨_, _, _, _, _, rfl, .ty _, ty, e2, _, rfl, iteB2 rfl ?_⟩⟩
        refine ⟨_, rfl, by show 2 ≤ sizeLine; decide, fun tp ntp => ⟨_, tp, _, .type "str", _, true, rfl, upd_same, .cons (.ty _) (.cons (.ty _) .nil), .base (.str z), rfl, _, rfl, iteB2 rfl (nxt ?_)⟩⟩
        have s1 := same_new (o := .tup [.ty "int", .ty "str"]) ntp
        have p1 := hp.same s1
        generalize upd H tp (.tup [.ty "int", .ty "str"]) = H1 at s1 p1 ⊢
        refine ⟨_, rfl, .inl ⟨_, _, _, _, _, rfl, .ty _, .base (.str z), rfl, _, rfl, iteB2 rfl (nxt ?_)⟩⟩
        have tz : Tc z := ⟨by omega, fun c hc => by have := (lo c hc).2; omega⟩
        have tz8 : z.length ≤ 8 ∧ ∀ c ∈ z.cps.toList, c < 128 := ⟨l8, tz.2⟩
        have tx : ("x" : Str).length ≤ 1 ∧ ∀ c ∈ ("x" : Str).cps.toList, c < 128 := by decide +kernel
        have ok : ∀ {G : Hp} {y : Str}, Tc y → OkV K Z p (RR 0) G (.str y) := fun {G y} h => ⟨_, .str y, (sz_tc h).mono (by decide) (by decide)⟩
        have okz : ∀ {G : Hp}, OkV K Z p (fun d => Sz 110 3 d) G (.str z) := fun {G} => ⟨_, .str z, sz_tc tz⟩
        refine ⟨_, rfl, ?_⟩
        refine lst0 ?_
        refine itemA (K := K) (Z := Z) (p := p) (R := RR 0) (fun Q' q => ⟨_, rfl, z, _, rfl, rfl, by show z.length + 1 ≤ sizeLine; omega, q _ _ (Same.refl _) (ok (tc_app tz8 tx (by decide)))⟩) fun v1 G1 s2 o1 => ?_
        refine itemA (K := K) (Z := Z) (p := p) (R := RR 0) (fun Q' q => ⟨_, rfl, 1, rfl, _, rfl, .inr ⟨z, rfl, by omega, q _ _ (Same.refl _) (ok (tc_cut tz _ _))⟩⟩) fun v2 G2 s3 o2 => ?_
        refine itemA (K := K) (Z := Z) (p := p) (R := RR 0) (fun Q' q => ⟨_, rfl, _, rfl, .inr ⟨z, rfl, by omega, q _ _ (Same.refl _) (ok (tc_cut tz _ _))⟩⟩) fun v3 G3 s4 o3 => ?_
        refine itemA (K := K) (Z := Z) (p := p) (R := RR 0) (fun Q' q => ⟨_, rfl, ⟨z, rfl⟩, z, rfl, rfl, by omega, q _ _ (Same.refl _) (ok (tc_up tz))⟩) fun v4 G4 s5 o4 => ?_
        have p4 := (((p1.same s2).same s3).same s4).same s5
        refine itemA (K := K) (Z := Z) (p := p) (R := RR 0) (fun Q' q => ⟨_, rfl, by show 1 ≤ sizeLine; decide, fun t nt => q _ _ (same_new nt) ((Tp.new okz nt).ok (p4.same (same_new nt)) fun es h l => (sz_tuple h l).mono (by decide) (by decide))⟩) fun v5 G5 s6 o5 => ?_
        have p5 := p4.same s6
        refine itemA (K := K) (Z := Z) (p := p) (R := RR 0) (fun Q' q => ⟨_, rfl, by show 1 ≤ sizeLine; decide, fun t nt => q _ _ (same_new nt) (lst_ok (OkA.cons okz .nil) (Nat.le_refl 1) (fun es h l => (sz_list h l).mono (by decide) (by decide)) nt p5)⟩) fun v6 G6 s7 o6 => ?_
        refine itemA (K := K) (Z := Z) (p := p) (R := RR 0) (fun Q' q => q _ _ (Same.refl _) ⟨_, .non, sz_non.mono (by decide) (by decide)⟩) fun v7 G7 s8 o7 => ?_
        refine itemA (K := K) (Z := Z) (p := p) (R := RR 0) (fun Q' q => ⟨_, rfl, _, z, rfl, rfl, by show 1 + z.length ≤ sizeLine; omega, q _ _ (Same.refl _) (ok (tc_app tx tz8 (by decide)))⟩) fun v8 G8 s9 o8 => ?_
        have p8 := ((p5.same s7).same s8).same s9
        refine ⟨by show 8 ≤ sizeLine; decide, fun l nl => ?_⟩
        have s10 := same_new (o := .lst [v1, v2, v3, v4, v5, v6, v7, v8]) nl
        have all : OkA K Z p (RR 0) G8 [v1, v2, v3, v4, v5, v6, v7, v8] := .cons (((((((o1.same s3).same s4).same s5).same s6).same s7).same s8).same s9) (.cons ((((((o2.same s4).same s5).same s6).same s7).same s8).same s9) (.cons (((((o3.same s5).same s6).same s7).same s8).same s9)
          (.cons ((((o4.same s6).same s7).same s8).same s9) (.cons (((o5.same s7).same s8).same s9) (.cons ((o6.same s8).same s9) (.cons (o7.same s9) (.cons o8 .nil)))))))
        refine ⟨p, _, [v1, v2, v3, v4, v5, v6, v7, v8], B, rfl, (p8.same s10).po, by omega, .inl ⟨l, rfl, pot_neZ nl p8, SqL.of upd_same⟩, by show 0 < 8; decide, by show 8 < 1073741824; decide, fun i v H' e b9 p9 => ?_⟩
        have p9 := (p8.same s10).but b9 p9
        have ss := ((((((((s1.trans s2).trans s3).trans s4).trans s5).trans s6).trans s7).trans s8).trans s9).trans s10
        exact k v H' ((But.of ss).trans b9) (p9.mono (by omega)) (((all.same s10).but b9).get e)
      · cases hd
        refine iteB2 rfl (nxt ?_)
        refine ⟨_, rfl, .inl ⟨_, _, _, _, _, rfl, .ty _, ty, e2, _, rfl, iteB2 rfl ?_⟩⟩
        refine ⟨_, rfl, by show 2 ≤ sizeLine; decide, fun tp ntp => ⟨_, tp, _, .type "int", _, true, rfl, upd_same, .cons (.ty _) (.cons (.ty _) .nil), .base (.int _), rfl, _, rfl, iteB2 rfl (nxt ?_)⟩⟩
        have s1 := same_new (o := .tup [.ty "int", .ty "str"]) ntp
        have p1 := hp.same s1
        generalize upd H tp (.tup [.ty "int", .ty "str"]) = H1 at s1 p1 ⊢
        refine ⟨_, rfl, .inl ⟨_, _, _, _, _, rfl, .ty _, .base (.int _), rfl, _, rfl, iteB rfl ?_⟩⟩
        have okn : ∀ {G : Hp} {n : Nat} {i : Int}, i = (n : Int) → n < 1000000000 → OkV K Z p (RR 0) G (.int i) := fun {G n i} e h => ⟨_, .int _, by rw [e]; exact (sz_nat h).mono (by decide) (by decide)⟩
        have okx : ∀ {G : Hp}, OkV K Z p (fun d => Sz 20 3 d) G (.int (x : Int)) := fun {G} => ⟨_, .int _, sz_nat (by omega)⟩
        refine ⟨_, rfl, ?_⟩
        refine lst0 ?_
        refine itemA (K := K) (Z := Z) (p := p) (R := RR 0) (fun Q' q => ⟨_, rfl, _, _, rfl, rfl, q _ _ (Same.refl _) (okn (n := x + 1) rfl (by omega))⟩) fun v1 G1 s2 o1 => ?_
        refine itemA (K := K) (Z := Z) (p := p) (R := RR 0) (fun Q' q => ⟨_, rfl, _, _, rfl, rfl, q _ _ (Same.refl _) (okn (n := x - 1) (by omega) (by omega))⟩) fun v2 G2 s3 o2 => ?_
        refine itemA (K := K) (Z := Z) (p := p) (R := RR 0) (fun Q' q => ⟨_, rfl, _, rfl, q _ _ (Same.refl _) ⟨_, .int _, (sz_neg (n := x) (by omega)).mono (by decide) (by decide)⟩⟩) fun v3 G3 s4 o3 => ?_
        refine itemA (K := K) (Z := Z) (p := p) (R := RR 0) (fun Q' q => ⟨_, rfl, rfl, q _ _ (Same.refl _) ⟨_, .bl _, (sz_bool _).mono (by decide) (by decide)⟩⟩) fun v4 G4 s5 o4 => ?_
        refine itemA (K := K) (Z := Z) (p := p) (R := RR 0) (fun Q' q => ⟨_, rfl, _, rfl, ?_, q _ _ (Same.refl _) ⟨_, .str _, (sz_tc (tc_int x x90)).mono (by decide) (by decide)⟩⟩) fun v5 G5 s6 o5 => ?_
        · rw [Int.natAbs_natCast]
          exact (Nat.log2_lt (by omega)).mpr (Nat.lt_of_le_of_lt x90 (by decide +kernel))
        have p5 := ((((p1.same s2).same s3).same s4).same s5).same s6
        refine itemA (K := K) (Z := Z) (p := p) (R := RR 0) (fun Q' q => ⟨_, rfl, by show 1 ≤ sizeLine; decide, fun t nt => q _ _ (same_new nt) ((Tp.new okx nt).ok (p5.same (same_new nt)) fun es h l => (sz_tuple h l).mono (by decide) (by decide))⟩) fun v6 G6 s7 o6 => ?_
        refine itemA (K := K) (Z := Z) (p := p) (R := RR 0) (fun Q' q => q _ _ (Same.refl _) ⟨_, .non, sz_non.mono (by decide) (by decide)⟩) fun v7 G7 s8 o7 => ?_
        refine itemA (K := K) (Z := Z) (p := p) (R := RR 0) (fun Q' q => q _ _ (Same.refl _) (okn (n := 0) rfl (by decide))) fun v8 G8 s9 o8 => ?_
        refine itemA (K := K) (Z := Z) (p := p) (R := RR 0) (fun Q' q => ⟨_, _, rfl, rfl, ?_, q _ _ (Same.refl _) (okn (n := 100000000) (by decide) (by decide))⟩) fun v9 G9 s10 o9 => ?_
        · exact ⟨by decide, 4, by decide, by decide⟩
        have p9 := (((p5.same s7).same s8).same s9).same s10
        refine ⟨by show 9 ≤ sizeLine; decide, fun l nl => ?_⟩
        have s11 := same_new (o := .lst [v1, v2, v3, v4, v5, v6, v7, v8, v9]) nl
        have all : OkA K Z p (RR 0) G9 [v1, v2, v3, v4, v5, v6, v7, v8, v9] := .cons ((((((((o1.same s3).same s4).same s5).same s6).same s7).same s8).same s9).same s10) (.cons (((((((o2.same s4).same s5).same s6).same s7).same s8).same s9).same s10) (.cons ((((((o3.same s5).same s6).same s7).same s8).same s9).same s10)
          (.cons (((((o4.same s6).same s7).same s8).same s9).same s10) (.cons ((((o5.same s7).same s8).same s9).same s10) (.cons (((o6.same s8).same s9).same s10) (.cons ((o7.same s9).same s10) (.cons (o8.same s10) (.cons o9 .nil))))))))
        refine ⟨p, _, [v1, v2, v3, v4, v5, v6, v7, v8, v9], B, rfl, (p9.same s11).po, by omega, .inl ⟨l, rfl, pot_neZ nl p9, SqL.of upd_same⟩, by show 0 < 9; decide, by show 9 < 1073741824; decide, fun i v H' e b9 q9 => ?_⟩
        have q9 := (p9.same s11).but b9 q9
        have ss := (((((((((s1.trans s2).trans s3).trans s4).trans s5).trans s6).trans s7).trans s8).trans s9).trans s10).trans s11
        exact k v H' ((But.of ss).trans b9) (q9.mono (by omega)) (((all.same s11).but b9).get e)
    | succ m =>
      obtain ⟨ds, rfl, l16, al⟩ := hm
      refine iteB rfl ?_
      cases hd with
      | tup hx ha =>
      rename_i a xs
      have lx := dd_len ha
      obtain ⟨w1, w2⟩ := ww_rr m
      -- what its items are
      have X : Tp K Z p (Sz (ww m) (m + 3)) 16 H (.ref a) := ⟨a, xs, rfl, SqT.same (off_same Z H p) hx, ⟨ds, ha, fun d hd => wm_rs (al d hd)⟩, by omega⟩
      have fT : ∀ es : List PyData, (∀ d ∈ es, Sz (ww m) (m + 3) d) → es.length ≤ 33 → RR (m + 1) (.tuple es) := fun es h l => (sz_tuple h l).mono (by show _ ≤ 33 * (rr m + 2) + 3; omega) (by omega)
      have fL : ∀ es : List PyData, (∀ d ∈ es, Sz (ww m) (m + 3) d) → es.length ≤ 16 → RR (m + 1) (.list es) := fun es h l => (sz_list h l).mono (by show _ ≤ 33 * (rr m + 2) + 3; omega) (by omega)
      have fO : ∀ es : List PyData, (∀ d ∈ es, Sz (ww (m + 1)) (m + 4) d) → es.length ≤ 1 → RR (m + 1) (.tuple es) := fun es h l => (sz_tuple h l).mono (by show 1 * (16 * (ww m + 2) + 2 + 2) + 2 ≤ 33 * (rr m + 2) + 3; omega) (by omega)
      have f16 : ∀ es : List PyData, (∀ d ∈ es, Sz (ww m) (m + 3) d) → es.length ≤ 16 → Sz (ww (m + 1)) (m + 4) (.tuple es) := fun es h l => sz_tuple h l
      have small : ∀ {n : Nat} {d : PyData}, n ≤ 110 → Sz n 3 d → Sz (ww m) (m + 3) d := fun l h => h.mono (by omega) (by omega)
      refine seqS (fun v H' => ∃ n : Nat, v = .int (n : Int) ∧ But p H H' ∧ PotZ Z H' p (B + 1)) (fun Q k' => ?_) ?_
      · exact ⟨_, rfl, _, rfl, _, _, rfl, .inr ⟨_, SqT.same (off_same Z H p) hx, rfl⟩, _, _, rfl, rfl, p, xs.length + 1, B, rfl, hp.po, by omega, by omega, by omega, fun n H1 hn b1 p1 => k' _ _ ⟨n, rfl, b1, hp.but b1 p1⟩⟩
      rintro _ H1 ⟨n, rfl, b1, p1⟩
      have X1 := X.but hp b1
      refine seqS (fun v H' => ∃ (l : Addr) (ys : List V), v = .ref l ∧ H' l = some (.lst ys) ∧ l ≠ p ∧ OkA K Z p (RR (m + 1)) H' ys ∧ ys.length = 5 ∧ Same H1 H') (fun Q k' => ?_) ?_
      · refine lst0 ?_
        refine itemA (K := K) (Z := Z) (p := p) (R := RR (m + 1)) (fun Q' q => ?_) fun v1 G1 s1 o1 => ?_
        · obtain ⟨a', ys, e, h1, h2, h3⟩ := X1
          cases e
          exact ⟨_, rfl, _, _, rfl, .inr h1, fun l nl => q _ _ (same_new nl) (lst_ok h2 h3 fL nl p1)⟩
        have X2 := X1.same s1
        have q1 := p1.same s1
        refine itemA (K := K) (Z := Z) (p := p) (R := RR (m + 1)) (fun Q' q => ?_) fun v2 G2 s2 o2 => ?_
        · refine ⟨_, rfl, _, rfl, _, rfl, .inl (X2.slice fun u J1 j1 y1 => ⟨_, rfl, _, rfl, _, _, rfl, rfl, _, rfl, .inl ((X2.same j1).slice fun u2 J2 j2 y2 => ?_)⟩)⟩
          exact (y1.same j2).cat y2 (by decide) fun t J3 j3 y3 => q _ _ ((j1.trans j2).trans j3) (y3.ok (((q1.same j1).same j2).same j3) fun es h l => fT es h (by omega))
        have X3 := X2.same s2
        have q2 := q1.same s2
        refine itemA (K := K) (Z := Z) (p := p) (R := RR (m + 1)) (fun Q' q => ?_) fun v3 G3 s3 o3 => ?_
        · refine ⟨_, rfl, _, rfl, _, rfl, .inl (X3.slice fun u J1 j1 y1 => ⟨_, rfl, _, rfl, _, _, rfl, rfl, _, rfl, .inl ((X3.same j1).slice fun u2 J2 j2 y2 => ?_)⟩)⟩
          exact (y1.same j2).cat y2 (by decide) fun t J3 j3 y3 => q _ _ ((j1.trans j2).trans j3) (y3.ok (((q2.same j1).same j2).same j3) fun es h l => fT es h (by omega))
        have X4 := X3.same s3
        have q3 := q2.same s3
        refine itemA (K := K) (Z := Z) (p := p) (R := RR (m + 1)) (fun Q' q => ?_) fun v4 G4 s4 o4 => ?_
        · obtain ⟨a', ys, e, h1, h2, h3⟩ := X4
          cases e
          refine ⟨_, rfl, _, ys, rfl, h1, fun t nt => q _ _ (same_new nt) ?_⟩
          have y : Tp K Z p (Sz (ww m) (m + 3)) 16 (upd G3 t (.tup ys.reverse)) (.ref t) := ⟨t, _, rfl, SqT.of upd_same, h2.rev.same (same_new nt), by rw [List.length_reverse]; exact h3⟩
          exact y.ok (q3.same (same_new nt)) fun es h l => fT es h (by omega)
        have X5 := X4.same s4
        have q4 := q3.same s4
        refine itemA (K := K) (Z := Z) (p := p) (R := RR (m + 1)) (fun Q' q => ?_) fun v5 G5 s5 o5 => ?_
        · refine ⟨_, rfl, by show 1 ≤ sizeLine; decide, fun t nt => ?_⟩
          have y1 := Tp.new (K := K) (Z := Z) (p := p) (H := G4) (R := Sz (ww m) (m + 3)) (v := .int 0) ⟨_, .int 0, small (by decide) (sz_nat (n := 0) (by decide))⟩ nt
          have j1 := same_new (o := .tup [V.int 0]) nt
          exact (X5.same j1).cat y1 (by decide) fun t J2 j2 y2 => q _ _ (j1.trans j2) (y2.ok ((q4.same j1).same j2) fun es h l => fT es h (by omega))
        refine ⟨by show 5 ≤ sizeLine; decide, fun l nl => ?_⟩
        have s6 := same_new (o := .lst [v1, v2, v3, v4, v5]) nl
        refine k' _ _ ⟨l, _, rfl, upd_same, pot_neZ nl (q4.same s5), ?_, rfl, (((((s1.trans s2).trans s3).trans s4).trans s5).trans s6)⟩
        exact (OkA.cons ((((o1.same s2).same s3).same s4).same s5) (.cons (((o2.same s3).same s4).same s5) (.cons ((o3.same s4).same s5) (.cons (o4.same s5) (.cons o5 .nil))))).same s6
      rintro _ H2 ⟨l, ys, rfl, hl, nl, oy, l5, s2⟩
      have X2 := X1.same s2
      have p2 := p1.same s2
      refine ⟨_, rfl, _, rfl, ?_⟩
      refine lst0 ?_
      refine itemA (K := K) (Z := Z) (p := p) (R := RR (m + 1)) (fun Q' q => q _ _ (Same.refl _) ⟨_, .non, sz_non.mono (by show 20 ≤ 33 * (rr m + 2) + 3; omega) (by omega)⟩) fun v1 G1 s3 o1 => ?_
      have X3 := X2.same s3
      have q3 := p2.same s3
      refine itemA (K := K) (Z := Z) (p := p) (R := RR (m + 1)) (fun Q' q => ?_) fun v2 G2 s4 o2 => ?_
      · exact ⟨_, rfl, by show 1 ≤ sizeLine; decide, Tp.one (K := K) (Z := Z) (p := p) (R := Sz (ww (m + 1)) (m + 4)) (X3.ok q3 f16) fun t J1 j1 y1 => q _ _ j1 (y1.ok (q3.same j1) fO)⟩
      have X4 := X3.same s4
      have q4 := q3.same s4
      refine itemA (K := K) (Z := Z) (p := p) (R := RR (m + 1)) (fun Q' q => ?_) fun v3 G3 s5 o3 => ?_
      · exact ⟨_, rfl, _, rfl, _, rfl, .inl (X4.slice fun u J1 j1 y1 => q _ _ j1 (y1.ok (q4.same j1) fun es h l => fT es h (by omega)))⟩
      have X5 := X4.same s5
      have q5 := q4.same s5
      have oy5 := ((oy.same s3).same s4).same s5
      have hl5 := s5 _ _ (s4 _ _ (s3 _ _ hl))
      have o15 := (o1.same s4).same s5
      have o25 := o2.same s5
      refine cons0 ?_
      refine ⟨_, rfl, _, rfl, _, rfl, .inl (X5.slice fun u J1 j1 y1 => ?_)⟩
      refine ⟨_, rfl, Z, p, B + 1, rfl, q5.same j1, by omega, fun vo dd J2 b2 r2 ddo mo => ?_⟩
      have y2 := y1.but (q5.same j1) b2
      refine ⟨by show 1 ≤ sizeLine; decide, fun t nt => ?_⟩
      have y3 := Tp.new (K := K) (Z := Z) (p := p) (H := J2) (R := Sz (ww m) (m + 3)) (v := vo) ⟨_, ddo, small (by decide) (sz_odd _ mo)⟩ nt
      have j3 := same_new (o := .tup [vo]) nt
      generalize upd J2 t (.tup [vo]) = J3 at y3 j3 ⊢
      refine (y2.same j3).cat y3 (by decide) fun t2 J4 j4 y4 => ?_
      have b4 : But p G3 J4 := (But.of j1).trans (b2.trans (But.of (j3.trans j4)))
      have X6 := X5.but q5 b4
      refine ⟨_, rfl, _, rfl, _, rfl, .inl (X6.slice fun u2 J5 j5 y5 => ?_)⟩
      refine (y4.same j5).cat y5 (by decide) fun t3 J6 j6 y6 => ?_
      have r6 : PotZ Z J6 p (B + 2) := ((r2.same (j3.trans j4)).same j5).same j6
      have b6 : But p G3 J6 := b4.trans (But.of (j5.trans j6))
      have o4 := y6.ok r6 fun es h l => fT es h (by omega)
      refine ⟨by show 4 ≤ sizeLine; decide, fun l4 nl4 => ?_⟩
      have s7 := same_new (o := .lst [v1, v2, v3, t3]) nl4
      have hl6 := b6 _ _ nl hl5
      refine ⟨l, l4, ys, _, rfl, rfl, s7 _ _ hl6, upd_same, by rw [l5]; show 9 ≤ sizeLine; decide, fun l9 nl9 => ?_⟩
      have s8 := same_new (o := .lst (ys ++ [v1, v2, v3, t3])) nl9
      have all : OkA K Z p (RR (m + 1)) J6 (ys ++ [v1, v2, v3, t3]) := (oy5.but b6).app (.cons (o15.but b6) (.cons (o25.but b6) (.cons (o3.but b6) (.cons o4 .nil))))
      have bb : But p H J6 := (b1.trans (But.of (((s2.trans s3).trans s4).trans s5))).trans b6
      refine ⟨p, _, ys ++ [v1, v2, v3, t3], B + 2, rfl, ((r6.same s7).same s8).po, by omega, .inl ⟨l9, rfl, pot_neZ nl9 (r6.same s7), SqL.of upd_same⟩, ?_, ?_, fun i v H' e b9 p9 => ?_⟩
      · rw [List.length_append, l5]; show 0 < 9; decide
      · rw [List.length_append, l5]; show 9 < 1073741824; decide
      · have p9 := ((r6.same s7).same s8).but b9 p9
        exact k v H' ((bb.trans (But.of (s7.trans s8))).trans b9) p9 (((all.same (s7.trans s8)).but b9).get e)
end
end Toy
set_option Elab.async false
set_option linter.all false
set_option maxRecDepth 100000
set_option maxHeartbeats 8000000
namespace Toy
open PySem L2 Q RZ D7
/-- _law_bent(pot, value, deep) -/
def spBent (K : PySem.W.Frag) (m : Nat) : Sp := fun vs H Q _ => ∃ (Z : Addr → Bool) (p : Addr) (v : V) (B : Nat), vs = [.ref p, v, .int (m : Int)] ∧ PotZ Z H p B ∧ B + 2 * m < 800000 ∧ m ≤ 10 ∧ OkV K Z p (Wm m) H v ∧
  ∀ v' H', But p H H' → PotZ Z H' p (B + 4 + 2 * m) → OkV K Z p (RR m) H' v' → Q v' H'
/-- what it calls within itself -/
def spPrev (K : PySem.W.Frag) : Nat → Sp
  | 0 => fun _ _ _ _ => False
  | m + 1 => spBent K m
section
variable {P : Program} {w : World} {K : PySem.W.Frag} {mg : Str → Option Value} {base : Heap} {ca ia fa : Nat → Addr} {fd fi : Nat → FuncData}
theorem bent_core (T : Txt K mg ca ia fa fd fi) (m : Nat) (G_l_bent : FnOk P w K mg base CX0 (m + 4) (fa 67) (fd 67) ["_law_pot_here", "_law_value", "_law_deep"] (spPrev K m)) :
    FnOk P w K mg base CX0 (m + 5) (fa 67) (fd 67) ["_law_pot_here", "_law_value", "_law_deep"] (spBent K m) := by
  have G_l_take := ok_take (P := P) (w := w) (base := base) T
  have G_l_bent_part := ok_bp (P := P) (w := w) (base := base) T m
  refine T.F_l_bent.ok sc_l_bent (fun vs H Q E h => ?_) (fun cdv A outer s H vs Q E hr h => ?_)
  · obtain ⟨Z, p, v, B, rfl, _⟩ := h
    rfl
  · obtain ⟨Z, p, v, B, rfl, hp, hB, m10, ⟨d, hd, hm⟩, k⟩ := h
    refine ⟨_, (pss_cons (ps_if (PW.pt (pw_and (pt_val (pe_callB call_isA (by rfl) T.n_isinstance (by decide +kernel) (pa_cons (pv 1) (pa_cons (pe_bltn (v := .ty "tuple") (by rfl) T.n_tuple (by decide +kernel) rfl) pa_nil)))) (pw_and (pt_cmpR (op_neNilT (roomU1 hr)) (pv 1) (pe_tup pa_nil) (nomark _)) (pw_and (pt_cmpR op_gt (pv 2) pe_int (nomark _)) (pw_and1 (pt_cmpR op_gt (pe_call G_l_take (hr.mono (by omega)) rfl T.g_l_take T.k_l_take T.b_l_take .nil pass0 (pa_cons (pv 0) (pa_cons pe_int pa_nil))) pe_int (nomark _))))))) (pss_cons (ps_set (i := 3) sc_l_bent.nd rfl (Or.inl rfl) (pe_call G_l_take (hr.mono (by omega)) rfl T.g_l_take T.k_l_take T.b_l_take .nil pass0 (pa_cons (pv 0) (pa_cons (pe_callB call_len (by rfl) T.n_len (by decide +kernel) (pa_cons (pv 1) pa_nil)) pa_nil))))
      (pss_one (ps_ret (pe_op op_catA (pe_op op_catA (pe_slice (SlR.or sl_tupA sl_str) (pv 1) po_none (po_some (pv 3))) (pe_tup (pa_cons (pe_call G_l_bent (hr.mono (by omega)) rfl T.g_l_bent T.k_l_bent T.b_l_bent .nil pass0 (pa_cons (pv 0) (pa_cons (pe_ix ix_seq (pv 1) (pv 3) (fun _ _ => rfl)) (pa_cons (pe_op op_sub (pv 2) pe_int) pa_nil)))) pa_nil))) (pe_slice (SlR.or sl_tupA sl_str) (pv 1) (po_some (pe_op op_add (pv 3) pe_int)) po_none))))) pss_nil)
      (pss_one (ps_ret (pe_call G_l_bent_part (hr.mono (by omega)) rfl T.g_l_bent_part T.k_l_bent_part T.b_l_bent_part .nil pass0 (pa_cons (pv 0) (pa_cons (pv 1) pa_nil)))))), ?_⟩
    have hd2 := hd.same (off_same Z H p)
    obtain ⟨t, ty, e1, e2, e3, e4⟩ := hd2.kits
    -- the part itself
    have part : ∀ H', But p H H' → ∀ B', B' ≤ B + 1 → PotZ Z H' p B' → spBP K m [.ref p, v] H' Q (fun _ _ _ => False) := fun H' b B' lB q =>
      ⟨Z, p, v, B', rfl, q, by omega, ⟨d, hd.same b.off, hm⟩, fun v' H2 b2 q2 o => k v' H2 (b.trans b2) (q2.mono (by omega)) o⟩
    refine ⟨_, rfl, .inl ⟨_, _, _, _, _, rfl, .ty _, ty, e4, _, rfl, ?_⟩⟩
    cases m with
    | zero =>
      have e : tupB d = false := by
        rcases hm with ⟨z, rfl, _⟩ | ⟨x, rfl, _⟩ <;> rfl
      refine iteB2 e (nxt ?_)
      exact ⟨_, rfl, _, rfl, part H (But.refl _ _) B (by omega) hp⟩
    | succ m =>
      obtain ⟨ds, rfl, l16, al⟩ := hm
      refine iteB rfl ?_
      cases hd with
      | tup hx ha =>
      rename_i a xs
      have lx := dd_len ha
      have hx2 := SqT.same (off_same Z H p) hx
      refine ⟨_, rfl, by show 0 ≤ sizeLine; decide, fun e0 n0 => ?_⟩
      have s1 := same_new (o := .tup []) n0
      refine ⟨a, e0, xs, rfl, rfl, SqT.same s1 hx2, SqT.of upd_same, _, rfl, ?_⟩
      have p1 := hp.same s1
      generalize upd H e0 (.tup []) = H1 at s1 p1 ⊢
      refine ifE (fun c0 => ?_) fun c0 => ?_
      · refine ⟨_, rfl, _, _, rfl, rfl, _, rfl, iteB (decide_eq_true (by omega)) ?_⟩
        refine ⟨_, rfl, p, 4, B, rfl, p1.po, by decide, by decide, by omega, fun n H2 hn b2 p2 => ⟨_, _, rfl, rfl, _, rfl, ?_⟩⟩
        have p2 := p1.but b2 p2
        refine ifE (fun c => ?_) fun c => ?_
        · have X : Tp K Z p (Wm m) 16 H (.ref a) := ⟨a, xs, rfl, hx2, ⟨ds, ha, al⟩, by omega⟩
          have X2 := (X.same s1).but p1 b2
          have ne : xs ≠ [] := fun z => by rw [z] at c0; cases c0
          have pos : 0 < xs.length := List.length_pos_iff.mpr ne
          have bH2 : But p H H2 := (But.of s1).trans b2
          obtain ⟨w1, w2⟩ := ww_rr m
          refine seqS (fun v H' => ∃ i : Nat, v = .int (i : Int) ∧ i < xs.length ∧ But p H2 H' ∧ PotZ Z H' p (B + 2)) (fun Q k' => ?_) ?_
          · exact ⟨_, rfl, _, rfl, _, _, rfl, .inr ⟨_, SqT.same (off_same Z H2 p) (SqT.same bH2.off hx), rfl⟩, p, xs.length, B + 1, rfl, p2.po, by omega, by omega, by omega, fun n H1 hn b1 p1 => k' _ _ ⟨n, rfl, by omega, b1, p2.but b1 p1⟩⟩
          rintro _ H3 ⟨i, rfl, hi, b3, p3⟩
          have bH3 := bH2.trans b3
          have X3 := X2.but p2 b3
          have hx3 := SqT.same bH3.off hx
          have ha3 := DdAll.same bH3.off ha
          refine ⟨_, rfl, _, rfl, _, rfl, .inl (X3.slice fun u J1 j1 y1 => ?_)⟩
          have q1 := p3.same j1
          have it : OkV K Z p (Wm m) J1 xs[i] := (OkA.get (K := K) (Z := Z) (p := p) (R := Wm m) (H := H3) ⟨ds, ha3, al⟩ (List.getElem?_eq_getElem hi)).same j1
          refine ⟨_, rfl, _, rfl, _, rfl, ixT (SqT.same j1 (SqT.same (off_same Z H3 p) hx3)) i (List.getElem?_eq_getElem hi) ⟨_, rfl, _, _, rfl, rfl, ?_⟩⟩
          refine ⟨Z, p, _, B + 2, by have e : (((m + 1 : Nat) : Int) - 1) = (m : Int) := by omega
                                     show [V.ref p, xs[i], V.int (((m + 1 : Nat) : Int) - 1)] = _
                                     rw [e], q1, by omega, by omega, it, fun v' J2 b4 q2 o2 => ?_⟩
          have y2 := (y1.imp (R' := RR m) fun d h => (wm_rs h).mono w2 (by omega)).but q1 b4
          refine ⟨by show 1 ≤ sizeLine; decide, fun t3 n3 => ?_⟩
          have y3 := Tp.new o2 n3
          have j3 := same_new (o := .tup [v']) n3
          generalize upd J2 t3 (.tup [v']) = J3 at y3 j3 ⊢
          refine (y2.same j3).cat y3 (by decide) fun t4 J4 j4 y4 => ?_
          have b5 : But p H3 J4 := (But.of j1).trans (b4.trans (But.of (j3.trans j4)))
          have X6 := (X3.imp (R' := RR m) fun d h => (wm_rs h).mono w2 (by omega)).but p3 b5
          refine ⟨_, rfl, _, rfl, _, _, rfl, rfl, _, rfl, .inl (X6.slice fun u2 J5 j5 y5 => ?_)⟩
          refine (y4.same j5).cat y5 (by decide) fun t6 J6 j6 y6 => ?_
          have r6 : PotZ Z J6 p (B + 4 + 2 * (m + 1)) := ((((q2.same j3).same j4).same j5).same j6).mono (by omega)
          exact k _ J6 (bH3.trans (b5.trans (But.of (j5.trans j6)))) r6 (y6.ok r6 fun es h l => (sz_tuple h (m := 33) (by omega)).mono (by show _ ≤ 33 * (rr m + 2) + 3; omega) (by omega))
        · exact nxt ⟨_, rfl, _, rfl, part H2 ((But.of s1).trans b2) (B + 1) (by omega) p2⟩
      · exact nxt ⟨_, rfl, _, rfl, part H1 (But.of s1) B (by omega) p1⟩
theorem ok_bent (T : Txt K mg ca ia fa fd fi) : ∀ m : Nat, FnOk P w K mg base CX0 (m + 5) (fa 67) (fd 67) ["_law_pot_here", "_law_value", "_law_deep"] (spBent K m)
  | 0 => bent_core T 0 (T.F_l_bent.ok sc_l_bent (fun vs H Q E h => h.elim) fun cdv A outer s H vs Q E hr h => h.elim)
  | m + 1 => bent_core T (m + 1) (ok_bent T m)
end
end Toy
set_option Elab.async false
set_option linter.all false
set_option maxRecDepth 100000
set_option maxHeartbeats 1000000
namespace Toy
open PySem L2 Q RZ D7
/-! ### rows of linked routers, as the program sees them -/
theorem _root_.Q.Odd.same {K : PySem.W.Frag} {H H' : Hp} {v : V} (h : Odd K H v) (s : Same H H') : Odd K H' v := by
  cases h with
  | non => exact .non
  | bl b => exact .bl b
  | int i => exact .int i
  | str x => exact .str x
  | lst h => exact .lst (s.seq h)
  | tup h => exact .tup (SqT.same s h)
  | dic h => exact .dic (s _ _ h)
theorem strs_inj : ∀ {xs ys : List Str}, xs.map PyData.str = ys.map PyData.str → xs = ys
  | [], [], _ => rfl
  | [], _ :: _, h => nomatch h
  | _ :: _, [], h => nomatch h
  | x :: xs, y :: ys, h => by
    injection h with h1 h2
    injection h1 with h1
    rw [h1, strs_inj h2]
theorem noPart {σ : L2.St} {H : Hp} {Q : Option Int → Hp → Prop} (h : Q none H) : tNoPart σ H Q := h
theorem _root_.L2.Same.upd_at {H H' : Hp} {D : Addr} {o : HO} (s : Same H H') (n : H D = none) : Same H (upd H' D o) := fun b u e => by
  rw [upd_ne (ne_of_none e n)]
  exact s _ _ e
theorem nodup_le {α : Type} [DecidableEq α] : ∀ (l L : List α), l.Nodup → (∀ x ∈ l, x ∈ L) → l.length ≤ L.length
  | [], _, _, _ => Nat.zero_le _
  | x :: l, L, nd, h => by
    have nd := List.nodup_cons.mp nd
    have hx := h x List.mem_cons_self
    have := nodup_le l (L.erase x) nd.2 fun y hy => (List.mem_erase_of_ne (fun (e : y = x) => nd.1 (by rw [← e]; exact hy))).mpr (h y (List.mem_cons_of_mem _ hy))
    rw [List.length_erase_of_mem hx] at this
    have := List.length_pos_of_mem hx
    rw [List.length_cons]
    omega
theorem less_one {α : Type} [DecidableEq α] : ∀ (l : List α), ¬ l.Nodup → ∃ m : List α, m.length + 1 = l.length ∧ ∀ x ∈ l, x ∈ m
  | [], h => absurd List.nodup_nil h
  | x :: l, h => by
    by_cases hx : x ∈ l
    · exact ⟨l, rfl, fun y hy => by
        rcases List.mem_cons.mp hy with rfl | hy
        · exact hx
        · exact hy⟩
    · obtain ⟨m, e, q⟩ := less_one l fun nd => h (List.nodup_cons.mpr ⟨hx, nd⟩)
      exact ⟨x :: m, by rw [List.length_cons, List.length_cons, e], fun y hy => by
        rcases List.mem_cons.mp hy with rfl | hy
        · exact List.mem_cons_self
        · exact List.mem_cons_of_mem _ (q y hy)⟩
theorem uniq_len {α : Type} [DecidableEq α] {l m : List α} (nd : m.Nodup) (mem : ∀ x, x ∈ m ↔ x ∈ l) : m.length = l.length ↔ l.Nodup := by
  constructor
  · intro e
    refine Classical.byContradiction fun n => ?_
    obtain ⟨k, e2, q⟩ := less_one l n
    have := nodup_le m k nd fun x hx => q x ((mem x).mp hx)
    omega
  · intro ndl
    exact Nat.le_antisymm (nodup_le m l nd fun x hx => (mem x).mp hx) (nodup_le l m ndl fun x hx => (mem x).mpr hx)
theorem strs_at {K : PySem.W.Frag} {H : Hp} : ∀ {xs : List V} {zs : List Str}, DdAll K H xs (zs.map PyData.str) → xs = zs.map V.str
  | [], [], _ => rfl
  | [], _ :: _, h => nomatch h
  | _ :: _, [], h => nomatch h
  | _ :: _, z :: zs, .cons h t => by
    cases h
    rw [strs_at t]
    rfl
theorem strs_of {K : PySem.W.Frag} {H : Hp} {zs : List Str} : ∀ {xs : List V} {ds : List PyData}, DdAll K H xs ds → (∀ x ∈ xs, ∃ z, x = V.str z ∧ z ∈ zs) → ∃ rs : List Str, xs = rs.map V.str ∧ ds = rs.map PyData.str ∧ ∀ z ∈ rs, z ∈ zs
  | _, _, .nil, _ => ⟨[], rfl, rfl, fun _ h => nomatch h⟩
  | x :: xs, _, .cons h t, al => by
    obtain ⟨rs, e1, e2, e3⟩ := strs_of t fun y m => al y (List.mem_cons_of_mem _ m)
    obtain ⟨z, rfl, m⟩ := al x List.mem_cons_self
    cases h
    exact ⟨z :: rs, by rw [e1]; rfl, by rw [e2]; rfl, fun y hy => by
      rcases List.mem_cons.mp hy with rfl | hy
      · exact m
      · exact e3 y hy⟩
/-- is_row(value, routers), of any data -/
def IsRow (zs : List Str) (d : PyData) : Prop := ∃ rs : List Str, d = .tuple (rs.map PyData.str) ∧ 2 ≤ rs.length ∧ rs.length ≤ zs.length ∧ (∀ z ∈ rs, z ∈ zs) ∧ rs.Nodup
def spIsRow (K : PySem.W.Frag) : Sp := fun vs H Q _ => ∃ (v : V) (d : PyData) (r : Addr) (zs : List Str), vs = [v, .ref r] ∧ Dd K H v d ∧ SqT K H r (zs.map V.str) ∧ zs.length ≤ 8 ∧
  ∀ b : Bool, (b = true ↔ IsRow zs d) → ∀ H', Same H H' → Q (.bl b) H'

def nmOf (ns : List Str) (i : Nat) : Str := ns.getD i (Str.ofString "")
theorem nm_at {ns : List Str} {i : Nat} (h : i < ns.length) : ns[i]? = some (nmOf ns i) := by
  unfold nmOf
  rw [List.getD_eq_getElem?_getD, List.getElem?_eq_getElem h]
  rfl
theorem nm_of {ns : List Str} {i : Nat} {a : Str} (h : ns[i]? = some a) : a = nmOf ns i := by
  unfold nmOf
  rw [List.getD_eq_getElem?_getD, h]
  rfl
def rwOf (rss : List (List Str)) (i : Nat) : List Str := rss.getD i []
theorem rw_of {rss : List (List Str)} {i : Nat} {a : List Str} (h : rss[i]? = some a) : a = rwOf rss i := by
  unfold rwOf
  rw [List.getD_eq_getElem?_getD, h]
  rfl
theorem zip_len {α : Type} (xs : List α) : xs.length - 1 = min xs.length (xs.drop 1).length := by
  rw [List.length_drop]
  omega
theorem drop_at {α : Type} {xs : List α} {f : α → V} {i : Nat} {v : V} (h : ((xs.map f).drop 1)[i]? = some v) : ∃ z, xs[i + 1]? = some z ∧ v = f z := by
  rw [List.getElem?_drop, Nat.add_comm] at h
  obtain ⟨z, h1, h2⟩ := at_map h
  exact ⟨z, h1, h2⟩
/-- the first i of F, as a list shows them -/
def bools (F : Nat → Bool) (i : Nat) : List Bool := (List.range i).map F
theorem bools_len {F : Nat → Bool} {i : Nat} : (bools F i).length = i := by unfold bools; rw [List.length_map, List.length_range]
theorem bools_succ {F : Nat → Bool} {i : Nat} : bools F (i + 1) = bools F i ++ [F i] := by
  unfold bools
  rw [List.range_succ, List.map_append]
  rfl
theorem bools_all {F : Nat → Bool} {i : Nat} : (bools F i).all id = true ↔ ∀ j, j < i → F j = true := by
  unfold bools
  rw [List.all_eq_true]
  constructor
  · exact fun h j hj => h (F j) (List.mem_map.mpr ⟨j, List.mem_range.mpr hj, rfl⟩)
  · rintro h x hx
    obtain ⟨j, hj, rfl⟩ := List.mem_map.mp hx
    exact h j (List.mem_range.mp hj)
/-- a row: routers, all different, each linked to the next one -/
def RowD (R : LK) (zs : List Str) (rs : List Str) : Prop := 2 ≤ rs.length ∧ rs.Nodup ∧ (∀ z ∈ rs, z ∈ zs) ∧ ∀ j, j + 1 < rs.length → ∃ x, R (nmOf rs j) (nmOf rs (j + 1)) x
def rowP (rs : List Str) : PyData := .tuple (rs.map PyData.str)
def Rises (rss : List (List Str)) : Prop := ∀ j, j + 1 < rss.length → rowLt (rwOf rss j) (rwOf rss (j + 1)) = true
/-- an ascending tuple of one to eight rows -/
def RowsD (R : LK) (zs : List Str) (d : PyData) : Prop := ∃ rss : List (List Str), d = .tuple (rss.map rowP) ∧ 1 ≤ rss.length ∧ rss.length ≤ 8 ∧ (∀ rs ∈ rss, RowD R zs rs) ∧ Rises rss
theorem rowP_inj {a b : List Str} (h : rowP a = rowP b) : a = b := by
  unfold rowP at h
  injection h with h
  exact strs_inj h
theorem rows_inj : ∀ {a b : List (List Str)}, a.map rowP = b.map rowP → a = b
  | [], [], _ => rfl
  | [], _ :: _, h => nomatch h
  | _ :: _, [], h => nomatch h
  | x :: a, y :: b, h => by
    rw [List.map_cons, List.map_cons] at h
    injection h with h1 h2
    rw [rowP_inj h1, rows_inj h2]
theorem dd_at {K : PySem.W.Frag} {H : Hp} : ∀ {xs : List V} {ds : List PyData} {i : Nat} {v : V}, DdAll K H xs ds → xs[i]? = some v → ∃ d, ds[i]? = some d ∧ Dd K H v d
  | _, _, 0, _, .cons h _, e => ⟨_, rfl, by simp at e; subst e; exact h⟩
  | _, _, i + 1, _, .cons _ t, e => dd_at (i := i) t (by simpa using e)
theorem rows_of {K : PySem.W.Frag} {H : Hp} {R : LK} {zs : List Str} : ∀ {xs : List V} {ds : List PyData}, DdAll K H xs ds → (∀ d ∈ ds, ∃ rs, d = rowP rs ∧ RowD R zs rs) → ∃ qs : List (Addr × List Str), xs = qs.map (fun q => V.ref q.1) ∧ ds = (qs.map (·.2)).map rowP ∧ (∀ q ∈ qs, SqT K H q.1 (q.2.map V.str)) ∧ ∀ q ∈ qs, RowD R zs q.2
  | _, _, .nil, _ => ⟨[], rfl, rfl, fun _ h => (nomatch h), fun _ h => (nomatch h)⟩
  | _, _, .cons h t, al => by
    obtain ⟨qs, e1, e2, e3, e4⟩ := rows_of t fun d m => al d (List.mem_cons_of_mem _ m)
    obtain ⟨rs, rfl, rd⟩ := al _ List.mem_cons_self
    cases h with
    | tup hx ha =>
      rw [strs_at ha] at hx
      refine ⟨(_, rs) :: qs, by rw [e1]; rfl, by rw [e2]; rfl, fun q m => ?_, fun q m => ?_⟩
      · rcases List.mem_cons.mp m with rfl | m
        · exact hx
        · exact e3 q m
      · rcases List.mem_cons.mp m with rfl | m
        · exact rd
        · exact e4 q m
/-- is_rising(rows) -/
def spRisR (K : PySem.W.Frag) : Sp := fun vs H Q _ => ∃ (a : Addr) (qs : List (Addr × List Str)), vs = [.ref a] ∧ SqT K H a (qs.map fun q => V.ref q.1) ∧ (∀ q ∈ qs, SqT K H q.1 (q.2.map V.str)) ∧ qs.length ≤ 1000 ∧
  ∀ b : Bool, (b = true ↔ Rises (qs.map (·.2))) → ∀ H', Same H H' → Q (.bl b) H'
/-- is_linked(value, net) -/
def spLinkd (K : PySem.W.Frag) (C : Addr) : Sp := fun vs H Q _ => ∃ (v : V) (d : PyData) (n r l : Addr) (zs : List Str) (ls : List (Addr × List Key)), vs = [v, .ref n] ∧ NetW C H n r l zs ls ∧ Dd K H v d ∧
  ∀ b : Bool, (b = true ↔ ∃ rs, d = rowP rs ∧ RowD (LkR ls) zs rs) → ∀ H', Same H H' → Q (.bl b) H'
/-- need_rows(net, value) -/
def spNeedR (K : PySem.W.Frag) (C U : Addr) : Sp := fun vs H Q E => ∃ (n r l : Addr) (zs : List Str) (ls : List (Addr × List Key)) (v : V) (d : PyData), vs = [.ref n, v] ∧ NetW C H n r l zs ls ∧ Dd K H v d ∧
  (RowsD (LkR ls) zs d → ∀ H', Same H H' → Q .non H') ∧ (¬ RowsD (LkR ls) zs d → ∀ e H', Same H H' → H' e = some (.xd [("value", v)]) → E (.ref U) (some e) H')
/-- shows_wanted(net, value, None) -/
def spShowsW (K : PySem.W.Frag) (C U : Addr) : Sp := fun vs H Q E => ∃ (n r l : Addr) (zs : List Str) (ls : List (Addr × List Key)) (v : V) (d : PyData), vs = [.ref n, v, .non] ∧ NetW C H n r l zs ls ∧ Dd K H v d ∧
  (RowsD (LkR ls) zs d → ∀ H', Same H H' → Q (.bl false) H') ∧ (¬ RowsD (LkR ls) zs d → ∀ e H', Same H H' → H' e = some (.xd [("value", v)]) → E (.ref U) (some e) H')
/-- wanted(net, value), of no rows -/
def spWanted (K : PySem.W.Frag) (C U : Addr) : Sp := fun vs H Q E => ∃ (n r l : Addr) (zs : List Str) (ls : List (Addr × List Key)) (v : V) (d : PyData), vs = [.ref n, v] ∧ NetW C H n r l zs ls ∧ Dd K H v d ∧
  ¬ RowsD (LkR ls) zs d ∧ ∀ e H', Same H H' → H' e = some (.xd [("value", v)]) → E (.ref U) (some e) H'
theorem pss_dead {X : Cx} {sts : List Stmt} : PSs X sts (fun _ _ _ => False) := ⟨fun _ _ _ _ _ _ h => h.elim⟩
section
variable {P : Program} {w : World} {K : PySem.W.Frag} {mg : Str → Option Value} {base : Heap} {ca ia fa : Nat → Addr} {fd fi : Nat → FuncData}
theorem ok_isRow (T : Txt K mg ca ia fa fd fi) : FnOk P w K mg base CX0 1 (fa 29) (fd 29) ["value", "routers"] (spIsRow K) := by
  obtain ⟨tkL, hv_LEAST_ROW⟩ := T.v_LEAST_ROW
  refine T.F_is_row.ok sc_is_row (fun vs H Q E h => ?_) (fun cdv A outer s H vs Q E hr h => ?_)
  · obtain ⟨v, d, r, zs, rfl, _⟩ := h
    rfl
  · obtain ⟨v, d, r, zs, rfl, hd, hz, z8, k⟩ := h
    refine ⟨_, (pss_cons (ps_if (PW.pt (pw_or (pt_not (pt_val (pe_callB call_isi (by rfl) T.n_isinstance (by decide +kernel) (pa_cons (pv 0) (pa_cons (pe_bltn (v := .ty "tuple") (by rfl) T.n_tuple (by decide +kernel) rfl) pa_nil))))) (pw_or1 (pt_not (pt_chain op_le op_le (pe_glob rfl hv_LEAST_ROW (v := .int 2) ⟨_, rfl⟩) (pe_callB call_len (by rfl) T.n_len (by decide +kernel) (pa_cons (pv 0) pa_nil)) (pe_callB call_len (by rfl) T.n_len (by decide +kernel) (pa_cons (pv 1) pa_nil))))))) (pss_one (ps_ret pe_bl)) pss_nil)
      (pss_one (ps_ret (pe_and (pe_callB (cr_all rfl) (by rfl) T.n_all (by decide +kernel) (pa_cons (pe_lc (own := [("router", 2)]) (g := (gName 2)) (tt := tYes) (te := (tOp (rInO K false) (tVar 2) (tVar 1))) rfl sc_is_row.nd (pi_tup (pv 0)) (blkOk_by (own := [("router", 2)]) (N := N_is_row) (sc := defScope s_is_row) (by decide +kernel)) (fun _ _ _ _ _ => (pg_name (i := 2) sc_is_row.nd rfl (Or.inl rfl))) (fun _ _ _ _ _ => pts_nil) (fun _ _ _ _ _ => by exact (pe_cmpR (op_inO (roomU1 hr)) (pv 2) (pv 1) rfl))) pa_nil)) (pe_one (pe_cmpR op_eq (pe_callB cr_lenSet (by rfl) T.n_len (by decide +kernel) (pa_cons (pe_callTy (cr_setTxD rfl) (by rfl) T.n_set (by decide +kernel) (pa_cons (pv 0) pa_nil)) pa_nil)) (pe_callB call_len (by rfl) T.n_len (by decide +kernel) (pa_cons (pv 0) pa_nil)) (nomark _))))))), ?_⟩
    obtain ⟨t, ty, e1, e2, e3, e4⟩ := hd.kits
    refine ⟨_, rfl, _, _, _, _, _, rfl, .ty _, ty, e4, _, rfl, ?_⟩
    cases htup : tupB d with
    | false =>
      refine iteB rfl (iteB rfl ?_)
      refine k false ⟨fun z => (nomatch z), fun ⟨rs, e, _⟩ => ?_⟩ H (Same.refl H)
      rw [e] at htup
      cases htup
    | true =>
      refine iteB2 rfl ?_
      cases hd with
      | tup hx ha =>
        rename_i a xs ds
        have lx := dd_len ha
        have no : ¬ (2 ≤ xs.length ∧ xs.length ≤ zs.length) → ¬ IsRow zs (.tuple ds) := fun n ⟨rs, e, l2, l8, _⟩ => by
          injection e with e
          rw [e, List.length_map] at lx
          exact n ⟨by omega, by omega⟩
        refine ⟨_, rfl, _, _, rfl, .inr ⟨_, hx, rfl⟩, _, _, rfl, rfl, _, rfl, ?_⟩
        refine ifE (fun c1 => ?_) fun c1 => ?_
        · have c1 := of_decide_eq_true c1
          refine ⟨_, rfl, _, _, rfl, .inr ⟨_, hz, rfl⟩, _, _, rfl, rfl, _, rfl, ?_⟩
          refine ifE (fun c2 => ?_) fun c2 => ?_
          · refine k false ⟨fun z => (nomatch z), fun q => absurd q (no fun ⟨z1, z2⟩ => ?_)⟩ H (Same.refl H)
            rw [List.length_map, decide_eq_true (by omega)] at c2
            cases c2
          · have c2 : xs.length ≤ zs.length := by
              rw [List.length_map] at c2
              simp at c2
              omega
            have l8 : xs.length ≤ 8 := by omega
            have od : ∀ x ∈ xs, Odd K H x := fun x m => by
              obtain ⟨i, hi⟩ := List.getElem?_of_mem m
              obtain ⟨e, _, he⟩ := dd_get ha hi
              exact he.odd
            refine nxt ?_
            refine ⟨_, rfl, _, rfl, ⟨_, hx⟩, fun D hD => ?_⟩
            refine lc_it (walk_tup (xs := xs)) (fun i H' => H' D = some (.lst ((xs.take i).map fun x => V.bl (zs.any (isStr x)))) ∧ Same H H') ⟨by rw [upd_same]; rfl, same_new hD⟩ (fun i H' _ q => SqT.same q.2 hx) ?_ ?_
            · rintro i x H1 H2 hi ⟨h2, s2⟩ ⟨rfl, hxi⟩
              refine ⟨rfl, ?_⟩
              dsimp only [tYes]
              rw [if_pos rfl]
              refine ⟨_, rfl, _, rfl, r, zs, rfl, SqT.same s2 hz, (od x (List.mem_of_getElem? hxi)).same s2, _, h2, ?_, ?_, fun b o e => ?_⟩
              · rw [List.length_map, List.length_take, sizeLine_eq]
                omega
              · rw [upd_same, List.take_succ, hxi, List.map_append]
                rfl
              · rw [upd_ne (ne_of_none e hD)]
                exact s2 _ _ e
            · rintro H2 ⟨h2, s2⟩
              rw [List.take_length] at h2
              refine ⟨D, xs.map fun x => zs.any (isStr x), rfl, SqL.of (by rw [h2, List.map_map]; rfl), _, rfl, ?_⟩
              refine ifE (fun c3 => ?_) fun c3 => ?_
              · have al : ∀ x ∈ xs, ∃ z, x = .str z ∧ z ∈ zs := fun x m => by
                  have := List.all_eq_true.mp c3 _ (List.mem_map.mpr ⟨x, m, rfl⟩)
                  obtain ⟨z, mz, e⟩ := List.any_eq_true.mp this
                  cases x with
                  | str y => exact ⟨y, rfl, (of_decide_eq_true e : z = y) ▸ mz⟩
                  | _ => cases e
                obtain ⟨rs, rfl, rfl, mz⟩ := strs_of ha al
                have lr : (rs.map V.str).length = rs.length := List.length_map ..
                rw [lr] at c1 c2 l8
                refine ⟨_, rfl, a, rs, rfl, SqT.same s2 hx, by omega, fun D2 us ys nd mem le hv nD2 => ?_⟩
                have lu : us.length = ys.length := by
                  rw [← hv.length, List.length_map]
                have s3 := s2.trans (same_new (o := SetM w D2 us) nD2)
                refine ⟨D2, us, rfl, upd_same, by omega, _, rfl, _, _, rfl, .inr ⟨_, SqT.same s3 hx, rfl⟩, ?_⟩
                refine ⟨rfl, k _ ?_ _ s3⟩
                rw [decide_eq_true_iff, lr]
                constructor
                · intro e
                  injection e with e
                  exact ⟨rs, rfl, by omega, c2, mz, (uniq_len nd mem).mp (by omega)⟩
                · rintro ⟨rs', e, _, _, _, nd'⟩
                  injection e with e
                  have := strs_inj e
                  subst this
                  rw [lu, (uniq_len nd mem).mpr nd']
              · refine k false ⟨fun z => (nomatch z), fun ⟨rs, e, l2, lz, mz, nd⟩ => ?_⟩ H2 s2
                injection e with e
                subst e
                rw [strs_at ha] at c3
                refine absurd (List.all_eq_true.mpr fun b m => ?_) (by rw [c3]; decide)
                obtain ⟨x, mx, rfl⟩ := List.mem_map.mp m
                obtain ⟨z, mr, rfl⟩ := List.mem_map.mp mx
                exact List.any_eq_true.mpr ⟨z, mz z mr, decide_eq_true rfl⟩
        · have c1 := of_decide_eq_false c1
          refine ⟨_, rfl, iteB rfl (k false ⟨fun z => (nomatch z), fun q => absurd q (no fun ⟨z1, z2⟩ => by omega)⟩ H (Same.refl H))⟩
      | _ => cases htup
theorem ok_risR (T : Txt K mg ca ia fa fd fi) : FnOk P w K mg base CX0 1 (fa 15) (fd 15) ["values"] (spRisR K) := by
  refine T.F_is_rising.ok sc_is_rising (fun vs H Q E h => ?_) (fun cdv A outer s H vs Q E hr h => ?_)
  · obtain ⟨a, qs, rfl, _⟩ := h
    rfl
  · obtain ⟨a, qs, rfl, hz, hk, l1, k⟩ := h
    refine ⟨_, (pss_one (ps_ret (pe_callB (cr_all rfl) (by rfl) T.n_all (by decide +kernel) (pa_cons (pe_lc (own := [("low", 1), ("high", 2)]) (g := (gTup K 2 (gCons (gName 1) (gCons (gName 2) gNil)))) (tt := tYes) (te := (tOp (rLtR K) (tVar 1) (tVar 2))) rfl sc_is_rising.nd (pi_zipA (by rfl) T.n_zip (pa_cons (pv 0) (pa_cons (pe_slice sl_tupA (pv 0) (po_some pe_int) po_none) pa_nil))) (blkOk_by (own := [("low", 1), ("high", 2)]) (N := N_is_rising) (sc := defScope s_is_rising) (by decide +kernel)) (fun _ _ _ _ _ => (pg_tup rfl (pgs_cons (pg_name (i := 1) sc_is_rising.nd rfl (Or.inl rfl)) (pgs_cons (pg_name (i := 2) sc_is_rising.nd rfl (Or.inl rfl)) pgs_nil)))) (fun _ _ _ _ _ => pts_nil) (fun _ _ _ _ _ => by exact (pe_cmpR (op_ltR (roomU1 hr)) (pv 1) (pv 2) (nomark _)))) pa_nil)))), ?_⟩
    refine ⟨_, rfl, _, rfl, _, rfl, noPart (slA hz fun t H1 s1 ht => ?_)⟩
    rw [cut_tail] at ht
    have hz1 := SqT.same s1 hz
    refine ⟨a, t, _, _, rfl, .inr ⟨hz1, ht, fun D hD => ?_⟩⟩
    refine lc_it (walk_zipZ (zip_len _)) (fun i H' => H' D = some (.lst ((bools (fun j => rowLt (rwOf (qs.map (·.2)) j) (rwOf (qs.map (·.2)) (j + 1))) i).map V.bl)) ∧ Same H1 H') ⟨upd_same, same_new hD⟩ (fun i H' _ q => ⟨SqT.same q.2 hz1, SqT.same q.2 ht⟩) ?_ ?_
    · rintro i x H2 H3 hi ⟨h2, s2⟩ ⟨U, u, v, rfl, nT, rfl, e1, e2⟩
      obtain ⟨y, hy, rfl⟩ := at_map e1
      obtain ⟨z, hz2, rfl⟩ := drop_at e2
      have s3 := (s1.trans s2).trans (same_new (o := .tup [V.ref y.1, V.ref z.1]) nT)
      rw [List.length_map] at hi
      refine ⟨U, _, rfl, SqT.of upd_same, rfl, _, _, rfl, _, _, rfl, rfl, rfl, ?_⟩
      dsimp only [tYes]
      rw [if_pos rfl]
      refine ⟨_, rfl, _, rfl, _, _, y.2, z.2, rfl, rfl, SqT.same s3 (hk y (List.mem_of_getElem? hy)), SqT.same s3 (hk z (List.mem_of_getElem? hz2)), _, same_new nT _ _ h2, ?_, ?_, Same.upd_at (s2.trans (same_new nT)) hD⟩
      · rw [List.length_map, bools_len, sizeLine_eq]
        omega
      · have f1 : y.2 = rwOf (qs.map (·.2)) i := rw_of (by rw [List.getElem?_map, hy]; rfl)
        have f2 : z.2 = rwOf (qs.map (·.2)) (i + 1) := rw_of (by rw [List.getElem?_map, hz2]; rfl)
        rw [upd_same, bools_succ, List.map_append, f1, f2]
        rfl
    · rintro H2 ⟨h2, s2⟩
      refine ⟨D, _, rfl, SqL.of h2, k _ ?_ _ (s1.trans s2)⟩
      rw [bools_all, List.length_map]
      unfold Rises
      rw [List.length_map]
      exact ⟨fun h j hj => h j (by omega), fun h j hj => h j (by omega)⟩
theorem ok_linkd (T : Txt K mg ca ia fa fd fi) : FnOk P w K mg base CX0 6 (fa 42) (fd 42) ["value", "net"] (spLinkd K (ca 20)) := by
  have G_is_row := ok_isRow (P := P) (w := w) (base := base) T
  have G_m_length := ok_m_length (P := P) (w := w) (base := base) T
  have G_m_routers := ok_m_routers (P := P) (w := w) (base := base) T
  obtain ⟨pr, hp_routers⟩ := T.P_routers
  refine T.F_is_linked.ok sc_is_linked (fun vs H Q E h => ?_) (fun cdv A outer s H vs Q E hr h => ?_)
  · obtain ⟨v, d, n, r, l, zs, ls, rfl, _⟩ := h
    rfl
  · obtain ⟨v, d, n, r, l, zs, ls, rfl, hw, hd, k⟩ := h
    refine ⟨_, (pss_one (ps_ret (pe_and (pe_call G_is_row (hr.mono (by decide)) rfl T.g_is_row T.k_is_row T.b_is_row .nil pass0 (pa_cons (pv 0) (pa_cons (pe_prop (pv 1) T.cl_Net hp_routers G_m_routers (hr.mono (by decide)) T.b_m_routers .nil pass0 rfl) pa_nil))) (pe_one (pe_callB (cr_all rfl) (by rfl) T.n_all (by decide +kernel) (pa_cons (pe_lc (own := [("a", 2), ("n", 3)]) (g := (gTup K 2 (gCons (gName 2) (gCons (gName 3) gNil)))) (tt := tYes) rfl sc_is_linked.nd (pi_zipA (by rfl) T.n_zip (pa_cons (pv 0) (pa_cons (pe_slice sl_tupA (pv 0) (po_some pe_int) po_none) pa_nil))) (blkOk_by (own := [("a", 2), ("n", 3)]) (N := N_is_linked) (sc := defScope s_is_linked) (by decide +kernel)) (fun _ _ _ _ _ => (pg_tup rfl (pgs_cons (pg_name (i := 2) sc_is_linked.nd rfl (Or.inl rfl)) (pgs_cons (pg_name (i := 3) sc_is_linked.nd rfl (Or.inl rfl)) pgs_nil)))) (fun _ _ _ _ _ => pts_nil) (fun _ _ _ _ _ => by exact (pe_cmpR op_notN (pe_meth (pv 1) T.cl_Net T.Me_m_length G_m_length (hr.mono (by decide)) T.b_m_length .nil passL (pa_cons (pv 2) (pa_cons (pv 3) pa_nil)) (by rfl)) pe_non (nomark _)))) pa_nil)))))), ?_⟩
    obtain ⟨dx, hn⟩ := id hw.net
    have z8 := hw.ok.2.1
    refine ⟨_, rfl, _, rfl, n, dx, _, rfl, hn, n, dx, _, _, rfl, hn, rfl, v, d, r, zs, rfl, hd, SqT.of hw.rt, z8, fun b hb H1 s1 => ⟨_, rfl, ifE (fun c1 => ?_) fun c1 => ?_⟩⟩
    · obtain ⟨rs, rfl, l2, ll, mz, nd⟩ := hb.mp c1
      obtain ⟨a, hx, rfl⟩ : ∃ a, SqT K H a (rs.map V.str) ∧ v = .ref a := by
        cases hd with
        | tup hx ha =>
          rw [strs_at ha] at hx
          exact ⟨_, hx, rfl⟩
      have hx1 := SqT.same s1 hx
      have w1 := hw.same s1
      refine ⟨_, rfl, _, rfl, _, rfl, noPart (slA hx1 fun t H2 s2 ht => ?_)⟩
      rw [cut_tail] at ht
      have hx2 := SqT.same s2 hx1
      have w2 := w1.same s2
      refine ⟨a, t, _, _, rfl, .inr ⟨hx2, ht, fun D hD => ?_⟩⟩
      refine lc_it (walk_zipZ (zip_len _)) (fun i H' => H' D = some (.lst ((bools (fun j => @decide (∃ x, LkR ls (nmOf rs j) (nmOf rs (j + 1)) x) (Classical.propDecidable _)) i).map V.bl)) ∧ Same H2 H') ⟨upd_same, same_new hD⟩ (fun i H' _ q => ⟨SqT.same q.2 hx2, SqT.same q.2 ht⟩) ?_ ?_
      · rintro i x H3 H4 hi ⟨h2, s3⟩ ⟨U, u, v, rfl, nT, rfl, e1, e2⟩
        obtain ⟨y, hy, rfl⟩ := at_map e1
        obtain ⟨z, hz2, rfl⟩ := drop_at e2
        have sU := same_new (o := .tup [V.str y, V.str z]) nT
        rw [List.length_map] at hi
        refine ⟨U, _, rfl, SqT.of upd_same, rfl, _, _, rfl, _, _, rfl, rfl, rfl, ?_⟩
        dsimp only [tYes]
        rw [if_pos rfl]
        have yz := mz y (List.mem_of_getElem? hy)
        have zz := mz z (List.mem_of_getElem? hz2)
        have s4 := s3.trans sU
        have f1 := nm_of hy
        have f2 := nm_of hz2
        have fin : ∀ H5, Same (upd H3 U (.tup [V.str y, V.str z])) H5 → ∀ b : Bool, (b = true ↔ ∃ x, LkR ls y z x) → ∃ acc, H5 D = some (.lst acc) ∧ acc.length < sizeLine ∧ upd H5 D (.lst (acc ++ [V.bl b])) D = some (.lst ((bools (fun j => @decide (∃ x, LkR ls (nmOf rs j) (nmOf rs (j + 1)) x) (Classical.propDecidable _)) (i + 1)).map V.bl)) ∧ Same H2 (upd H5 D (.lst (acc ++ [V.bl b]))) := by
          intro H5 s5 b hb
          refine ⟨_, s5 _ _ (sU _ _ h2), by rw [List.length_map, bools_len, sizeLine_eq]; omega, ?_, Same.upd_at (s4.trans s5) hD⟩
          rw [upd_same, bools_succ, List.map_append]
          have e : b = @decide (∃ x, LkR ls (nmOf rs i) (nmOf rs (i + 1)) x) (Classical.propDecidable _) := by
            rw [Bool.eq_iff_iff, hb, ← f1, ← f2]
            exact ⟨fun h => @decide_eq_true _ (Classical.propDecidable _) h, fun h => @of_decide_eq_true _ (Classical.propDecidable _) h⟩
          rw [e]
          rfl
        have w4 := w2.same s4
        obtain ⟨dx4, hn4⟩ := id w4.net
        refine ⟨_, rfl, n, dx4, _, rfl, hn4, rfl, _, rfl, _, rfl, n, r, l, zs, ls, .str y, .str z, rfl, w4, (Dd.str y).odd, (Dd.str z).odd, fun a' b' ea eb _ _ v' H5 s5 alt => ?_, fun h => absurd ⟨y, yz, rfl⟩ h, fun _ h => absurd ⟨z, zz, rfl⟩ h⟩
        injection ea with ea
        injection eb with eb
        subst ea
        subst eb
        refine ⟨rfl, fin H5 s5 _ ?_⟩
        rcases alt with ⟨t', rfl, lk⟩ | ⟨rfl, no⟩
        · simp
          exact ⟨t', lk⟩
        · simp
          exact fun x h => no x h
      · rintro H3 ⟨h2, s3⟩
        refine ⟨D, _, rfl, SqL.of h2, k _ ?_ _ ((s1.trans s2).trans s3)⟩
        rw [bools_all, List.length_map]
        constructor
        · intro h
          exact ⟨rs, rfl, l2, nd, mz, fun j hj => @of_decide_eq_true _ (Classical.propDecidable _) (h j (by omega))⟩
        · rintro ⟨rs', e, _, _, _, lk⟩ j hj
          have := rowP_inj e
          subst this
          exact @decide_eq_true _ (Classical.propDecidable _) (lk j (by omega))
    · subst c1
      exact k false ⟨fun z => (nomatch z), fun ⟨rs, e, l2, nd, mz, _⟩ => hb.mpr ⟨rs, e, l2, nodup_le rs zs nd mz, mz, nd⟩⟩ _ s1
theorem ok_needR (T : Txt K mg ca ia fa fd fi) : FnOk P w K mg base (L2.CX P w) 7 (fa 41) (fd 41) ["net", "value"] (spNeedR K (ca 20) (ca 8)) := by
  have G_is_linked := ok_linkd (P := P) (w := w) (base := base) T
  have G_is_rising := ok_risR (P := P) (w := w) (base := base) T
  obtain ⟨tkM, hv_MOST_ROWS⟩ := T.v_MOST_ROWS
  refine T.F_need_rows.okX sc_need_rows (fun vs H Q E h => ?_) (fun cdv A outer s H vs Q E hr h => ?_)
  · obtain ⟨n, r, l, zs, ls, v, d, rfl, _⟩ := h
    rfl
  · obtain ⟨n, r, l, zs, ls, v, d, rfl, hw, hd, k1, k2⟩ := h
    refine ⟨_, (pss_cons (ps_if (PW.pt (pw_or (pt_not (pt_val (pe_callB call_isi (by rfl) T.n_isinstance (by decide +kernel) (pa_cons (pv 1) (pa_cons (pe_bltn (v := .ty "tuple") (by rfl) T.n_tuple (by decide +kernel) rfl) pa_nil))))) (pw_or1 (pt_not (pt_chain op_le op_le pe_int (pe_callB call_len (by rfl) T.n_len (by decide +kernel) (pa_cons (pv 1) pa_nil)) (pe_glob rfl hv_MOST_ROWS (v := .int 8) ⟨_, rfl⟩)))))) (pss_one (ps_raise rfl (takes_of rfl rfl rfl rfl) (pmk_oex T.c_BadRows.oex T.iC_BadRows T.tI_BadRows (in_BadRows T) (hr.mono (by decide)) T.bi_BadRows .nil pass0 rfl T.c_BadRows.g (pa_cons (pv 1) pa_nil)))) pss_nil)
      (pss_one (ps_if (PW.pt (pw_or (pt_not (pt_val (pe_callB (cr_all rfl) (by rfl) T.n_all (by decide +kernel) (pa_cons (pe_lc (own := [("row", 2)]) (g := (gName 2)) (tt := tYes) rfl sc_need_rows.nd (pi_tup (pv 1)) (blkOk_by (own := [("row", 2)]) (N := N_need_rows) (sc := defScope s_need_rows) (by decide +kernel)) (fun _ _ _ _ _ => (pg_name (i := 2) sc_need_rows.nd rfl (Or.inl rfl))) (fun _ _ _ _ _ => pts_nil) (fun _ _ _ _ _ => by exact (pe_call G_is_linked (hr.mono (by decide)) rfl T.g_is_linked T.k_is_linked T.b_is_linked .nil pass0 (pa_cons (pv 2) (pa_cons (pv 0) pa_nil))))) pa_nil)))) (pw_or1 (pt_not (pt_val (pe_call G_is_rising (hr.mono (by decide)) rfl T.g_is_rising T.k_is_rising T.b_is_rising .nil pass0 (pa_cons (pv 1) pa_nil))))))) (pss_one (ps_raise rfl (takes_of rfl rfl rfl rfl) (pmk_oex T.c_BadRows.oex T.iC_BadRows T.tI_BadRows (in_BadRows T) (hr.mono (by decide)) T.bi_BadRows .nil pass0 rfl T.c_BadRows.g (pa_cons (pv 1) pa_nil)))) pss_nil))), ?_⟩
    obtain ⟨t, ty, e1, e2, e3, e4⟩ := hd.kits
    refine ⟨_, rfl, _, _, _, _, _, rfl, .ty _, ty, e4, _, rfl, ?_⟩
    cases htup : tupB d with
    | false =>
      have no : ¬ RowsD (LkR ls) zs d := fun ⟨rss, e, _⟩ => by rw [e] at htup; cases htup
      refine iteB rfl ?_
      exact ⟨_, rfl, oexc fun d H' s e => k2 no d H' s e⟩
    | true =>
      refine iteB2 rfl ?_
      obtain ⟨a, xs, ds, rfl, rfl, hx, ha⟩ := tupB_of hd htup
      have lx := dd_len ha
      have noL : ¬ (1 ≤ xs.length ∧ xs.length ≤ 8) → ¬ RowsD (LkR ls) zs (.tuple ds) := fun q ⟨rss, e, l1, l8, _⟩ => by
        injection e with e
        rw [e, List.length_map] at lx
        exact q ⟨by omega, by omega⟩
      refine ⟨_, rfl, _, _, rfl, .inr ⟨_, hx, rfl⟩, _, _, rfl, rfl, _, rfl, ifE (fun c1 => ?_) fun c1 => ?_⟩
      · have c1 := of_decide_eq_true c1
        refine ⟨_, _, rfl, rfl, _, rfl, ifE (fun c2 => ?_) fun c2 => ?_⟩
        · have c2 : ¬ xs.length ≤ 8 := by
            simp at c2
            omega
          exact ⟨_, rfl, oexc fun e H' s h => k2 (noL fun q => c2 q.2) e H' s h⟩
        · have c2 : xs.length ≤ 8 := by
            simp at c2
            omega
          refine nxt ?_
          refine ⟨_, rfl, a, rfl, ⟨_, hx⟩, fun D hD => ?_⟩
          refine lc_it (walk_tup (xs := xs)) (fun i H' => H' D = some (.lst ((bools (fun j => @decide (∃ d rs, ds[j]? = some d ∧ d = rowP rs ∧ RowD (LkR ls) zs rs) (Classical.propDecidable _)) i).map V.bl)) ∧ Same H H') ⟨upd_same, same_new hD⟩ (fun i H' _ q => SqT.same q.2 hx) ?_ ?_
          · rintro i x H1 H2 hi ⟨h2, s2⟩ ⟨rfl, hxi⟩
            obtain ⟨d, hdi, hdd⟩ := dd_at ha hxi
            refine ⟨rfl, ?_⟩
            dsimp only [tYes]
            rw [if_pos rfl]
            refine ⟨_, rfl, _, rfl, x, d, n, r, l, zs, ls, rfl, hw.same s2, hdd.same s2, fun b hb H3 s3 => ?_⟩
            refine ⟨_, s3 _ _ h2, by rw [List.length_map, bools_len, sizeLine_eq]; omega, ?_, Same.upd_at (s2.trans s3) hD⟩
            have e : b = @decide (∃ d rs, ds[i]? = some d ∧ d = rowP rs ∧ RowD (LkR ls) zs rs) (Classical.propDecidable _) := by
              rw [Bool.eq_iff_iff, hb]
              refine ⟨fun ⟨rs, h⟩ => @decide_eq_true _ (Classical.propDecidable _) ⟨d, rs, hdi, h⟩, fun h => ?_⟩
              obtain ⟨d', rs, e1, h⟩ := @of_decide_eq_true _ (Classical.propDecidable _) h
              rw [hdi] at e1
              injection e1 with e1
              rw [e1]
              exact ⟨rs, h⟩
            rw [upd_same, bools_succ, List.map_append, e]
            rfl
          · rintro H2 ⟨h2, s2⟩
            refine ⟨D, _, rfl, SqL.of h2, _, rfl, ?_⟩
            have allD : (bools (fun j => @decide (∃ d rs, ds[j]? = some d ∧ d = rowP rs ∧ RowD (LkR ls) zs rs) (Classical.propDecidable _)) xs.length).all id = true ↔ ∀ d ∈ ds, ∃ rs, d = rowP rs ∧ RowD (LkR ls) zs rs := by
              rw [bools_all]
              constructor
              · intro h d m
                obtain ⟨j, hj⟩ := List.getElem?_of_mem m
                obtain ⟨d', rs, e1, h⟩ := @of_decide_eq_true _ (Classical.propDecidable _) (h j (by have := (List.getElem?_eq_some_iff.mp hj).1; omega))
                rw [hj] at e1
                injection e1 with e1
                rw [e1]
                exact ⟨rs, h⟩
              · intro h j hj
                have hj' : ds[j]? = some ds[j] := List.getElem?_eq_getElem (by omega)
                obtain ⟨rs, h⟩ := h _ (List.mem_of_getElem? hj')
                exact @decide_eq_true _ (Classical.propDecidable _) ⟨_, rs, hj', h⟩
            refine ifE (fun c3 => iteB rfl ?_) fun c3 => ?_
            · refine ⟨_, rfl, oexc fun e H' s h => k2 (fun ⟨rss, e, _, _, al, _⟩ => ?_) e H' (s2.trans s) h⟩
              injection e with e
              rw [allD.mpr (fun d m => by
                rw [e] at m
                obtain ⟨rs, mr, rfl⟩ := List.mem_map.mp m
                exact ⟨rs, rfl, al rs mr⟩)] at c3
              cases c3
            · have c3 := allD.mp (by simpa using c3)
              obtain ⟨qs, rfl, rfl, q3, q4⟩ := rows_of ha c3
              rw [List.length_map] at c1 c2
              refine ⟨_, rfl, a, qs, rfl, SqT.same s2 hx, fun q m => SqT.same s2 (q3 q m), by omega, fun b hb H3 s3 => ⟨_, rfl, ifE (fun c4 => ?_) fun c4 => ?_⟩⟩
              · refine ⟨_, rfl, oexc fun e H' s h => k2 (fun ⟨rss, e, _, _, al, ri⟩ => ?_) e H' ((s2.trans s3).trans s) h⟩
                injection e with e
                have := rows_inj e
                rw [← this] at ri
                rw [hb.mpr ri] at c4
                cases c4
              · have bt : b = true := by simpa using c4
                refine k1 ⟨qs.map (·.2), rfl, by rw [List.length_map]; omega, by rw [List.length_map]; omega, fun rs m => ?_, hb.mp bt⟩ _ (s2.trans s3)
                obtain ⟨q, mq, rfl⟩ := List.mem_map.mp m
                exact q4 q mq
      · have c1 := of_decide_eq_false c1
        refine ⟨_, rfl, iteB rfl ?_⟩
        exact ⟨_, rfl, oexc fun e H' s h => k2 (noL fun q => c1 (by omega)) e H' s h⟩
/-- is_tuple_of(value, many) -/
def lenT : PyData → Nat → Bool
  | .tuple ds, n => decide (ds.length = n)
  | _, _ => false
def spTupleOf (K : PySem.W.Frag) : Sp := fun vs H Q _ => ∃ (v : V) (d : PyData) (n : Nat), vs = [v, .int (n : Int)] ∧ Dd K H v d ∧ Q (.bl (lenT d n)) H
theorem dd_lenA {K : PySem.W.Frag} {H : Hp} : ∀ {xs : List V} {ds : List PyData}, DdAll K H xs ds → xs.length = ds.length
  | [], [], .nil => rfl
  | _ :: _, _ :: _, .cons _ t => by rw [List.length_cons, List.length_cons, dd_lenA t]
theorem ok_tupleOf (T : Txt K mg ca ia fa fd fi) : FnOk P w K mg base CX0 1 (fa 13) (fd 13) ["value", "many"] (spTupleOf K) := by
  refine T.F_is_tuple_of.ok sc_is_tuple_of (fun vs H Q E h => ?_) (fun cdv A outer s H vs Q E hr h => ?_)
  · obtain ⟨v, d, n, rfl, _⟩ := h
    rfl
  · obtain ⟨v, d, n, rfl, hd, k⟩ := h
    refine ⟨_, (pss_one (ps_ret (pe_and (pe_callB call_isi (by rfl) T.n_isinstance (by decide +kernel) (pa_cons (pv 0) (pa_cons (pe_bltn (v := .ty "tuple") (by rfl) T.n_tuple (by decide +kernel) rfl) pa_nil))) (pe_one (pe_cmpR op_eq (pe_callB call_len (by rfl) T.n_len (by decide +kernel) (pa_cons (pv 0) pa_nil)) (pv 1) (nomark _)))))), ?_⟩
    obtain ⟨t, ty, _, _, _, e4⟩ := hd.kits
    refine ⟨_, rfl, _, _, _, _, _, rfl, .ty _, ty, e4, _, rfl, ifE (fun c => ?_) fun c => ?_⟩
    · obtain ⟨a, xs, ds, rfl, rfl, hx, ha⟩ := tupB_of hd c
      refine ⟨_, rfl, _, _, rfl, .inr ⟨_, hx, rfl⟩, _, rfl, rfl, ?_⟩
      have l := dd_lenA ha
      have e : decide (V.int (xs.length : Int) = V.int (n : Int)) = lenT (.tuple ds) n := by
        show _ = decide (ds.length = n)
        rw [l, Bool.eq_iff_iff, decide_eq_true_iff, decide_eq_true_iff]
        constructor
        · intro h
          injection h with h
          omega
        · intro h
          rw [h]
      rw [e]
      exact k
    · have e : lenT d n = false := by
        cases d <;> first | rfl | (cases c; done)
      rw [e] at k
      first | exact k | (rw [c]; exact k)
theorem ok_showsW (T : Txt K mg ca ia fa fd fi) : FnOk P w K mg base (L2.CX P w) 8 (fa 40) (fd 40) ["net", "rows", "value"] (spShowsW K (ca 20) (ca 8)) := by
  have G_need_rows := ok_needR (P := P) (w := w) (base := base) T
  have G_is_tuple_of := ok_tupleOf (P := P) (w := w) (base := base) T
  refine T.F_shows_wanted.okX sc_shows_wanted (fun vs H Q E h => ?_) (fun cdv A outer s H vs Q E hr h => ?_)
  · obtain ⟨n, r, l, zs, ls, v, d, rfl, _⟩ := h
    rfl
  · obtain ⟨n, r, l, zs, ls, v, d, rfl, hw, hd, k1, k2⟩ := h
    refine ⟨_, (pss_cons (ps_expr (pe_call G_need_rows (hr.mono (by decide)) rfl T.g_need_rows T.k_need_rows T.b_need_rows .nil (passes_call (takes_of rfl rfl rfl rfl) fun _ _ _ _ h => h) (pa_cons (pv 0) (pa_cons (pv 1) pa_nil))))
      (pss_cons (ps_if (PW.pt (pw_or (pt_not (pt_val (pe_call G_is_tuple_of (hr.mono (by decide)) rfl T.g_is_tuple_of T.k_is_tuple_of T.b_is_tuple_of .nil pass0 (pa_cons (pv 2) (pa_cons pe_int pa_nil))))) (pw_or1 (pt_not (pt_val (pe_callB call_isi (by rfl) T.n_isinstance (by decide +kernel) (pa_cons (pe_ix ix_seq (pv 2) pe_int (fun _ _ => rfl)) (pa_cons (pe_bltn (v := .ty "tuple") (by rfl) T.n_tuple (by decide +kernel) rfl) pa_nil)))))))) (pss_one (ps_ret pe_bl)) pss_nil) pss_dead)), ?_⟩
    refine ⟨_, rfl, _, rfl, n, r, l, zs, ls, v, d, rfl, hw, hd, fun y H1 s1 => nxt ?_, k2⟩
    refine ⟨_, rfl, .non, _, 2, rfl, .non, _, rfl, iteB rfl ?_⟩
    exact k1 y H1 s1
theorem ok_wanted (T : Txt K mg ca ia fa fd fi) : FnOk P w K mg base (L2.CX P w) 8 (fa 39) (fd 39) ["net", "rows"] (spWanted K (ca 20) (ca 8)) := by
  have G_need_rows := ok_needR (P := P) (w := w) (base := base) T
  refine T.F_wanted.okX sc_wanted (fun vs H Q E h => ?_) (fun cdv A outer s H vs Q E hr h => ?_)
  · obtain ⟨n, r, l, zs, ls, v, d, rfl, _⟩ := h
    rfl
  · obtain ⟨n, r, l, zs, ls, v, d, rfl, hw, hd, no, k2⟩ := h
    refine ⟨_, (pss_cons (ps_expr (pe_call G_need_rows (hr.mono (by decide)) rfl T.g_need_rows T.k_need_rows T.b_need_rows .nil (passes_call (takes_of rfl rfl rfl rfl) fun _ _ _ _ h => h) (pa_cons (pv 0) (pa_cons (pv 1) pa_nil)))) pss_dead), ?_⟩
    exact ⟨_, rfl, _, rfl, n, r, l, zs, ls, v, d, rfl, hw, hd, fun y => absurd y no, fun _ => k2⟩
end
end Toy
set_option Elab.async false
set_option linter.all false
set_option maxRecDepth 100000
set_option maxHeartbeats 2000000
namespace Toy
open PySem L2 Q RZ D7
/-! ### worlds -/
/-- a world: its routers, its links, lengths up to N -/
structure Wd (H : Hp) (N : Nat) (wl r l : Addr) (zs : List Str) (ls : List (Addr × List Key)) : Prop where
  wl_ : H wl = some (.tup [.ref r, .ref l])
  r_ : H r = some (.tup (zs.map V.str))
  l_ : H l = some (.tup (ls.map fun q => V.ref q.1))
  el : ∀ q ∈ ls, H q.1 = some (.tup (q.2.map kV)) ∧ ∃ (a b : Str) (x y : Nat), q.2 = linkK a b x y ∧ a ∈ zs ∧ b ∈ zs ∧ tLt a b ∧ 1 ≤ x ∧ x ≤ N ∧ 1 ≤ y ∧ y ≤ N
  up : ls.Pairwise (fun q r => ksLt (q.2.take 2) (r.2.take 2) = true)
  few : ls.length ≤ 16
  pw : zs.Pairwise tLt
  nok : ∀ z ∈ zs, NameOk z
  l2 : 2 ≤ zs.length
  l8 : zs.length ≤ 8
section
variable {H H' : Hp} {N M : Nat} {wl r l : Addr} {zs : List Str} {ls : List (Addr × List Key)}
theorem Wd.same (h : Wd H N wl r l zs ls) (s : Same H H') : Wd H' N wl r l zs ls :=
  ⟨s _ _ h.wl_, s _ _ h.r_, s _ _ h.l_, fun q hq => ⟨s _ _ (h.el q hq).1, (h.el q hq).2⟩, h.up, h.few, h.pw, h.nok, h.l2, h.l8⟩
theorem Wd.more (h : Wd H N wl r l zs ls) (le : N ≤ M) : Wd H M wl r l zs ls :=
  ⟨h.wl_, h.r_, h.l_, fun q hq => by
    obtain ⟨h1, a, b, x, y, e, h2, h3, h4, h5, h6, h7, h8⟩ := h.el q hq
    exact ⟨h1, a, b, x, y, e, h2, h3, h4, h5, Nat.le_trans h6 le, h7, Nat.le_trans h8 le⟩, h.up, h.few, h.pw, h.nok, h.l2, h.l8⟩
theorem Wd.lks (h : Wd H N wl r l zs ls) : Lks H zs l ls := by
  refine ⟨h.l_, fun q hq => ?_, h.up, by have := h.few; omega⟩
  obtain ⟨z, a, b, x, y, e2, ha, hb, ab, x1, _, y1, _⟩ := h.el q hq
  exact ⟨z, a, b, (x : Int), (y : Int), e2, ha, hb, ab, by omega, by omega⟩
theorem Wd.ix (h : Wd H N wl r l zs ls) {K : PySem.W.Frag} {Q : VK} (i : Nat) {v : V} (e : ([V.ref r, V.ref l] : List V)[i]? = some v) (q : Q v H) : rIx K (.ref wl) (.int (i : Int)) H Q := .inr (.inl ⟨wl, _, (i : Int), v, rfl, rfl, SqT.of h.wl_, atI_nat e, q⟩)
end
theorem Wd.but {H H' : Hp} {N B : Nat} {p wl r l : Addr} {zs : List Str} {ls : List (Addr × List Key)} (h : Wd H N wl r l zs ls) (hp : Pot H p B) (b : But p H H') : Wd H' N wl r l zs ls :=
  ⟨b _ _ (tup_notp h.wl_ hp) h.wl_, b _ _ (tup_notp h.r_ hp) h.r_, b _ _ (tup_notp h.l_ hp) h.l_, fun q hq => ⟨b _ _ (tup_notp (h.el q hq).1 hp) (h.el q hq).1, (h.el q hq).2⟩, h.up, h.few, h.pw, h.nok, h.l2, h.l8⟩
theorem NetW.but {C p n r l : Addr} {H H' : Hp} {B : Nat} {zs : List Str} {ls : List (Addr × List Key)} (h : NetW C H n r l zs ls) (hp : Pot H p B) (b : But p H H') : NetW C H' n r l zs ls := by
  obtain ⟨dx, e⟩ := h.net
  refine ⟨⟨dx, b _ _ (fun z => ?_) e⟩, b _ _ (tup_notp h.rt hp) h.rt, h.ok, h.pw, ⟨b _ _ (tup_notp h.lk.at_ hp) h.lk.at_, fun q hq => ⟨b _ _ (tup_notp (h.lk.el q hq).1 hp) (h.lk.el q hq).1, (h.lk.el q hq).2⟩, h.lk.up, h.lk.few⟩, h.m⟩
  obtain ⟨_, _, _, q, _⟩ := hp
  rw [z, q] at e
  cases e
/-- _law_made(world) -/
def spMade (C : Addr) : Sp := fun vs H Q _ => ∃ (N : Nat) (wl r l : Addr) (zs : List Str) (ls : List (Addr × List Key)), vs = [.ref wl] ∧ Wd H N wl r l zs ls ∧ ∀ n H', Same H H' → NetW C H' n r l zs ls → Q (.ref n) H'
section
variable {P : Program} {w : World} {K : PySem.W.Frag} {mg : Str → Option Value} {base : Heap} {ca ia fa : Nat → Addr} {fd fi : Nat → FuncData}
theorem ok_made (T : Txt K mg ca ia fa fd fi) : FnOk P w K mg base CX0 8 (fa 63) (fd 63) ["_law_world_here"] (spMade (ca 20)) := by
  have G_m_init := ok_init (P := P) (w := w) (base := base) T
  refine T.F_l_made.ok sc_l_made (fun vs H Q E h => ?_) (fun cdv A outer s H vs Q E hr h => ?_)
  · obtain ⟨N, wl, r, l, zs, ls, rfl, _⟩ := h
    rfl
  · obtain ⟨N, wl, r, l, zs, ls, rfl, hw, k⟩ := h
    refine ⟨_, (pss_one (ps_ret (pe_make T.M_Net G_m_init (hr.mono (by decide)) rfl T.g_Net T.b_m_init .nil passL (pa_cons (pe_ix ix_seq (pv 0) pe_int (fun _ _ => rfl)) (pa_cons (pe_ix ix_seq (pv 0) pe_int (fun _ _ => rfl)) pa_nil))))), ?_⟩
    refine ⟨_, rfl, hw.ix 0 rfl ⟨_, rfl, hw.ix 1 rfl ?_⟩⟩
    have ok : RtOk zs := ⟨hw.l2, hw.l8, hw.nok⟩
    refine mk_net hw.r_ (fun z hz => by have := (hw.nok z hz).2.1; omega) (by have := hw.l8; omega) hw.pw hw.lks (fun _ n H' nn s e => k n H' s ⟨e, s _ _ hw.r_, ok, hw.pw, hw.lks.same s, hw.few⟩) (fun n => absurd ⟨ok, hw.few⟩ n)
end
end Toy
set_option Elab.async false
set_option linter.all false
set_option maxRecDepth 100000
set_option maxHeartbeats 4000000
namespace Toy
open PySem L2 Q RZ D7
theorem mem_putK {κ : Type} [DecidableEq κ] {kvs : List (κ × V)} {k : κ} {v : V} {p : κ × V} (h : p ∈ putK kvs k v) : p.1 = k ∨ ∃ q ∈ kvs, q.1 = p.1 := by
  unfold putK at h
  split at h
  · obtain ⟨q, hq, e⟩ := List.mem_map.mp h
    split at e
    · rename_i z
      rw [← e]
      exact .inl z
    · rw [← e]
      exact .inr ⟨q, hq, rfl⟩
  · rcases List.mem_append.mp h with h | h
    · exact .inr ⟨p, h, rfl⟩
    · rw [List.mem_singleton.mp h]
      exact .inl rfl
/-- a dict of the lengths, by pairs -/
def DL (kvs : List (List Key × V)) (ls : List (Addr × List Key)) : Prop := ∀ a b : Str, (∃ x : Int, valV kvs [.inr a, .inr b] = some (.int x) ∧ LkR ls a b x) ∨ (valV kvs [.inr a, .inr b] = none ∧ ∀ x : Int, ¬ LkR ls a b x)
/-- .. and every key is a pair of joined routers -/
def KP (kvs : List (List Key × V)) : Prop := ∀ p ∈ kvs, ∃ a b : Str, p.1 = [.inr a, .inr b]
theorem KP.put {kvs : List (List Key × V)} (h : KP kvs) (a b : Str) (v : V) : KP (putK kvs [.inr a, .inr b] v) := fun p hp => by
  rcases mem_putK hp with e | ⟨q, hq, e⟩
  · exact ⟨a, b, e⟩
  · obtain ⟨x, y, z⟩ := h q hq
    exact ⟨x, y, e ▸ z⟩
theorem KP.get {kvs : List (List Key × V)} {ls : List (Addr × List Key)} (h : KP kvs) (dl : DL kvs ls) {p : List Key × V} (hp : p ∈ kvs) : ∃ (a b : Str) (x : Int), p.1 = [.inr a, .inr b] ∧ valV kvs [.inr a, .inr b] = some (.int x) ∧ LkR ls a b x := by
  obtain ⟨a, b, e⟩ := h p hp
  rcases dl a b with ⟨x, h1, h2⟩ | ⟨h1, _⟩
  · exact ⟨a, b, x, e, h1, h2⟩
  · exfalso
    unfold valV at h1
    rw [Option.map_eq_none_iff, List.find?_eq_none] at h1
    exact h1 p hp (decide_eq_true e)
theorem KP.has {kvs : List (List Key × V)} {ls : List (Addr × List Key)} (h : KP kvs) (dl : DL kvs ls) {a b : Str} {x : Int} (r : ∀ y, LkR ls a b y → y = x) (hl : LkR ls a b x) : valV kvs [.inr a, .inr b] = some (.int x) ∧ ∃ p ∈ kvs, p.1 = [.inr a, .inr b] := by
  rcases dl a b with ⟨y, h1, h2⟩ | ⟨_, h2⟩
  · have := r y h2
    subst this
    refine ⟨h1, ?_⟩
    unfold valV at h1
    obtain ⟨p, hp, _⟩ := Option.map_eq_some_iff.mp h1
    have hd := List.find?_some hp
    exact ⟨p, List.mem_of_find?_eq_some hp, of_decide_eq_true hd⟩
  · exact absurd hl (h2 x)
def spLengths : Sp := fun vs H Q _ => ∃ (l : Addr) (zs : List Str) (ls : List (Addr × List Key)), vs = [.ref l] ∧ Lks H zs l ls ∧ ls.length ≤ 16 ∧ ∀ p kvs H', Same H H' → H p = none → H' p = some (.dT kvs) → DL kvs ls → KP kvs → kvs.length ≤ 32 → Q (.ref p) H'
section
variable {P : Program} {w : World} {K : PySem.W.Frag} {mg : Str → Option Value} {base : Heap} {ca ia fa : Nat → Addr} {fd fi : Nat → FuncData}
theorem ok_lengths (T : Txt K mg ca ia fa fd fi) : FnOk P w K mg base CX0 1 (fa 64) (fd 64) ["_law_links"] spLengths := by
  refine T.F_l_lengths.ok sc_l_lengths (fun vs H Q E h => ?_) (fun cdv A outer s H vs Q E hr h => ?_)
  · obtain ⟨l, zs, ls, rfl, _⟩ := h
    rfl
  · obtain ⟨l, zs, ls, rfl, hl, few, k⟩ := h
    refine ⟨_, (pss_cons (ps_set (i := 1) sc_l_lengths.nd rfl (Or.inl rfl) pe_dnewT)
      (pss_cons (ps_for PassesOwn.never rfl (pi_tup (pv 0)) (pg_tup rfl (pgs_cons (pg_name (i := 2) sc_l_lengths.nd rfl (Or.inl rfl)) (pgs_cons (pg_name (i := 3) sc_l_lengths.nd rfl (Or.inl rfl)) (pgs_cons (pg_name (i := 4) sc_l_lengths.nd rfl (Or.inl rfl)) (pgs_cons (pg_name (i := 5) sc_l_lengths.nd rfl (Or.inl rfl)) pgs_nil))))) (pss_one (ps_asg (pe_tup (pa_cons (pv 4) (pa_cons (pv 5) pa_nil))) (pg_tup rfl (pgs_cons (pg_sub (pv 1) (pe_tup (pa_cons (pv 2) (pa_cons (pv 3) pa_nil))) (set_dict (roomU1 hr))) (pgs_cons (pg_sub (pv 1) (pe_tup (pa_cons (pv 3) (pa_cons (pv 2) pa_nil))) (set_dict (roomU1 hr))) pgs_nil))))))
      (pss_one (ps_ret (pv 1))))), ?_⟩
    refine fun p np => ?_
    refine ⟨_, rfl, l, rfl, ⟨_, SqT.of (same_new np _ _ hl.at_)⟩, ?_⟩
    refine for_it (walk_tup (xs := ls.map fun q => V.ref q.1)) (fun i σ H' => ∃ (kvs : List (List Key × V)) (x2 x3 x4 x5 : Option V), σ = [some (.ref l), some (.ref p), x2, x3, x4, x5] ∧ H' p = some (.dT kvs) ∧ kvs.length ≤ 2 * i ∧ DL kvs (ls.take i) ∧ Same H H' ∧ KP kvs)
      ⟨[], none, none, none, none, rfl, upd_same, Nat.zero_le _, fun a b => .inr ⟨rfl, fun x ⟨q, hq, _⟩ => (nomatch hq)⟩, same_new np, fun p hp => (nomatch hp)⟩ (fun i σ H' _ ⟨_, _, _, _, _, _, _, _, _, s, _⟩ => SqT.of (s _ _ hl.at_)) ?_ ?_
    · rintro i x σ H1 H2 hi ⟨kvs, x2, x3, x4, x5, rfl, hp, kl, dl, sm, kp⟩ ⟨rfl, hx⟩
      obtain ⟨q, hq, rfl⟩ := at_map hx
      have mq := List.mem_of_getElem? hq
      obtain ⟨eq, c, e, cx, cy, e3, hc, he, ce, _⟩ := hl.el q mq
      rw [e3] at eq
      refine ⟨q.1, _, rfl, SqT.of (sm _ _ eq), rfl, _, _, rfl, _, _, rfl, _, _, rfl, _, _, rfl, rfl, ?_⟩
      refine ⟨_, rfl, _, rfl, by show 2 ≤ sizeLine; decide, fun t nt => ⟨t, _, rfl, SqT.of upd_same, rfl, _, _, rfl, _, rfl, _, rfl, _, rfl, by show 2 ≤ sizeLine; decide, fun t1 n1 => ?_⟩⟩
      have lim : kvs.length < sizeLine := by
        rw [sizeLine_eq]
        rw [List.length_map] at hi
        omega
      have st := same_new (o := .tup [.int cx, .int cy]) nt
      have s1 := same_new (o := .tup [.str c, .str e]) n1
      have hp1 := s1 _ _ (st _ _ hp)
      refine ⟨p, _, rfl, DPut.t (k := [.inr c, .inr e]) hp1 upd_same lim, _, _, rfl, _, rfl, _, rfl, _, rfl, by show 2 ≤ sizeLine; decide, fun t2 n2 => ?_⟩
      have len1 : ∀ v : V, (putK kvs [.inr c, .inr e] v).length ≤ kvs.length + 1 := fun v => length_putK _ _ v
      have tp2 : t2 ≠ p := fun z => by
        rw [z, upd_same] at n2
        cases n2
      refine ⟨p, _, rfl, DPut.t (k := [.inr e, .inr c]) (by rw [upd_ne (Ne.symm tp2), upd_same]) upd_same ?_, rfl, ?_⟩
      · have l1 := len1 (kV (Sum.inl cx))
        rw [sizeLine_eq] at lim ⊢
        rw [List.length_map] at hi
        omega
      refine nxt ⟨_, _, _, _, _, rfl, upd_same, ?_, ?_, ?_, (kp.put c e _).put e c _⟩
      · refine Nat.le_trans (length_putK _ _ _) ?_
        have l1 := len1 (kV (Sum.inl cx))
        omega
      · intro a b
        have tk : ls.take (i + 1) = ls.take i ++ [q] := by
          rw [List.take_add_one (l := ls), show ls[i]? = some q from hq]
          rfl
        have split : ∀ x : Int, LkR (ls.take (i + 1)) a b x ↔ LkR (ls.take i) a b x ∨ LkOf q.2 a b x := fun x => by
          rw [tk]
          constructor
          · rintro ⟨r, hr, lk⟩
            rcases List.mem_append.mp hr with hr | hr
            · exact .inl ⟨r, hr, lk⟩
            · rw [List.mem_singleton.mp hr] at lk
              exact .inr lk
          · rintro (⟨r, hr, lk⟩ | lk)
            · exact ⟨r, List.mem_append_left _ hr, lk⟩
            · exact ⟨q, List.mem_append_right _ (List.mem_singleton.mpr rfl), lk⟩
        rw [valV_put, valV_put]
        by_cases e1 : ([.inr a, .inr b] : List Key) = [.inr e, .inr c]
        · rw [if_pos e1]
          cases e1
          exact .inl ⟨cy, rfl, (split cy).mpr (.inr ⟨c, e, cx, cy, e3, .inr ⟨rfl, rfl, rfl⟩⟩)⟩
        · rw [if_neg e1]
          by_cases e2 : ([.inr a, .inr b] : List Key) = [.inr c, .inr e]
          · rw [if_pos e2]
            cases e2
            exact .inl ⟨cx, rfl, (split cx).mpr (.inr ⟨c, e, cx, cy, e3, .inl ⟨rfl, rfl, rfl⟩⟩)⟩
          · rw [if_neg e2]
            rcases dl a b with ⟨x, h1, h2⟩ | ⟨h1, h2⟩
            · exact .inl ⟨x, h1, (split x).mpr (.inl h2)⟩
            · refine .inr ⟨h1, fun x hx => ?_⟩
              rcases (split x).mp hx with hx | ⟨u, v, x1, y1, e5, z⟩
              · exact h2 x hx
              · rw [e3] at e5
                cases e5
                rcases z with ⟨rfl, rfl, _⟩ | ⟨rfl, rfl, _⟩
                · exact e2 rfl
                · exact e1 rfl
      · refine Same.upd_at (Same.trans ?_ (same_new n2)) np
        exact Same.upd_at ((sm.trans st).trans s1) np
    · rintro σ H1 ⟨kvs, x2, x3, x4, x5, rfl, hp, kl, dl, sm, kp⟩
      rw [List.length_map, List.take_length] at dl
      exact nxt ⟨_, rfl, k p kvs H1 sm np hp dl kp (by rw [List.length_map] at kl; omega)⟩
end
end Toy
set_option Elab.async false
set_option linter.all false
set_option maxRecDepth 100000
set_option maxHeartbeats 1000000
namespace Toy
open PySem L2 Q RZ D7
/-! ### the law's own look at rows -/
theorem ixT0 {K : PySem.W.Frag} {H : Hp} {N : Nat} {wl r l : Addr} {zs : List Str} {ls : List (Addr × List Key)} {Q : VK} (h : Wd H N wl r l zs ls) (q : Q (.ref r) H) : rIx K (.ref wl) (.int 0) H Q := h.ix 0 rfl q
theorem inS {K : PySem.W.Frag} {H : Hp} {p : Addr} {z : Str} {ys : List Str} {Q : VK} (h : SqT K H p (ys.map V.str)) (q : Q (.bl (decide (z ∈ ys))) H) : rIn K false (.str z) (.ref p) H Q :=
  ⟨p, _, rfl, .inr h, rfl, flat_strs ys, by
    have e : inV (.str z) (ys.map V.str) = decide (z ∈ ys) := by
      rw [Bool.eq_iff_iff, in_strs, decide_eq_true_iff]
    rw [e]
    exact q⟩
/-- _law_is_row(world, value) -/
def spLIsRow (K : PySem.W.Frag) : Sp := fun vs H Q _ => ∃ (N : Nat) (wl r l : Addr) (zs : List Str) (ls : List (Addr × List Key)) (v : V) (d : PyData), vs = [.ref wl, v] ∧ Wd H N wl r l zs ls ∧ Dd K H v d ∧ (∀ ds, d = .tuple ds → ds.length < 4000) ∧
  ∀ b : Bool, (b = true ↔ ∃ rs, d = rowP rs ∧ RowD (LkR ls) zs rs) → ∀ H', Same H H' → Q (.bl b) H'
/-- _law_are_rows(world, value) -/
def spLRows (K : PySem.W.Frag) : Sp := fun vs H Q _ => ∃ (N : Nat) (wl r l : Addr) (zs : List Str) (ls : List (Addr × List Key)) (v : V) (d : PyData), vs = [.ref wl, v] ∧ Wd H N wl r l zs ls ∧ Dd K H v d ∧ (∀ ds, d = .tuple ds → ∀ e ∈ ds, ∀ es, e = .tuple es → es.length < 4000) ∧
  ∀ b : Bool, (b = true ↔ RowsD (LkR ls) zs d) → ∀ H', Same H H' → Q (.bl b) H'
theorem strsB : ∀ {K : PySem.W.Frag} {H : Hp} {xs : List V} {ds : List PyData}, DdAll K H xs ds → (∀ j, j < xs.length → (ds[j]?.map strB).getD false = true) → ∃ rs : List Str, xs = rs.map V.str ∧ ds = rs.map PyData.str
  | _, _, _, _, .nil, _ => ⟨[], rfl, rfl⟩
  | _, _, _, _, .cons h t, al => by
    obtain ⟨rs, e1, e2⟩ := strsB t fun j hj => by
      have := al (j + 1) (by rw [List.length_cons]; omega)
      simpa using this
    have h0 := al 0 (by rw [List.length_cons]; omega)
    obtain ⟨z, rfl, rfl⟩ := strB_of h (by simpa using h0)
    exact ⟨z :: rs, by rw [e1]; rfl, by rw [e2]; rfl⟩
section
variable {P : Program} {w : World} {K : PySem.W.Frag} {mg : Str → Option Value} {base : Heap} {ca ia fa : Nat → Addr} {fd fi : Nat → FuncData}
theorem ok_lIsRow (T : Txt K mg ca ia fa fd fi) : FnOk P w K mg base CX0 2 (fa 70) (fd 70) ["_law_world_here", "_law_value"] (spLIsRow K) := by
  have G_l_lengths := ok_lengths (P := P) (w := w) (base := base) T
  refine T.F_l_is_row.ok sc_l_is_row (fun vs H Q E h => ?_) (fun cdv A outer s H vs Q E hr h => ?_)
  · obtain ⟨N, wl, r, l, zs, ls, v, d, rfl, _⟩ := h
    rfl
  · obtain ⟨N, wl, r, l, zs, ls, v, d, rfl, hw, hd, l4, k⟩ := h
    refine ⟨_, (pss_cons (ps_if (PW.pt (pw_or (pt_not (pt_val (pe_callB call_isA (by rfl) T.n_isinstance (by decide +kernel) (pa_cons (pv 1) (pa_cons (pe_bltn (v := .ty "tuple") (by rfl) T.n_tuple (by decide +kernel) rfl) pa_nil))))) (pw_or (pt_cmpR op_lt (pe_callB call_len (by rfl) T.n_len (by decide +kernel) (pa_cons (pv 1) pa_nil)) pe_int (nomark _)) (pw_or1 (pt_not (pt_val (pe_callB (cr_all rfl) (by rfl) T.n_all (by decide +kernel) (pa_cons (pe_lc (own := [("_law_one", 2)]) (g := (gName 2)) (tt := tYes) (te := (tCB (rIsA K) (tCons (tVar 2) (tCons (tC (.ty "str")) tNil)))) rfl sc_l_is_row.nd (pi_tup (pv 1)) (blkOk_by (own := [("_law_one", 2)]) (N := N_l_is_row) (sc := defScope s_l_is_row) (by decide +kernel)) (fun _ _ _ _ _ => (pg_name (i := 2) sc_l_is_row.nd rfl (Or.inl rfl))) (fun _ _ _ _ _ => pts_nil) (fun _ _ _ _ _ => by exact (pe_callB call_isA (by rfl) T.n_isinstance (by decide +kernel) (pa_cons (pv 2) (pa_cons (pe_bltn (v := .ty "str") (by rfl) T.n_str (by decide +kernel) rfl) pa_nil))))) pa_nil)))))))) (pss_one (ps_ret pe_bl)) pss_nil)
      (pss_cons (ps_if (PW.pt (pw_or (pt_not (pt_val (pe_callB (cr_all rfl) (by rfl) T.n_all (by decide +kernel) (pa_cons (pe_lc (own := [("_law_one", 2)]) (g := (gName 2)) (tt := tYes) (te := (tOp (rIn K false) (tVar 2) (tOp (rIx K) (tVar 0) (tC (.int 0))))) rfl sc_l_is_row.nd (pi_tup (pv 1)) (blkOk_by (own := [("_law_one", 2)]) (N := N_l_is_row) (sc := defScope s_l_is_row) (by decide +kernel)) (fun _ _ _ _ _ => (pg_name (i := 2) sc_l_is_row.nd rfl (Or.inl rfl))) (fun _ _ _ _ _ => pts_nil) (fun _ _ _ _ _ => by exact (pe_cmpR op_in_seq (pv 2) (pe_ix ix_seq (pv 0) pe_int (fun _ _ => rfl)) rfl))) pa_nil)))) (pw_or1 (pt_cmpR op_ne (pe_callB call_len (by rfl) T.n_len (by decide +kernel) (pa_cons (pe_callB (cr_sortTx rfl (roomU hr)) (by rfl) T.n_sorted (by decide +kernel) (pa_cons (pe_callTy (cr_setTxD rfl) (by rfl) T.n_set (by decide +kernel) (pa_cons (pv 1) pa_nil)) pa_nil)) pa_nil)) (pe_callB call_len (by rfl) T.n_len (by decide +kernel) (pa_cons (pv 1) pa_nil)) (nomark _))))) (pss_one (ps_ret pe_bl)) pss_nil)
      (pss_cons (ps_set (i := 3) sc_l_is_row.nd rfl (Or.inr rfl) (pe_call G_l_lengths (hr.mono (by decide)) rfl T.g_l_lengths T.k_l_lengths T.b_l_lengths .nil pass0 (pa_cons (pe_ix ix_seq (pv 0) pe_int (fun _ _ => rfl)) pa_nil)))
      (pss_one (ps_ret (pe_callB (cr_all rfl) (by rfl) T.n_all (by decide +kernel) (pa_cons (pe_lcZ (own := [("_law_pair", 4)]) (g := (gName 4)) (tt := tYes) (te := (tDIn (tVar 4) (tVar 3))) rfl sc_l_is_row.nd (piZ_zip (by rfl) T.n_zip (pa_cons (pv 1) (pa_cons (pe_slice (SlR.or sl_tupA sl_str) (pv 1) (po_some pe_int) po_none) pa_nil))) (blkOk_by (own := [("_law_pair", 4)]) (N := N_l_is_row) (sc := defScope s_l_is_row) (by decide +kernel)) (fun _ _ _ _ _ => (pg_name (i := 4) sc_l_is_row.nd rfl (Or.inl rfl))) (fun _ _ _ _ _ => pts_nil) (fun _ _ _ _ _ => by exact (pe_cmp (pc_din (roomU1 hr) (pv 4) (pv 3))))) pa_nil))))))), ?_⟩
    obtain ⟨t, ty, e1, e2, e3, e4⟩ := hd.kits
    refine ⟨_, rfl, .inl ⟨_, _, _, _, _, rfl, .ty _, ty, e4, _, rfl, ?_⟩⟩
    cases htup : tupB d with
    | false =>
      refine iteB rfl ?_
      exact k false ⟨fun z => (nomatch z), fun ⟨rs, e, _⟩ => by rw [e] at htup; cases htup⟩ H (Same.refl H)
    | true =>
      refine iteB2 rfl ?_
      obtain ⟨a, xs, ds, rfl, rfl, hx, ha⟩ := tupB_of hd htup
      have lx := dd_len ha
      have l4 := l4 ds rfl
      refine ⟨_, rfl, _, _, rfl, .inr ⟨_, hx, rfl⟩, _, _, rfl, rfl, _, rfl, ifE (fun c1 => ?_) fun c1 => ?_⟩
      · have c1 := of_decide_eq_true c1
        refine k false ⟨fun z => (nomatch z), fun ⟨rs, e, l2, _⟩ => ?_⟩ H (Same.refl H)
        unfold rowP at e
        injection e with e
        rw [e, List.length_map] at lx
        omega
      · have c1 := of_decide_eq_false c1
        refine ⟨_, rfl, a, rfl, ⟨_, hx⟩, fun D hD => ?_⟩
        refine lc_it (walk_tup (xs := xs)) (fun i H' => H' D = some (.lst ((bools (fun j => (ds[j]?.map strB).getD false) i).map V.bl)) ∧ Same H H') ⟨upd_same, same_new hD⟩ (fun i H' _ q => SqT.same q.2 hx) ?_ ?_
        · rintro i x H1 H2 hi ⟨h2, s2⟩ ⟨rfl, hxi⟩
          obtain ⟨d, hdi, hdd⟩ := dd_at ha hxi
          refine ⟨rfl, ?_⟩
          dsimp only [tYes]
          rw [if_pos rfl]
          obtain ⟨t', ty, f1, f2, f3, f4⟩ := (hdd.same s2).kits
          refine ⟨_, rfl, .inl ⟨_, _, _, _, _, rfl, .ty _, ty, f3, _, h2, by rw [List.length_map, bools_len, sizeLine_eq]; omega, ?_, Same.upd_at s2 hD⟩⟩
          rw [upd_same, bools_succ, List.map_append, hdi]
          rfl
        · rintro H2 ⟨h2, s2⟩
          refine ⟨D, _, rfl, SqL.of h2, _, rfl, ?_⟩
          refine ifE (fun c3 => ?_) fun c3 => ?_
          · refine k false ⟨fun z => (nomatch z), fun ⟨rs, e, _⟩ => ?_⟩ H2 s2
            unfold rowP at e
            injection e with e
            have al : (bools (fun j => (ds[j]?.map strB).getD false) xs.length).all id = true := bools_all.mpr fun j hj => by
              rw [e, List.getElem?_map, List.getElem?_eq_getElem (show j < rs.length by rw [e, List.length_map] at lx; omega)]
              rfl
            rw [al] at c3
            cases c3
          obtain ⟨rs, rfl, rfl⟩ := strsB ha (bools_all.mp (by simpa using c3))
          rw [List.length_map] at c1 l4
          refine nxt ?_
          have hx2 := SqT.same s2 hx
          have w2 := hw.same s2
          refine ⟨_, rfl, a, rfl, ⟨_, hx2⟩, fun D2 hD2 => ?_⟩
          refine lc_it (walk_tup (xs := rs.map V.str)) (fun i H' => H' D2 = some (.lst ((bools (fun j => decide (nmOf rs j ∈ zs)) i).map V.bl)) ∧ Same H2 H') ⟨upd_same, same_new hD2⟩ (fun i H' _ q => SqT.same q.2 hx2) ?_ ?_
          · rintro i x H3 H4 hi ⟨h3, s3⟩ ⟨rfl, hxi⟩
            obtain ⟨z, hz, rfl⟩ := at_map hxi
            refine ⟨rfl, ?_⟩
            dsimp only [tYes]
            rw [if_pos rfl]
            rw [List.length_map] at hi
            refine ⟨_, rfl, _, rfl, ixT0 (w2.same s3) (inS (SqT.of (w2.same s3).r_) ⟨_, h3, by rw [List.length_map, bools_len, sizeLine_eq]; omega, ?_, Same.upd_at s3 hD2⟩)⟩
            rw [upd_same, bools_succ, List.map_append, nm_of hz]
            rfl
          rintro H3 ⟨h3, s3⟩
          refine ⟨D2, _, rfl, SqL.of h3, _, rfl, ?_⟩
          have inz : (bools (fun j => decide (nmOf rs j ∈ zs)) (rs.map V.str).length).all id = true ↔ ∀ z ∈ rs, z ∈ zs := by
            rw [bools_all, List.length_map]
            constructor
            · intro h z m
              obtain ⟨j, hj⟩ := List.getElem?_of_mem m
              rw [nm_of hj]
              exact of_decide_eq_true (h j (List.getElem?_eq_some_iff.mp hj).1)
            · intro h j hj
              exact decide_eq_true (h _ (List.mem_of_getElem? (nm_at hj)))
          have s13 := s2.trans s3
          refine ifE (fun c4 => iteB rfl ?_) fun c4 => ?_
          · refine k false ⟨fun z => (nomatch z), fun ⟨rs', e, _, _, mz, _⟩ => ?_⟩ H3 s13
            have := rowP_inj (a := rs) e
            subst this
            rw [inz.mpr mz] at c4
            cases c4
          have mz := inz.mp (by simpa using c4)
          have hx3 := SqT.same s3 hx2
          refine ⟨_, rfl, a, rs, rfl, hx3, l4, fun A1 us ys nd mem len hv nA => ⟨A1, us, ys, rfl, upd_same, hv, nd, by omega, fun g ws pm pw ng => ?_⟩⟩
          have sA := same_new (o := SetM w A1 us) nA
          have sg := same_new (o := .lst (ws.map V.str)) ng
          have hx5 := SqT.same sg (SqT.same sA hx3)
          have s15 : Same H (upd (upd H3 A1 (SetM w A1 us)) g (.lst (ws.map V.str))) := (s13.trans sA).trans sg
          have wl : ws.length = rs.length ↔ rs.Nodup := by rw [pm.length_eq]; exact uniq_len nd mem
          refine ⟨_, _, rfl, .inl ⟨_, SqL.of upd_same, rfl⟩, _, rfl, _, _, rfl, .inr ⟨_, hx5, rfl⟩, rfl, _, rfl, ?_⟩
          refine ifE (fun c5 => ?_) fun c5 => ?_
          · refine k false ⟨fun z => (nomatch z), fun ⟨rs', e, _, nd', _⟩ => ?_⟩ _ s15
            have := rowP_inj (a := rs) e
            subst this
            rw [List.length_map, List.length_map, wl.mpr nd'] at c5
            simp at c5
          have nd' : rs.Nodup := wl.mp (by
            have c5 : (ws.length : Int) = (rs.length : Int) := by simpa using c5
            omega)
          have w5 := hw.same s15
          refine nxt ?_
          refine ⟨_, rfl, w5.ix 1 rfl ⟨l, zs, ls, rfl, w5.lks, w5.few, fun g kvs H6 s6 ng hg dl kp kfew => ?_⟩⟩
          have hx6 := SqT.same s6 hx5
          refine ⟨_, rfl, _, rfl, _, rfl, noPart (.inl (slA hx6 fun t H7 s7 ht => ?_))⟩
          rw [cut_tail] at ht
          have hx7 := SqT.same s7 hx6
          have hg7 := s7 _ _ hg
          refine ⟨a, t, _, _, rfl, hx7, ht, fun D3 hD3 => ?_⟩
          refine lcZ_it (walk_zipZ (zip_len _)) (fun i H' => H' D3 = some (.lst ((bools (fun j => @decide (∃ x, LkR ls (nmOf rs j) (nmOf rs (j + 1)) x) (Classical.propDecidable _)) i).map V.bl)) ∧ Same H7 H') ⟨upd_same, same_new hD3⟩ (fun i H' _ q => ⟨SqT.same q.2 hx7, SqT.same q.2 ht⟩) ?_ ?_
          · rintro i x H8 H9 hi ⟨h8, s8⟩ ⟨U, u, v, rfl, nT, rfl, f1, f2⟩
            obtain ⟨y, hy, rfl⟩ := at_map f1
            obtain ⟨z, hz2, rfl⟩ := drop_at f2
            have sU := same_new (o := .tup [V.str y, V.str z]) nT
            rw [List.length_map] at hi
            refine ⟨rfl, ?_⟩
            dsimp only [tYes]
            rw [if_pos rfl]
            refine ⟨_, rfl, _, rfl, g, _, rfl, DGet.t (k := [.inr y, .inr z]) (sU _ _ (s8 _ _ hg7)) upd_same, _, sU _ _ h8, by rw [List.length_map, bools_len, sizeLine_eq]; omega, ⟨?_, Same.upd_at (s8.trans sU) hD3⟩, fun b us e => by rw [upd_ne (fun q => by rw [q, sU _ _ h8] at e; cases e)]; exact e⟩
            have e : (valV kvs [.inr y, .inr z]).isSome = @decide (∃ x, LkR ls (nmOf rs i) (nmOf rs (i + 1)) x) (Classical.propDecidable _) := by
              rw [← nm_of hy, ← nm_of hz2, Bool.eq_iff_iff]
              rcases dl y z with ⟨x, h1, h2⟩ | ⟨h1, h2⟩
              · rw [h1]
                exact ⟨fun _ => @decide_eq_true _ (Classical.propDecidable _) ⟨x, h2⟩, fun _ => rfl⟩
              · rw [h1]
                exact ⟨fun h => (nomatch h), fun h => let ⟨x, hx⟩ := @of_decide_eq_true _ (Classical.propDecidable _) h; absurd hx (h2 x)⟩
            rw [upd_same, bools_succ, List.map_append, e]
            rfl
          · rintro H8 ⟨h8, s8⟩
            refine ⟨D3, _, rfl, SqL.of h8, k _ ?_ _ (((s15.trans s6).trans s7).trans s8)⟩
            rw [bools_all, List.length_map]
            constructor
            · intro h
              exact ⟨rs, rfl, by omega, nd', mz, fun j hj => @of_decide_eq_true _ (Classical.propDecidable _) (h j (by omega))⟩
            · rintro ⟨rs', e, _, _, _, lk⟩ j hj
              have := rowP_inj (a := rs) e
              subst this
              exact @decide_eq_true _ (Classical.propDecidable _) (lk j (by omega))
end
end Toy
set_option Elab.async false
set_option linter.all false
set_option maxRecDepth 100000
set_option maxHeartbeats 1000000
namespace Toy
open PySem L2 Q RZ D7
section
variable {P : Program} {w : World} {K : PySem.W.Frag} {mg : Str → Option Value} {base : Heap} {ca ia fa : Nat → Addr} {fd fi : Nat → FuncData}
theorem ok_lRows (T : Txt K mg ca ia fa fd fi) : FnOk P w K mg base CX0 3 (fa 71) (fd 71) ["_law_world_here", "_law_value"] (spLRows K) := by
  have G_l_is_row := ok_lIsRow (P := P) (w := w) (base := base) T
  refine T.F_l_are_rows.ok sc_l_are_rows (fun vs H Q E h => ?_) (fun cdv A outer s H vs Q E hr h => ?_)
  · obtain ⟨N, wl, r, l, zs, ls, v, d, rfl, _⟩ := h
    rfl
  · obtain ⟨N, wl, r, l, zs, ls, v, d, rfl, hw, hd, l4, k⟩ := h
    refine ⟨_, (pss_cons (ps_if (PW.pt (pw_or (pt_not (pt_val (pe_callB call_isA (by rfl) T.n_isinstance (by decide +kernel) (pa_cons (pv 1) (pa_cons (pe_bltn (v := .ty "tuple") (by rfl) T.n_tuple (by decide +kernel) rfl) pa_nil))))) (pw_or (pt_not (pt_chain op_le op_le pe_int (pe_callB call_len (by rfl) T.n_len (by decide +kernel) (pa_cons (pv 1) pa_nil)) pe_int)) (pw_or1 (pt_not (pt_val (pe_callB (cr_all rfl) (by rfl) T.n_all (by decide +kernel) (pa_cons (pe_lc (own := [("_law_row", 2)]) (g := (gName 2)) (tt := tYes) rfl sc_l_are_rows.nd (pi_tup (pv 1)) (blkOk_by (own := [("_law_row", 2)]) (N := N_l_are_rows) (sc := defScope s_l_are_rows) (by decide +kernel)) (fun _ _ _ _ _ => (pg_name (i := 2) sc_l_are_rows.nd rfl (Or.inl rfl))) (fun _ _ _ _ _ => pts_nil) (fun _ _ _ _ _ => by exact (pe_call G_l_is_row (hr.mono (by decide)) rfl T.g_l_is_row T.k_l_is_row T.b_l_is_row .nil pass0 (pa_cons (pv 0) (pa_cons (pv 2) pa_nil))))) pa_nil)))))))) (pss_one (ps_ret pe_bl)) pss_nil)
      (pss_one (ps_ret (pe_callB (cr_all rfl) (by rfl) T.n_all (by decide +kernel) (pa_cons (pe_lc (own := [("_law_one", 3), ("_law_other", 4)]) (g := (gTup K 2 (gCons (gName 3) (gCons (gName 4) gNil)))) (tt := tYes) (te := (tOp (rLtR K) (tVar 3) (tVar 4))) rfl sc_l_are_rows.nd (pi_zipA (by rfl) T.n_zip (pa_cons (pv 1) (pa_cons (pe_slice (SlR.or sl_tupA sl_str) (pv 1) (po_some pe_int) po_none) pa_nil))) (blkOk_by (own := [("_law_one", 3), ("_law_other", 4)]) (N := N_l_are_rows) (sc := defScope s_l_are_rows) (by decide +kernel)) (fun _ _ _ _ _ => (pg_tup rfl (pgs_cons (pg_name (i := 3) sc_l_are_rows.nd rfl (Or.inl rfl)) (pgs_cons (pg_name (i := 4) sc_l_are_rows.nd rfl (Or.inl rfl)) pgs_nil)))) (fun _ _ _ _ _ => pts_nil) (fun _ _ _ _ _ => by exact (pe_cmpR (op_ltR (roomU1 hr)) (pv 3) (pv 4) (nomark _)))) pa_nil))))), ?_⟩
    obtain ⟨t, ty, e1, e2, e3, e4⟩ := hd.kits
    refine ⟨_, rfl, .inl ⟨_, _, _, _, _, rfl, .ty _, ty, e4, _, rfl, ?_⟩⟩
    cases htup : tupB d with
    | false =>
      refine iteB rfl ?_
      exact k false ⟨fun z => (nomatch z), fun ⟨rs, e, _⟩ => by rw [e] at htup; cases htup⟩ H (Same.refl H)
    | true =>
      refine iteB2 rfl ?_
      obtain ⟨a, xs, ds, rfl, rfl, hx, ha⟩ := tupB_of hd htup
      have lx := dd_len ha
      have l4 := l4 ds rfl
      have noL : ¬ (1 ≤ xs.length ∧ xs.length ≤ 8) → ∀ H', Same H H' → Q (.bl false) H' := fun q H' s => k false ⟨fun z => (nomatch z), fun ⟨rss, e, l1, l8, _⟩ => by
        injection e with e
        rw [e, List.length_map] at lx
        exact (q ⟨by omega, by omega⟩).elim⟩ H' s
      refine ⟨_, rfl, _, _, rfl, .inr ⟨_, hx, rfl⟩, _, _, rfl, rfl, _, rfl, ifE (fun c1 => ?_) fun c1 => ?_⟩
      · have c1 := of_decide_eq_true c1
        refine ⟨_, _, rfl, rfl, _, rfl, ifE (fun c2 => ?_) fun c2 => ?_⟩
        · have c2 : ¬ xs.length ≤ 8 := by
            simp at c2
            omega
          exact noL (fun q => c2 q.2) H (Same.refl H)
        · have c2 : xs.length ≤ 8 := by
            simp at c2
            omega
          refine ⟨_, rfl, a, rfl, ⟨_, hx⟩, fun D hD => ?_⟩
          refine lc_it (walk_tup (xs := xs)) (fun i H' => H' D = some (.lst ((bools (fun j => @decide (∃ d rs, ds[j]? = some d ∧ d = rowP rs ∧ RowD (LkR ls) zs rs) (Classical.propDecidable _)) i).map V.bl)) ∧ Same H H') ⟨upd_same, same_new hD⟩ (fun i H' _ q => SqT.same q.2 hx) ?_ ?_
          · rintro i x H1 H2 hi ⟨h2, s2⟩ ⟨rfl, hxi⟩
            obtain ⟨d, hdi, hdd⟩ := dd_at ha hxi
            refine ⟨rfl, ?_⟩
            dsimp only [tYes]
            rw [if_pos rfl]
            refine ⟨_, rfl, _, rfl, N, wl, r, l, zs, ls, x, d, rfl, hw.same s2, hdd.same s2, l4 d (List.mem_of_getElem? hdi), fun b hb H3 s3 => ?_⟩
            refine ⟨_, s3 _ _ h2, by rw [List.length_map, bools_len, sizeLine_eq]; omega, ?_, Same.upd_at (s2.trans s3) hD⟩
            have e : b = @decide (∃ d rs, ds[i]? = some d ∧ d = rowP rs ∧ RowD (LkR ls) zs rs) (Classical.propDecidable _) := by
              rw [Bool.eq_iff_iff, hb]
              refine ⟨fun ⟨rs, h⟩ => @decide_eq_true _ (Classical.propDecidable _) ⟨d, rs, hdi, h⟩, fun h => ?_⟩
              obtain ⟨d', rs, e1, h⟩ := @of_decide_eq_true _ (Classical.propDecidable _) h
              rw [hdi] at e1
              injection e1 with e1
              rw [e1]
              exact ⟨rs, h⟩
            rw [upd_same, bools_succ, List.map_append, e]
            rfl
          · rintro H2 ⟨h2, s2⟩
            refine ⟨D, _, rfl, SqL.of h2, _, rfl, ?_⟩
            have allD : (bools (fun j => @decide (∃ d rs, ds[j]? = some d ∧ d = rowP rs ∧ RowD (LkR ls) zs rs) (Classical.propDecidable _)) xs.length).all id = true ↔ ∀ d ∈ ds, ∃ rs, d = rowP rs ∧ RowD (LkR ls) zs rs := by
              rw [bools_all]
              constructor
              · intro h d m
                obtain ⟨j, hj⟩ := List.getElem?_of_mem m
                obtain ⟨d', rs, e1, h⟩ := @of_decide_eq_true _ (Classical.propDecidable _) (h j (by have := (List.getElem?_eq_some_iff.mp hj).1; omega))
                rw [hj] at e1
                injection e1 with e1
                rw [e1]
                exact ⟨rs, h⟩
              · intro h j hj
                have hj' : ds[j]? = some ds[j] := List.getElem?_eq_getElem (by omega)
                obtain ⟨rs, h⟩ := h _ (List.mem_of_getElem? hj')
                exact @decide_eq_true _ (Classical.propDecidable _) ⟨_, rs, hj', h⟩
            refine ifE (fun c3 => ?_) fun c3 => ?_
            · refine k false ⟨fun z => (nomatch z), fun ⟨rss, e, _, _, al, _⟩ => ?_⟩ H2 s2
              injection e with e
              rw [allD.mpr (fun d m => by
                rw [e] at m
                obtain ⟨rs, mr, rfl⟩ := List.mem_map.mp m
                exact ⟨rs, rfl, al rs mr⟩)] at c3
              cases c3
            · have c3 := allD.mp (by simpa using c3)
              obtain ⟨qs, rfl, rfl, q3, q4⟩ := rows_of ha c3
              rw [List.length_map] at c1 c2
              refine nxt ?_
              have hx2 := SqT.same s2 hx
              refine ⟨_, rfl, _, rfl, _, rfl, noPart (.inl (slA hx2 fun t H3 s3 ht => ?_))⟩
              rw [cut_tail] at ht
              have hx3 := SqT.same s3 hx2
              have s23 := s2.trans s3
              refine ⟨a, t, _, _, rfl, .inr ⟨hx3, ht, fun D3 hD3 => ?_⟩⟩
              refine lc_it (walk_zipZ (zip_len _)) (fun i H' => H' D3 = some (.lst ((bools (fun j => rowLt (rwOf (qs.map (·.2)) j) (rwOf (qs.map (·.2)) (j + 1))) i).map V.bl)) ∧ Same H3 H') ⟨upd_same, same_new hD3⟩ (fun i H' _ q => ⟨SqT.same q.2 hx3, SqT.same q.2 ht⟩) ?_ ?_
              · rintro i x H4 H5 hi ⟨h4, s4⟩ ⟨U, u, v, rfl, nT, rfl, f1, f2⟩
                obtain ⟨y, hy, rfl⟩ := at_map f1
                obtain ⟨z, hz2, rfl⟩ := drop_at f2
                have s5 := (s23.trans s4).trans (same_new (o := .tup [V.ref y.1, V.ref z.1]) nT)
                rw [List.length_map] at hi
                refine ⟨U, _, rfl, SqT.of upd_same, rfl, _, _, rfl, _, _, rfl, rfl, rfl, ?_⟩
                dsimp only [tYes]
                rw [if_pos rfl]
                refine ⟨_, rfl, _, rfl, _, _, y.2, z.2, rfl, rfl, SqT.same s5 (q3 y (List.mem_of_getElem? hy)), SqT.same s5 (q3 z (List.mem_of_getElem? hz2)), _, same_new nT _ _ h4, ?_, ?_, Same.upd_at (s4.trans (same_new nT)) hD3⟩
                · rw [List.length_map, bools_len, sizeLine_eq]
                  omega
                · have g1 : y.2 = rwOf (qs.map (·.2)) i := rw_of (by rw [List.getElem?_map, hy]; rfl)
                  have g2 : z.2 = rwOf (qs.map (·.2)) (i + 1) := rw_of (by rw [List.getElem?_map, hz2]; rfl)
                  rw [upd_same, bools_succ, List.map_append, g1, g2]
                  rfl
              · rintro H4 ⟨h4, s4⟩
                refine ⟨D3, _, rfl, SqL.of h4, k _ ?_ _ (s23.trans s4)⟩
                rw [bools_all, List.length_map]
                constructor
                · intro h
                  refine ⟨qs.map (·.2), rfl, by rw [List.length_map]; omega, by rw [List.length_map]; omega, fun rs m => ?_, fun j hj => ?_⟩
                  · obtain ⟨q, mq, rfl⟩ := List.mem_map.mp m
                    exact q4 q mq
                  · rw [List.length_map] at hj
                    exact h j (by omega)
                · rintro ⟨rss, e, _, _, _, ri⟩ j hj
                  injection e with e
                  have := rows_inj e
                  rw [← this] at ri
                  exact ri j (by rw [List.length_map]; omega)
      · have c1 := of_decide_eq_false c1
        refine ⟨_, rfl, iteB rfl ?_⟩
        exact noL (fun q => c1 (by omega)) H (Same.refl H)
end
end Toy
set_option Elab.async false
set_option linter.all false
set_option maxRecDepth 100000
set_option maxHeartbeats 1000000
namespace Toy
open PySem L2 Q RZ D7
/-! ### rows drawn at random -/
/-- rows of names, as tuples -/
structure DrL (H : Hp) (zs : List Str) (F : Addr) (n : Nat) (qs : List (Addr × List Str)) : Prop where
  at_ : H F = some (.lst (qs.map fun q => V.ref q.1))
  el : ∀ q ∈ qs, H q.1 = some (.tup (q.2.map V.str)) ∧ 1 ≤ q.2.length ∧ q.2.length ≤ 6 ∧ ∀ z ∈ q.2, z ∈ zs
  few : qs.length ≤ n
theorem DrL.push {H : Hp} {zs : List Str} {F t : Addr} {n : Nat} {qs : List (Addr × List Str)} {rs : List Str} (h : DrL H zs F n qs) (ht : H t = some (.tup (rs.map V.str))) (l1 : 1 ≤ rs.length) (l6 : rs.length ≤ 6) (sub : ∀ z ∈ rs, z ∈ zs) : DrL (upd H F (.lst (qs.map (fun q => V.ref q.1) ++ [.ref t]))) zs F (n + 1) (qs ++ [(t, rs)]) := by
  have keep : ∀ {c : Addr} {xs : List V}, H c = some (.tup xs) → upd H F (.lst (qs.map (fun q => V.ref q.1) ++ [.ref t])) c = some (.tup xs) := fun {c xs} e => by rw [upd_ne (fun z => by rw [z, h.at_] at e; cases e)]; exact e
  refine ⟨by rw [upd_same, List.map_append]; rfl, fun q m => ?_, by rw [List.length_append]; have := h.few; simp; omega⟩
  rcases List.mem_append.mp m with m | m
  · exact ⟨keep (h.el q m).1, (h.el q m).2⟩
  · rw [List.mem_singleton.mp m]
    exact ⟨keep ht, l1, l6, sub⟩
theorem DrL.keep {H H' : Hp} {zs : List Str} {F : Addr} {n : Nat} {qs : List (Addr × List Str)} (h : DrL H zs F n qs) (e : H' F = some (.lst (qs.map fun q => V.ref q.1))) (k : ∀ c xs, H c = some (.tup xs) → H' c = some (.tup xs)) : DrL H' zs F n qs :=
  ⟨e, fun q m => ⟨k _ _ (h.el q m).1, (h.el q m).2⟩, h.few⟩
theorem DrL.same {H H' : Hp} {zs : List Str} {F : Addr} {n : Nat} {qs : List (Addr × List Str)} (h : DrL H zs F n qs) (s : Same H H') : DrL H' zs F n qs := h.keep (s _ _ h.at_) fun _ _ e => s _ _ e
theorem pot_refs {α : Type} {H : Hp} {p F : Addr} {B : Nat} {xs : List α} {f : α → Addr} (h : Pot H p B) (e : H F = some (.lst (xs.map fun q => V.ref (f q)))) : F ≠ p := by
  rintro rfl
  obtain ⟨o, s, c, e2, _⟩ := h
  rw [e] at e2
  have e3 : xs.map (fun q => V.ref (f q)) = [.int o, .int s, .int c] := by injection e2 with e2; injection e2
  cases xs with
  | nil => cases e3
  | cons x xs => cases e3
theorem pot_strs {H : Hp} {p F : Addr} {B : Nat} {xs : List Str} (h : Pot H p B) (e : H F = some (.lst (xs.map V.str))) : F ≠ p := by
  rintro rfl
  obtain ⟨o, s, c, e2, _⟩ := h
  rw [e] at e2
  have e3 : xs.map V.str = [.int o, .int s, .int c] := by injection e2 with e2; injection e2
  cases xs with
  | nil => cases e3
  | cons x xs => cases e3
theorem DrL.but {H H' : Hp} {zs : List Str} {F p : Addr} {n B : Nat} {qs : List (Addr × List Str)} (h : DrL H zs F n qs) (po : Pot H p B) (b : But p H H') : DrL H' zs F n qs := h.keep (b _ _ (pot_refs po h.at_) h.at_) fun _ _ e => b _ _ (tup_notp e po) e
theorem seqN {a u : TS} {D : Ends} {σ : L2.St} {H : Hp} (Pn : L2.St → Hp → Prop) (ha : ∀ D' : Ends, (∀ σ' H', Pn σ' H' → D'.nx σ' H') → a D' σ H) (hu : ∀ σ' H', Pn σ' H' → u D σ' H') : tSeq a u D σ H := ha _ hu
/-- where the drawing of rows stands -/
structure Ws (H0 H : Hp) (p g wl r l F : Addr) (B N n : Nat) (kvs : List (List Key × V)) (zs : List Str) (ls : List (Addr × List Key)) (qs : List (Addr × List Str)) : Prop where
  bu : But p H0 H
  po : Pot H p B
  wd : Wd H N wl r l zs ls
  hg : H g = some (.dT kvs)
  dr : DrL H zs F n qs
section
variable {H0 H H' : Hp} {p g wl r l F : Addr} {B B' N n : Nat} {kvs : List (List Key × V)} {zs : List Str} {ls : List (Addr × List Key)} {qs : List (Addr × List Str)}
theorem Ws.same (h : Ws H0 H p g wl r l F B N n kvs zs ls qs) (s : Same H H') : Ws H0 H' p g wl r l F B N n kvs zs ls qs := ⟨h.bu.trans (But.of s), h.po.same s, h.wd.same s, s _ _ h.hg, h.dr.same s⟩
theorem Ws.but (h : Ws H0 H p g wl r l F B N n kvs zs ls qs) (b : But p H H') (q : Pot H' p B') : Ws H0 H' p g wl r l F B' N n kvs zs ls qs :=
  ⟨h.bu.trans b, q, h.wd.but h.po b, b _ _ (fun z => by obtain ⟨_, _, _, e, _⟩ := h.po; have := h.hg; rw [z, e] at this; cases this) h.hg, h.dr.but h.po b⟩
theorem Ws.more (h : Ws H0 H p g wl r l F B N n kvs zs ls qs) (le : B ≤ B') : Ws H0 H p g wl r l F B' N n kvs zs ls qs := ⟨h.bu, h.po.mono le, h.wd, h.hg, h.dr⟩
end
/-- _law_walks(pot, world, d, many) -/
def spWalks (K : PySem.W.Frag) : Sp := fun vs H Q _ => ∃ (p wl r l : Addr) (B N many : Nat) (d : Str) (zs : List Str) (ls : List (Addr × List Key)), vs = [.ref p, .ref wl, .str d, .int (many : Int)] ∧ Pot H p B ∧ B < 800000 ∧ Wd H N wl r l zs ls ∧ d ∈ zs ∧ many ≤ 6 ∧
  ∀ F qs H', But p H H' → Pot H' p (B + 6 * many) → H F = none → DrL H' zs F many qs → Q (.ref F) H'
section
variable {P : Program} {w : World} {K : PySem.W.Frag} {mg : Str → Option Value} {base : Heap} {ca ia fa : Nat → Addr} {fd fi : Nat → FuncData}
theorem ok_walks (T : Txt K mg ca ia fa fd fi) : FnOk P w K mg base CX0 3 (fa 69) (fd 69) ["_law_pot_here", "_law_world_here", "_law_d", "_law_many"] (spWalks K) := by
  have G_l_lengths := ok_lengths (P := P) (w := w) (base := base) T
  have G_l_take := ok_take (P := P) (w := w) (base := base) T
  have G_l_of := ok_of (P := P) (w := w) (base := base) T
  refine T.F_l_walks.ok sc_l_walks (fun vs H Q E h => ?_) (fun cdv A outer s H vs Q E hr h => ?_)
  · obtain ⟨p, wl, r, l, B, N, many, d, zs, ls, rfl, _⟩ := h
    rfl
  · obtain ⟨p, wl, r, l, B, N, many, d, zs, ls, rfl, hp, hB, hw, dz, m6, k⟩ := h
    refine ⟨_, (pss_cons (ps_asg (pe_tup (pa_cons (pe_call G_l_lengths (hr.mono (by decide)) rfl T.g_l_lengths T.k_l_lengths T.b_l_lengths .nil pass0 (pa_cons (pe_ix ix_seq (pv 1) pe_int (fun _ _ => rfl)) pa_nil)) (pa_cons (pe_lst pa_nil) pa_nil))) (pg_tup rfl (pgs_cons (pg_name (i := 4) sc_l_walks.nd rfl (Or.inr rfl)) (pgs_cons (pg_name (i := 5) sc_l_walks.nd rfl (Or.inl rfl)) pgs_nil))))
      (pss_cons (ps_for PassesOwn.never rfl (pi_range1 rfl T.n_range (pa_cons (pv 3) pa_nil)) (pg_name (i := 6) sc_l_walks.nd rfl (Or.inl rfl)) (pss_cons (ps_set (i := 7) sc_l_walks.nd rfl (Or.inr rfl) (pe_lst (pa_cons (pv 2) pa_nil)))
      (pss_cons (ps_for PassesOwn.never rfl (pi_range1 rfl T.n_range (pa_cons (pe_op op_add pe_int (pe_call G_l_take (hr.mono (by decide)) rfl T.g_l_take T.k_l_take T.b_l_take .nil pass0 (pa_cons (pv 0) (pa_cons pe_int pa_nil)))) pa_nil)) (pg_name (i := 8) sc_l_walks.nd rfl (Or.inl rfl)) (pss_cons (ps_setLc (i := 9) (own := [("_law_one", 10)]) (g := (gName 10)) (tt := (tAnd (tB (tDIn (tTup (tCons (tVar 10) (tCons (tOp (rIx K) (tVar 7) (tC (.int 0))) tNil))) (tVar 4))) (tTest (tOp (rIn K true) (tVar 10) (tVar 7))))) rfl sc_l_walks.nd rfl rfl (sw_true rfl rfl rfl (by decide +kernel)) (pi_tup (pe_ix ix_seq (pv 1) pe_int (fun _ _ => rfl))) (blkOk_by (own := [("_law_one", 10)]) (N := N_l_walks) (sc := defScope s_l_walks) (by decide +kernel)) (fun _ _ _ _ _ => (pg_name (i := 10) sc_l_walks.nd rfl (Or.inl rfl))) (fun _ _ _ _ _ => (pts_one (PW.pt (pw_and (pt_cmp (pc_din (roomU1 hr) (pe_tup (pa_cons (pv 10) (pa_cons (pe_ix ix_seq (pv 7) pe_int (fun _ _ => rfl)) pa_nil))) (pv 4))) (pw_and1 (pt_cmpR op_notIn_seq (pv 10) (pv 7) rfl)))))) (fun _ _ _ _ _ => by exact (pv 10)))
      (pss_one (ps_set (i := 7) sc_l_walks.nd rfl (Or.inr rfl) (pe_ifExp (pt_cmpR (op_neNil (roomU1 hr)) (pv 9) (pe_lst pa_nil) (nomark _)) (pe_op op_cat (pe_lst (pa_cons (pe_call G_l_of (hr.mono (by decide)) rfl T.g_l_of T.k_l_of T.b_l_of .nil pass0 (pa_cons (pv 0) (pa_cons (pv 9) pa_nil))) pa_nil)) (pv 7)) (pv 7))))))
      (pss_one (ps_if (pt_cmpR op_gt (pe_callB call_len (by rfl) T.n_len (by decide +kernel) (pa_cons (pv 7) pa_nil)) pe_int (nomark _)) (pss_one (ps_expr (pe_bm PySem.F.plainAttrs_list PySem.F.slot_list_append PySem.F.type_list_append mt_append (pv 5) (pa_cons (pe_callTy call_tuple_of (by rfl) T.n_tuple (by decide +kernel) (pa_cons (pv 7) pa_nil)) pa_nil)))) pss_nil)))))
      (pss_one (ps_ret (pv 5))))), ?_⟩
    refine ⟨_, rfl, hw.ix 1 rfl ⟨l, zs, ls, rfl, hw.lks, hw.few, fun g kvs H1 s1 ng hg dl kp kfew => ⟨by show 0 ≤ sizeLine; decide, fun F nF => ⟨by show 2 ≤ sizeLine; decide, fun tp ntp => ⟨tp, _, rfl, SqT.of upd_same, rfl, _, _, rfl, _, _, rfl, rfl, ?_⟩⟩⟩⟩⟩
    have sF := same_new (o := .lst []) nF
    have st := same_new (o := .tup [.ref g, .ref F]) ntp
    have s3 := (s1.trans sF).trans st
    have F0 : H F = none := by
      cases e : H F with
      | none => rfl
      | some o => rw [s1 _ _ e] at nF; cases nF
    have hF : DrL (upd (upd H1 F (.lst [])) tp (.tup [.ref g, .ref F])) zs F 0 [] := ⟨st _ _ upd_same, fun q m => (nomatch m), Nat.le_refl _⟩
    have hg3 := st _ _ (sF _ _ hg)
    generalize upd (upd H1 F (.lst [])) tp (.tup [.ref g, .ref F]) = H3 at s3 hF hg3 ⊢
    refine nxt ?_
    have W3 : Ws H H3 p g wl r l F B N 0 kvs zs ls [] := ⟨But.of s3, hp.same s3, hw.same s3, hg3, hF⟩
    refine ⟨_, rfl, (many : Int), rfl, by omega, by omega, ?_⟩
    refine for_it walk_range (fun i σ H' => ∃ (x6 x7 x8 x9 x10 : Option L2.V) (qs : List (Addr × List Str)), σ = [some (.ref p), some (.ref wl), some (.str d), some (.int (many : Int)), some (.ref g), some (.ref F), x6, x7, x8, x9, x10] ∧ Ws H H' p g wl r l F (B + 6 * i) N i kvs zs ls qs)
      ⟨_, _, _, _, _, [], rfl, W3⟩ (fun _ _ _ _ _ => trivial) ?_ ?_
    · rintro i x σ H4 H5 hi ⟨x6, x7, x8, x9, x10, qs, rfl, W5⟩ ⟨rfl, rfl⟩
      have im : i < many := by omega
      refine ⟨_, rfl, by show 1 ≤ sizeLine; decide, fun R nR => ?_⟩
      have sR := same_new (o := .lst [.str d]) nR
      have W6 := W5.same sR
      have hR : upd H5 R (.lst [.str d]) R = some (.lst ([d].map V.str)) := upd_same
      generalize upd H5 R (.lst [.str d]) = H6 at sR W6 hR ⊢
      dsimp only [gName]
      refine seqN (fun σ' H' => ∃ (x8 x9 x10 : Option L2.V) (R : Addr) (rs : List Str), σ' = [some (.ref p), some (.ref wl), some (.str d), some (.int (many : Int)), some (.ref g), some (.ref F), some (.int (0 + (i : Int))), some (.ref R), x8, x9, x10] ∧ H' R = some (.lst (rs.map V.str)) ∧ 1 ≤ rs.length ∧ rs.length ≤ 6 ∧ (∀ z ∈ rs, z ∈ zs) ∧ Ws H H' p g wl r l F (B + 6 * i + 6) N i kvs zs ls qs) (fun D' k' => ?_) ?_
      · refine ⟨_, rfl, p, 5, _, rfl, W6.po, by decide, by decide, by omega, fun n5 H7 hn5 b7 p7 => ⟨_, _, rfl, rfl, ?_⟩⟩
        have hR7 := b7 _ _ (pot_strs W6.po hR) hR
        have W7 := W6.but b7 p7
        refine ⟨(1 : Int) + (n5 : Int), rfl, by omega, by omega, ?_⟩
        refine for_it walk_range (fun j σ H' => ∃ (x8 x9 x10 : Option L2.V) (R : Addr) (rs : List Str), σ = [some (.ref p), some (.ref wl), some (.str d), some (.int (many : Int)), some (.ref g), some (.ref F), some (.int (0 + (i : Int))), some (.ref R), x8, x9, x10] ∧ H' R = some (.lst (rs.map V.str)) ∧ 1 ≤ rs.length ∧ rs.length ≤ 1 + j ∧ (∀ z ∈ rs, z ∈ zs) ∧ Ws H H' p g wl r l F (B + 6 * i + 1 + j) N i kvs zs ls qs)
          ⟨_, _, _, R, [d], rfl, hR7, Nat.le_refl _, Nat.le_refl _, fun z m => by rw [List.mem_singleton.mp m]; exact dz, W7.more (by omega)⟩ (fun _ _ _ _ _ => trivial) ?_ ?_
        · rintro j x σ H8 H9 hj ⟨x8, x9, x10, R, rs, rfl, hR8, l1, lj, sub, W8⟩ ⟨rfl, rfl⟩
          have j5 : j < 5 := by omega
          have z8 := W8.wd.l8
          have low : ∀ z ∈ zs, Low z := fun z m => (W8.wd.nok z m).2.2
          obtain ⟨z0, hz0⟩ : ∃ z0, rs[0]? = some z0 := ⟨rs[0], List.getElem?_eq_getElem (by omega)⟩
          refine seqS (fun v H' => ∃ (L : Addr) (fs : List Str), v = .ref L ∧ H' L = some (.lst (fs.map V.str)) ∧ (∀ z ∈ fs, z ∈ zs) ∧ fs.length ≤ 8 ∧ Same H9 H') (fun Q k2 => ?_) ?_
          · refine ⟨_, rfl, W8.wd.ix 0 rfl ⟨r, rfl, ⟨_, SqT.of W8.wd.r_⟩, fun D hD => ?_⟩⟩
            refine lc_it (walk_tup (xs := zs.map V.str)) (fun m H' => ∃ fs : List Str, H' D = some (.lst (fs.map V.str)) ∧ (∀ z ∈ fs, z ∈ zs) ∧ fs.length ≤ m ∧ Same H9 H') ⟨[], upd_same, fun z h => (nomatch h), Nat.le_refl _, same_new hD⟩ (fun m H' _ ⟨_, _, _, _, q⟩ => SqT.of (q _ _ W8.wd.r_)) ?_ ?_
            · rintro m x Ha Hb hm ⟨fs, hDa, fz, fl, sa⟩ ⟨rfl, hx⟩
              obtain ⟨one, h1, rfl⟩ := at_map hx
              have oz := List.mem_of_getElem? h1
              rw [List.length_map] at hm
              refine ⟨rfl, ?_⟩
              have hRb := sa _ _ hR8
              refine ⟨_, rfl, _, rfl, .inl ⟨R, _, 0, .str z0, rfl, rfl, SqL.of hRb, atI_nat (xs := rs.map V.str) (j := 0) (by rw [List.getElem?_map, hz0]; rfl), by show 2 ≤ sizeLine; decide, fun t nt => ?_⟩⟩
              have st := same_new (o := .tup [.str one, .str z0]) nt
              have hDt := st _ _ hDa
              have stay : ∃ fs : List Str, upd Hb t (.tup [.str one, .str z0]) D = some (.lst (fs.map V.str)) ∧ (∀ z ∈ fs, z ∈ zs) ∧ fs.length ≤ m + 1 ∧ Same H9 (upd Hb t (.tup [.str one, .str z0])) := ⟨fs, hDt, fz, by omega, sa.trans st⟩
              refine ⟨_, rfl, g, _, rfl, DGet.t (k := [.inr one, .inr z0]) (st _ _ (sa _ _ W8.hg)) upd_same, _, rfl, ite2 (fun c1 => ?_) fun c1 => iteB2 rfl stay⟩
              refine ⟨_, rfl, _, rfl, R, _, rfl, .inl (SqL.of (st _ _ hRb)), rfl, flat_strs rs, _, rfl, ite2 (fun c2 => ?_) fun c2 => stay⟩
              refine ⟨_, rfl, _, hDt, by rw [List.length_map, sizeLine_eq]; omega, fs ++ [one], by rw [upd_same, List.map_append]; rfl, fun z hz => ?_, by rw [List.length_append]; simp; omega, Same.upd_at (sa.trans st) hD⟩
              rcases List.mem_append.mp hz with hz | hz
              · exact fz z hz
              · rw [List.mem_singleton.mp hz]
                exact oz
            · rintro Ha ⟨fs, hDa, fz, fl, sa⟩
              rw [List.length_map] at fl
              exact k2 _ _ ⟨D, fs, rfl, hDa, fz, by omega, sa⟩
          rintro _ Ha ⟨L, fs, rfl, hL, fz, fl, sa⟩
          have Wa := W8.same sa
          have hRa := sa _ _ hR8
          refine ⟨_, rfl, by show 0 ≤ sizeLine; decide, fun e ne => ?_⟩
          have se := same_new (o := .lst []) ne
          have We := Wa.same se
          refine ⟨L, e, _, rfl, rfl, SqL.of (se _ _ hL), SqL.of upd_same, _, rfl, ite2 (fun c => ?_) fun c => ?_⟩
          · have pos : 0 < fs.length := by
              cases fs with
              | nil => cases c
              | cons x xs => simp
            refine ⟨_, rfl, _, rfl, p, .ref L, _, _, rfl, We.po, by omega, .inl ⟨L, rfl, pot_strs We.po (se _ _ hL), SqL.of (se _ _ hL)⟩, by rw [List.length_map]; exact pos, by rw [List.length_map]; omega, fun dd v Hc hv bc pc => ?_⟩
            obtain ⟨z, hz, rfl⟩ := at_map hv
            have zz := fz z (List.mem_of_getElem? hz)
            have Wc := We.but bc pc
            have hRc := bc _ _ (pot_strs We.po (se _ _ hRa)) (se _ _ hRa)
            refine ⟨by show 1 ≤ sizeLine; decide, fun L2 nL2 => ?_⟩
            have s2 := same_new (o := .lst [.str z]) nL2
            refine ⟨_, rfl, L2, R, _, _, rfl, rfl, upd_same, s2 _ _ hRc, by rw [List.length_map, sizeLine_eq]; show 1 + rs.length ≤ _; omega, fun R2 nR2 => ?_⟩
            have s3 := same_new (o := .lst ([.str z] ++ rs.map V.str)) nR2
            refine nxt ⟨_, _, _, R2, z :: rs, rfl, upd_same, by rw [List.length_cons]; omega, by rw [List.length_cons]; omega, fun y hy => ?_, ((Wc.same s2).same s3).more (by omega)⟩
            rcases List.mem_cons.mp hy with rfl | hy
            · exact zz
            · exact sub y hy
          · exact ⟨_, rfl, nxt ⟨_, _, _, R, rs, rfl, se _ _ hRa, l1, by omega, sub, We.more (by omega)⟩⟩
        · rintro σ H8 ⟨x8, x9, x10, R, rs, rfl, hR8, l1, lj, sub, W8⟩
          have hn : ((1 : Int) + (n5 : Int)).toNat ≤ 5 := by omega
          exact k' _ _ ⟨_, _, _, R, rs, rfl, hR8, l1, by omega, sub, W8.more (by omega)⟩
      rintro σ' H8 ⟨x8, x9, x10, R, rs, rfl, hR8, l1, l6, sub, W8⟩
      have Fp : F ≠ p := pot_refs W8.po W8.dr.at_
      have few := W8.dr.few
      refine ⟨_, rfl, _, _, rfl, .inl ⟨_, SqL.of hR8, rfl⟩, _, _, rfl, rfl, _, rfl, ite2 (fun c => ?_) fun c => ?_⟩
      · refine ⟨_, rfl, .inl ⟨rfl, _, SqL.of W8.dr.at_⟩, _, rfl, R, _, rfl, .inl ⟨SqL.of hR8, fun t nt => ?_⟩⟩
        have st := same_new (o := .tup (rs.map V.str)) nt
        have Wt := W8.same st
        have hFt := Wt.dr.at_
        have dr := Wt.dr.push upd_same l1 l6 sub
        have kt : ∀ {c : Addr} {o : HO}, c ≠ F → upd H8 t (.tup (rs.map V.str)) c = some o → upd (upd H8 t (.tup (rs.map V.str))) F (.lst (qs.map (fun q => V.ref q.1) ++ [.ref t])) c = some o := fun {c o} n e => by rw [upd_ne n]; exact e
        have tF : ∀ {c : Addr} {xs : List V}, upd H8 t (.tup (rs.map V.str)) c = some (.tup xs) → c ≠ F := fun {c xs} e z => by rw [z, hFt] at e; cases e
        refine ⟨F, _, _, rfl, rfl, hFt, by rw [List.length_map, sizeLine_eq]; omega, nxt ⟨_, _, _, _, _, qs ++ [(t, rs)], rfl, ?_⟩⟩
        refine ⟨fun b o n e => ?_, ?_, ?_, kt (fun z => by have := Wt.hg; rw [z, hFt] at this; cases this) Wt.hg, dr⟩
        · exact kt (fun z => by rw [z, F0] at e; cases e) (Wt.bu b o n e)
        · obtain ⟨o, sd, c, e, r⟩ := Wt.po
          have : Pot (upd (upd H8 t (.tup (rs.map V.str))) F (.lst (qs.map (fun q => V.ref q.1) ++ [.ref t]))) p (B + 6 * i + 6) := ⟨o, sd, c, kt (Ne.symm Fp) e, r⟩
          exact this.mono (by omega)
        · exact ⟨kt (tF Wt.wd.wl_) Wt.wd.wl_, kt (tF Wt.wd.r_) Wt.wd.r_, kt (tF Wt.wd.l_) Wt.wd.l_, fun q hq => ⟨kt (tF (Wt.wd.el q hq).1) (Wt.wd.el q hq).1, (Wt.wd.el q hq).2⟩, Wt.wd.up, Wt.wd.few, Wt.wd.pw, Wt.wd.nok, Wt.wd.l2, Wt.wd.l8⟩
      · exact nxt ⟨_, _, _, _, _, qs, rfl, ⟨W8.bu, W8.po.mono (by omega), W8.wd, W8.hg, ⟨W8.dr.at_, W8.dr.el, by omega⟩⟩⟩
    · rintro σ H4 ⟨x6, x7, x8, x9, x10, qs, rfl, W4⟩
      have e : ((many : Int)).toNat = many := Int.toNat_natCast many
      rw [e] at W4
      exact nxt ⟨_, rfl, k F qs H4 W4.bu (W4.po.mono (by omega)) F0 W4.dr⟩
end
end Toy
set_option Elab.async false
set_option linter.all false
set_option maxRecDepth 100000
set_option maxHeartbeats 1000000
namespace Toy
open PySem L2 Q RZ D7
/-! ### values that are rows, or nearly so -/
abbrev Z0 : Addr → Bool := fun _ => false
theorem pz {H : Hp} {p : Addr} {B : Nat} (h : Pot H p B) : PotZ Z0 H p B := ⟨h, fun b z => (nomatch z)⟩
abbrev R0 (d : PyData) : Prop := Sz 300000 6 d
theorem seqP {ta : TA} {i j : Nat} {u : TS} {D : Ends} {σ : L2.St} {H : Hp} (P : V → V → Hp → Prop)
    (h : ∀ Q : List V → Hp → Prop, (∀ a b H', P a b H' → Q [a, b] H') → ta σ H Q) (k : ∀ a b H', P a b H' → u D ((σ.set i (some a)).set j (some b)) H') : tSeq (tPar i j ta) u D σ H := h _ fun a b H' pr => ⟨a, b, rfl, k a b H' pr⟩
/-- a tuple of rows of names -/
structure Rws (H : Hp) (R : Addr) (zs : List Str) (qs : List (Addr × List Str)) : Prop where
  at_ : H R = some (.tup (qs.map fun q => V.ref q.1))
  el : ∀ q ∈ qs, H q.1 = some (.tup (q.2.map V.str)) ∧ 1 ≤ q.2.length ∧ q.2.length ≤ 6 ∧ ∀ z ∈ q.2, z ∈ zs
  few : qs.length ≤ 15
  nok : ∀ z ∈ zs, NameOk z
section
variable {K : PySem.W.Frag} {H H' : Hp} {R p : Addr} {B : Nat} {zs : List Str} {qs : List (Addr × List Str)} {Z : Addr → Bool}
theorem Rws.same (h : Rws H R zs qs) (s : Same H H') : Rws H' R zs qs := ⟨s _ _ h.at_, fun q m => ⟨s _ _ (h.el q m).1, (h.el q m).2⟩, h.few, h.nok⟩
theorem Rws.but (h : Rws H R zs qs) (po : Pot H p B) (b : But p H H') : Rws H' R zs qs := ⟨b _ _ (tup_notp h.at_ po) h.at_, fun q m => ⟨b _ _ (tup_notp (h.el q m).1 po) (h.el q m).1, (h.el q m).2⟩, h.few, h.nok⟩
theorem Rws.put (h : Rws H R zs qs) {F : Addr} {xs : List V} {o : HO} (hF : H F = some (.lst xs)) : Rws (upd H F o) R zs qs := by
  have k : ∀ {c : Addr} {ys : List V}, H c = some (.tup ys) → upd H F o c = some (.tup ys) := fun {c ys} e => by rw [upd_ne (fun z => by rw [z, hF] at e; cases e)]; exact e
  exact ⟨k h.at_, fun q m => ⟨k (h.el q m).1, (h.el q m).2⟩, h.few, h.nok⟩
theorem pot_put {o : HO} {F : Addr} (h : Pot H p B) (n : p ≠ F) : Pot (upd H F o) p B := by
  obtain ⟨a, b, c, e, r⟩ := h
  exact ⟨a, b, c, by rw [upd_ne n]; exact e, r⟩
theorem name_sz {z : Str} (h : NameOk z) : Sz 110 3 (.str z) := sz_tc ⟨by have := h.2.1; omega, fun c hc => by have := (h.2.2 c hc).2; omega⟩
theorem texts_ok {G : Hp} : ∀ {rs : List Str}, (∀ z ∈ rs, NameOk z) → OkA K Z p (Sz 110 3) G (rs.map V.str)
  | [], _ => OkA.nil
  | z :: rs, h => OkA.cons ⟨_, .str z, name_sz (h z List.mem_cons_self)⟩ (texts_ok fun y m => h y (List.mem_cons_of_mem _ m))
theorem Rws.item (h : Rws H R zs qs) {q : Addr × List Str} (m : q ∈ qs) : Tp K Z p (Sz 110 3) 6 H (.ref q.1) :=
  let ⟨e, _, l6, sub⟩ := h.el q m
  ⟨q.1, _, rfl, SqT.of e, texts_ok fun z hz => h.nok z (sub z hz), by rw [List.length_map]; exact l6⟩
theorem Rws.itemOk (h : Rws H R zs qs) (po : PotZ Z H p B) {q : Addr × List Str} (m : q ∈ qs) : OkV K Z p (Sz 700 4) H (.ref q.1) :=
  (h.item m).ok po fun ds al l => (sz_tuple al l).mono (by decide) (by decide)
theorem Rws.tp (h : Rws H R zs qs) (po : PotZ Z H p B) : Tp K Z p (Sz 700 4) 15 H (.ref R) := by
  refine ⟨R, _, rfl, SqT.of h.at_, ?_, by rw [List.length_map]; exact h.few⟩
  have main : ∀ ps : List (Addr × List Str), (∀ q ∈ ps, q ∈ qs) → OkA K Z p (Sz 700 4) H (ps.map fun q => V.ref q.1) := fun ps => by
    induction ps with
    | nil => exact fun _ => OkA.nil
    | cons q ps ih => exact fun al => OkA.cons (h.itemOk po (al q List.mem_cons_self)) (ih fun x m => al x (List.mem_cons_of_mem _ m))
  exact main qs fun q m => m
end
theorem Rws.wm {K : PySem.W.Frag} {H : Hp} {R p : Addr} {B : Nat} {zs : List Str} {qs : List (Addr × List Str)} {Z : Addr → Bool} (h : Rws H R zs qs) (po : PotZ Z H p B) : OkV K Z p (Wm 2) H (.ref R) := by
  have texts : ∀ rs : List Str, (∀ z ∈ rs, NameOk z) → OkA K Z p (Wm 0) H (rs.map V.str) := fun rs => by
    induction rs with
    | nil => exact fun _ => OkA.nil
    | cons z rs ih => exact fun al => OkA.cons ⟨_, .str z, .inl ⟨z, rfl, (al z List.mem_cons_self).2.2, (al z List.mem_cons_self).2.1⟩⟩ (ih fun y m => al y (List.mem_cons_of_mem _ m))
  have item : ∀ q ∈ qs, OkV K Z p (Wm 1) H (.ref q.1) := fun q m => by
    obtain ⟨e, _, l6, sub⟩ := h.el q m
    have y : Tp K Z p (Wm 0) 6 H (.ref q.1) := ⟨q.1, _, rfl, SqT.of e, texts q.2 fun z hz => h.nok z (sub z hz), by rw [List.length_map]; exact l6⟩
    exact y.ok po fun ds al l => ⟨ds, rfl, by omega, al⟩
  have main : ∀ ps : List (Addr × List Str), (∀ q ∈ ps, q ∈ qs) → OkA K Z p (Wm 1) H (ps.map fun q => V.ref q.1) := fun ps => by
    induction ps with
    | nil => exact fun _ => OkA.nil
    | cons q ps ih => exact fun al => OkA.cons (item q (al q List.mem_cons_self)) (ih fun x m => al x (List.mem_cons_of_mem _ m))
  have y : Tp K Z p (Wm 1) 15 H (.ref R) := ⟨R, _, rfl, SqT.of h.at_, main qs fun q m => m, by rw [List.length_map]; exact h.few⟩
  exact y.ok po fun ds al l => ⟨ds, rfl, by omega, al⟩
/-- the list at L is set apart -/
def ZL (L : Addr) : Addr → Bool := fun b => decide (b = L)
theorem zl_off {L p : Addr} {b : Addr} : (b = p ∨ ZL L b = true) ↔ (b = p ∨ b = L) := by
  unfold ZL
  rw [decide_eq_true_eq]
theorem off_new {H : Hp} {L p : Addr} {o : HO} (n : H L = none) : Same (off Z0 H p) (off (ZL L) (upd H L o) p) := fun b u e => by
  obtain ⟨n1, e1⟩ := off_in e
  have bL : b ≠ L := fun z => by rw [z, n] at e1; cases e1
  exact off_at (by rw [upd_ne bL]; exact e1) fun z => (zl_off.mp z).elim (fun z => n1 (.inl z)) bL
theorem off_put {H : Hp} {L p : Addr} {o : HO} : Same (off (ZL L) H p) (off (ZL L) (upd H L o) p) := fun b u e => by
  obtain ⟨n1, e1⟩ := off_in e
  have bL : b ≠ L := fun z => n1 (zl_off.mpr (.inr z))
  exact off_at (by rw [upd_ne bL]; exact e1) n1
theorem OkA.to {K : PySem.W.Frag} {Z Z' : Addr → Bool} {p : Addr} {R : PyData → Prop} {H H' : Hp} {xs : List V} (h : OkA K Z p R H xs) (s : Same (off Z H p) (off Z' H' p)) : OkA K Z' p R H' xs := let ⟨ds, h1, h2⟩ := h; ⟨ds, DdAll.same s h1, h2⟩
theorem OkV.to {K : PySem.W.Frag} {Z Z' : Addr → Bool} {p : Addr} {R : PyData → Prop} {H H' : Hp} {x : V} (h : OkV K Z p R H x) (s : Same (off Z H p) (off Z' H' p)) : OkV K Z' p R H' x := let ⟨d, h1, h2⟩ := h; ⟨d, h1.same s, h2⟩
theorem pzl {H : Hp} {p L : Addr} {B : Nat} {xs : List V} (h : Pot H p B) (hL : H L = some (.lst xs)) : PotZ (ZL L) H p B := ⟨h, fun b z _ => by
  have : b = L := of_decide_eq_true z
  rw [this]
  exact .inl ⟨_, hL⟩⟩
/-- _law_values(pot, world, rows) -/
def spValues (K : PySem.W.Frag) : Sp := fun vs H Q _ => ∃ (p wl r l R : Addr) (B N : Nat) (zs : List Str) (ls : List (Addr × List Key)) (qs : List (Addr × List Str)), vs = [.ref p, .ref wl, .ref R] ∧ Pot H p B ∧ B < 700000 ∧ Wd H N wl r l zs ls ∧ Rws H R zs qs ∧
  ∀ F vs H', But p H H' → Pot H' p (B + 100) → H' F = some (.lst vs) → F ≠ p → vs.length ≤ 18 → OkA K (ZL F) p R0 H' vs → Q (.ref F) H'
section
variable {P : Program} {w : World} {K : PySem.W.Frag} {mg : Str → Option Value} {base : Heap} {ca ia fa : Nat → Addr} {fd fi : Nat → FuncData}
theorem ok_values (T : Txt K mg ca ia fa fd fi) : FnOk P w K mg base CX0 9 (fa 72) (fd 72) ["_law_pot_here", "_law_world_here", "_law_rows"] (spValues K) := by
  have G_l_odd := ok_odd (P := P) (w := w) (base := base) T
  have G_l_of := ok_of (P := P) (w := w) (base := base) T
  have G_l_bent := ok_bent (P := P) (w := w) (base := base) T 2
  refine T.F_l_values.ok sc_l_values (fun vs H Q E h => ?_) (fun cdv A outer s H vs Q E hr h => ?_)
  · obtain ⟨p, wl, r, l, R, B, N, zs, ls, qs, rfl, _⟩ := h
    rfl
  · obtain ⟨p, wl, r, l, R, B, N, zs, ls, qs, rfl, hp, hB, hw, hR, k⟩ := h
    refine ⟨_, (pss_cons (ps_par (i := 3) (j := 4) (by rfl) sc_l_values.nd rfl rfl (by decide) rfl rfl (pa_cons (pe_call G_l_odd (hr.mono (by decide)) rfl T.g_l_odd T.k_l_odd T.b_l_odd .nil pass0 (pa_cons (pv 0) pa_nil)) (pa_cons (pe_call G_l_of (hr.mono (by decide)) rfl T.g_l_of T.k_l_of T.b_l_of .nil pass0 (pa_cons (pv 0) (pa_cons (pe_ix ix_seq (pv 1) pe_int (fun _ _ => rfl)) pa_nil))) pa_nil)) (by rfl))
      (pss_cons (ps_set (i := 5) sc_l_values.nd rfl (Or.inl rfl) (pe_lst (pa_cons (pv 2) (pa_cons (pe_revT (pv 2)) (pa_cons (pe_op op_catA (pv 2) (pe_slice sl_tupA (pv 2) (po_some (pe_un un_neg pe_int)) po_none)) (pa_cons (pe_callTy call_list_of (by rfl) T.n_list (by decide +kernel) (pa_cons (pv 2) pa_nil)) (pa_cons (pe_tup pa_nil) (pa_cons (pe_op op_catA (pe_slice sl_tupA (pv 2) po_none (po_some pe_int)) (pe_tup (pa_cons (pv 3) pa_nil))) (pa_cons (pe_tup (pa_cons (pe_tup (pa_cons (pv 4) pa_nil)) pa_nil)) (pa_cons (pe_tup (pa_cons (pe_tup (pa_cons (pv 4) (pa_cons (pv 4) pa_nil))) pa_nil)) (pa_cons (pv 3) pa_nil)))))))))))
      (pss_cons (ps_expr (pe_bm PySem.F.plainAttrs_list PySem.F.slot_list_extend PySem.F.type_list_extend mt_extend (pv 5) (pa_cons (pe_lst (pa_cons (pe_ifExp (pt_cmpR (op_neNilT (roomU1 hr)) (pv 2) (pe_tup pa_nil) (nomark _)) (pe_tup (pa_cons (pe_op op_catA (pe_ix ix_seq (pv 2) pe_int (fun _ _ => rfl)) (pe_slice sl_tupA (pe_ix ix_seq (pv 2) pe_int (fun _ _ => rfl)) po_none (po_some pe_int))) pa_nil)) pe_int) (pa_cons (pe_ifExp (pt_cmpR (op_neNilT (roomU1 hr)) (pv 2) (pe_tup pa_nil) (nomark _)) (pe_ix ix_seq (pv 2) pe_int (fun _ _ => rfl)) pe_non) (pa_cons (pe_tup (pa_cons (pe_tup (pa_cons (pv 4) (pa_cons pe_str pa_nil))) pa_nil)) pa_nil)))) pa_nil)))
      (pss_cons (ps_for PassesOwn.never rfl (pi_range1 rfl T.n_range (pa_cons pe_int pa_nil)) (pg_name (i := 6) sc_l_values.nd rfl (Or.inl rfl)) (pss_one (ps_expr (pe_bm PySem.F.plainAttrs_list PySem.F.slot_list_append PySem.F.type_list_append mt_append (pv 5) (pa_cons (pe_call G_l_bent (hr.mono (by decide)) rfl T.g_l_bent T.k_l_bent T.b_l_bent .nil pass0 (pa_cons (pv 0) (pa_cons (pv 2) (pa_cons pe_int pa_nil)))) pa_nil)))))
      (pss_one (ps_ret (pv 5))))))), ?_⟩
    refine seqP (fun a b H' => ∃ (d : PyData) (z : Str), b = .str z ∧ z ∈ zs ∧ OkV K Z0 p (Sz 60 3) H' a ∧ But p H H' ∧ Pot H' p (B + 2)) (fun Q k' => ?_) ?_
    · refine ⟨_, rfl, Z0, p, B, rfl, pz hp, by omega, fun v d H1 b1 p1 dd mo => ?_⟩
      have w1 := hw.but hp b1
      refine ⟨_, rfl, _, rfl, w1.ix 0 rfl ⟨p, .ref r, _, B + 1, rfl, p1.po, by omega, .inr (.inl ⟨r, rfl, SqT.of w1.r_⟩), by have := w1.l2; rw [List.length_map]; omega, by have := w1.l8; rw [List.length_map]; omega, fun i u H2 hu b2 p2 => ?_⟩⟩
      obtain ⟨z, hz, rfl⟩ := at_map hu
      exact k' _ _ _ ⟨d, z, rfl, List.mem_of_getElem? hz, (OkV.but ⟨d, dd, sz_odd d mo⟩ b2), b1.trans b2, p2⟩
    rintro v _ H1 ⟨d0, z, rfl, zz, oo, b1, p1⟩
    have X1 : Rws H1 R zs qs := hR.but hp b1
    have nz := hw.nok z zz
    have q1 := pz p1
    have oz : ∀ {G : Hp} {Z : Addr → Bool}, OkV K Z p (Sz 110 3) G (.str z) := ⟨_, .str z, name_sz nz⟩
    have fT : ∀ ds : List PyData, (∀ d ∈ ds, Sz 700 4 d) → ds.length ≤ 15 → R0 (.tuple ds) := fun ds al l => (sz_tuple al (m := 33) (by omega)).mono (by decide) (by decide)
    have fT2 : ∀ ds : List PyData, (∀ d ∈ ds, Sz 700 4 d) → ds.length ≤ 30 → R0 (.tuple ds) := fun ds al l => (sz_tuple al (m := 33) (by omega)).mono (by decide) (by decide)
    have fL : ∀ ds : List PyData, (∀ d ∈ ds, Sz 700 4 d) → ds.length ≤ 15 → R0 (.list ds) := fun ds al l => (sz_list al l).mono (by decide) (by decide)
    have fS : ∀ {n : Nat} {ds : List PyData}, (∀ d ∈ ds, Sz 110 3 d) → ds.length ≤ n → n ≤ 6 → Sz 700 4 (.tuple ds) := fun {n ds} al l n6 => (sz_tuple al (m := 6) (by omega)).mono (by decide) (by decide)
    refine seqS (fun x H' => ∃ (L : Addr) (vs : List V), x = .ref L ∧ H' L = some (.lst vs) ∧ L ≠ p ∧ H L = none ∧ OkA K (ZL L) p R0 H' vs ∧ vs.length = 9 ∧ Same H1 H') (fun Q k' => ?_) ?_
    · refine lst0 ?_
      refine itemA (K := K) (Z := Z0) (p := p) (R := R0) (fun Q' q => ?_) fun v1 G1 s1 o1 => ?_
      · exact ⟨_, rfl, q _ _ (Same.refl _) ((X1.tp q1).ok q1 fT)⟩
      have X2 := X1.same s1
      have q2 := q1.same s1
      refine itemA (K := K) (Z := Z0) (p := p) (R := R0) (fun Q' q => ?_) fun v2 G2 s2 o2 => ?_
      · obtain ⟨a', ys, e, h1, h2, h3⟩ := X2.tp (K := K) q2
        cases e
        refine ⟨_, rfl, _, ys, rfl, h1, fun t nt => q _ _ (same_new nt) ?_⟩
        have y : Tp K Z0 p (Sz 700 4) 15 (upd G1 t (.tup ys.reverse)) (.ref t) := ⟨t, _, rfl, SqT.of upd_same, h2.rev.same (same_new nt), by rw [List.length_reverse]; exact h3⟩
        exact y.ok (q2.same (same_new nt)) fT
      have X3 := X2.same s2
      have q3 := q2.same s2
      refine itemA (K := K) (Z := Z0) (p := p) (R := R0) (fun Q' q => ?_) fun v3 G3 s3 o3 => ?_
      · refine ⟨_, rfl, _, rfl, 1, rfl, _, rfl, noPart ((X3.tp q3).slice fun u J1 j1 y1 => ?_)⟩
        exact (((X3.same j1).tp (q3.same j1)).cat y1 (by decide) fun t J2 j2 y2 => q _ _ (j1.trans j2) (y2.ok ((q3.same j1).same j2) fT2))
      have X4 := X3.same s3
      have q4 := q3.same s3
      refine itemA (K := K) (Z := Z0) (p := p) (R := R0) (fun Q' q => ?_) fun v4 G4 s4 o4 => ?_
      · obtain ⟨a', ys, e, h1, h2, h3⟩ := X4.tp (K := K) q4
        cases e
        exact ⟨_, rfl, _, _, rfl, .inr h1, fun l nl => q _ _ (same_new nl) (lst_ok h2 h3 fL nl q4)⟩
      have X5 := X4.same s4
      have q5 := q4.same s4
      refine itemA (K := K) (Z := Z0) (p := p) (R := R0) (fun Q' q => ?_) fun v5 G5 s5 o5 => ?_
      · refine ⟨by show 0 ≤ sizeLine; decide, fun t nt => q _ _ (same_new nt) ?_⟩
        have y : Tp K Z0 p (Sz 700 4) 15 (upd G4 t (.tup [])) (.ref t) := ⟨t, _, rfl, SqT.of upd_same, OkA.nil, by show 0 ≤ 15; decide⟩
        exact y.ok (q5.same (same_new nt)) fT
      have X6 := X5.same s5
      have q6 := q5.same s5
      have O6 : OkV K Z0 p (Sz 60 3) G5 v := ((((oo.same s1).same s2).same s3).same s4).same s5
      refine itemA (K := K) (Z := Z0) (p := p) (R := R0) (fun Q' q => ?_) fun v6 G6 s6 o6 => ?_
      · refine ⟨_, rfl, noPart ⟨_, rfl, (X6.tp q6).slice fun u J1 j1 y1 => ?_⟩⟩
        refine ⟨_, rfl, by show 1 ≤ sizeLine; decide, fun t nt => ?_⟩
        have j2 := same_new (o := .tup [v]) nt
        have y2 := Tp.new (K := K) (Z := Z0) (p := p) (H := J1) (R := Sz 700 4) (v := v) ((O6.same j1).imp fun d h => h.mono (by decide) (by decide)) nt
        exact (y1.same j2).cat y2 (by decide) fun t2 J3 j3 y3 => q _ _ ((j1.trans j2).trans j3) (y3.ok (((q6.same j1).same j2).same j3) fun ds al l => fT2 ds al (by omega))
      have X7 := X6.same s6
      have q7 := q6.same s6
      refine itemA (K := K) (Z := Z0) (p := p) (R := R0) (fun Q' q => ?_) fun v7 G7 s7 o7 => ?_
      · refine ⟨_, rfl, by show 1 ≤ sizeLine; decide, fun t nt => ?_⟩
        have y1 := Tp.new (K := K) (Z := Z0) (p := p) (H := G6) (R := Sz 110 3) (v := .str z) oz nt
        have j1 := same_new (o := .tup [V.str z]) nt
        refine ⟨by show 1 ≤ sizeLine; decide, fun t2 nt2 => ?_⟩
        have y2 := Tp.new (K := K) (Z := Z0) (p := p) (R := Sz 700 4) (y1.ok (q7.same j1) fun ds al l => fS al l (by decide)) nt2
        have j2 := same_new (o := .tup [V.ref t]) nt2
        exact q _ _ (j1.trans j2) (y2.ok ((q7.same j1).same j2) fun ds al l => fT2 ds al (by omega))
      have X8 := X7.same s7
      have q8 := q7.same s7
      refine itemA (K := K) (Z := Z0) (p := p) (R := R0) (fun Q' q => ?_) fun v8 G8 s8 o8 => ?_
      · refine ⟨_, rfl, _, rfl, by show 2 ≤ sizeLine; decide, fun t nt => ?_⟩
        have j1 := same_new (o := .tup [V.str z, V.str z]) nt
        have y1 : Tp K Z0 p (Sz 110 3) 6 (upd G7 t (.tup [V.str z, V.str z])) (.ref t) := ⟨t, _, rfl, SqT.of upd_same, .cons oz (.cons oz .nil), by show 2 ≤ 6; decide⟩
        refine ⟨by show 1 ≤ sizeLine; decide, fun t2 nt2 => ?_⟩
        have y2 := Tp.new (K := K) (Z := Z0) (p := p) (R := Sz 700 4) (y1.ok (q8.same j1) fun ds al l => fS al l (by decide)) nt2
        have j2 := same_new (o := .tup [V.ref t]) nt2
        exact q _ _ (j1.trans j2) (y2.ok ((q8.same j1).same j2) fun ds al l => fT2 ds al (by omega))
      have X9 := X8.same s8
      have q9 := q8.same s8
      refine itemA (K := K) (Z := Z0) (p := p) (R := R0) (fun Q' q => ?_) fun v9 G9 s9 o9 => ?_
      · exact ⟨_, rfl, q _ _ (Same.refl _) ((((((((((oo.same s1).same s2).same s3).same s4).same s5).same s6).same s7).same s8)).imp fun d h => h.mono (by decide) (by decide))⟩
      have X10 := X9.same s9
      have q10 := q9.same s9
      refine ⟨by show 9 ≤ sizeLine; decide, fun l nl => ?_⟩
      have sl := same_new (o := .lst [v1, v2, v3, v4, v5, v6, v7, v8, v9]) nl
      have all : OkA K Z0 p R0 G9 [v1, v2, v3, v4, v5, v6, v7, v8, v9] := (.cons ((((((((o1.same s2).same s3).same s4).same s5).same s6).same s7).same s8).same s9) (.cons (((((((o2.same s3).same s4).same s5).same s6).same s7).same s8).same s9) (.cons ((((((o3.same s4).same s5).same s6).same s7).same s8).same s9) (.cons (((((o4.same s5).same s6).same s7).same s8).same s9) (.cons ((((o5.same s6).same s7).same s8).same s9) (.cons (((o6.same s7).same s8).same s9) (.cons ((o7.same s8).same s9) (.cons (o8.same s9) (.cons o9 .nil)))))))))
      exact k' _ _ ⟨l, _, rfl, upd_same, pot_neZ nl q10, (by
        cases e : H l with
        | none => rfl
        | some o =>
          have e2 := b1 _ _ (pot_neZ nl q10) e
          rw [(((((((((s1.trans s2).trans s3).trans s4).trans s5).trans s6).trans s7).trans s8).trans s9)) _ _ e2] at nl
          cases nl), all.to (off_new nl), rfl, (((((((((s1.trans s2).trans s3).trans s4).trans s5).trans s6).trans s7).trans s8).trans s9)).trans sl⟩
    rintro _ H2 ⟨L, vs, rfl, hL, Lp, L0, ov, l9, s2⟩
    have X2 := X1.same s2
    have q2 := pzl (q1.same s2).po hL
    have bH2 := b1.trans (But.of s2)
    refine seqN (fun σ' H' => ∃ vs : List V, σ' = [some (.ref p), some (.ref wl), some (.ref R), some v, some (.str z), some (.ref L), none] ∧ H' L = some (.lst vs) ∧ OkA K (ZL L) p R0 H' vs ∧ vs.length = 12 ∧ But p H H' ∧ Pot H' p (B + 2) ∧ Rws H' R zs qs) (fun D' k' => ?_) ?_
    · refine ⟨_, rfl, .inl ⟨rfl, _, SqL.of hL⟩, ?_⟩
      have ixq : ∀ {G : Hp} {K' : PySem.W.Frag} {Q : VK} {q : Addr × List Str}, Rws G R zs qs → qs[0]? = some q → Q (.ref q.1) G → rIx K' (.ref R) (.int 0) G Q := fun {G K' Q q} X hq h => ixT (SqT.of X.at_) 0 (by rw [List.getElem?_map, hq]; rfl) h
      refine lst0 ?_
      refine itemA (K := K) (Z := ZL L) (p := p) (R := R0) (fun Q' q => ?_) fun w1 J1 t1 u1 => ?_
      · refine ⟨_, rfl, by show 0 ≤ sizeLine; decide, fun e ne => ?_⟩
        have je := same_new (o := .tup []) ne
        have Xe := X2.same je
        have qe := q2.same je
        refine ⟨R, e, _, rfl, rfl, SqT.of Xe.at_, SqT.of upd_same, _, rfl, ite2 (fun c => ?_) fun c => ?_⟩
        · obtain ⟨q0, hq0⟩ : ∃ q0, qs[0]? = some q0 := by
            cases qs with
            | nil => cases c
            | cons x xs => exact ⟨x, rfl⟩
          have m0 := List.mem_of_getElem? hq0
          refine ⟨_, rfl, ixq Xe hq0 ⟨_, rfl, ixq Xe hq0 (noPart ⟨_, rfl, (Xe.item (p := p) (K := K) (Z := ZL L) m0).slice fun u I1 i1 y1 => ?_⟩)⟩⟩
          refine ((Xe.same i1).item (p := p) (K := K) (Z := ZL L) m0).cat y1 (by decide) fun t I2 i2 y2 => ⟨by show 1 ≤ sizeLine; decide, fun t2 nt2 => ?_⟩
          have y3 := Tp.new (K := K) (Z := ZL L) (p := p) (R := Sz 2000 4) (y2.ok ((qe.same i1).same i2) fun ds al l => (sz_tuple al (m := 12) (by omega)).mono (by decide) (by decide)) nt2
          have i3 := same_new (o := .tup [t]) nt2
          exact q _ _ (((je.trans i1).trans i2).trans i3) (y3.ok (((qe.same i1).same i2).same i3) fun ds al l => (sz_tuple al (m := 1) l).mono (by decide) (by decide))
        · exact q _ _ je ⟨_, .int 0, (sz_nat (n := 0) (by decide)).mono (by decide) (by decide)⟩
      have X3 := X2.same t1
      have q3 := q2.same t1
      refine itemA (K := K) (Z := ZL L) (p := p) (R := R0) (fun Q' q => ?_) fun w2 J2 t2 u2 => ?_
      · refine ⟨_, rfl, by show 0 ≤ sizeLine; decide, fun e ne => ?_⟩
        have je := same_new (o := .tup []) ne
        have Xe := X3.same je
        have qe := q3.same je
        refine ⟨R, e, _, rfl, rfl, SqT.of Xe.at_, SqT.of upd_same, _, rfl, ite2 (fun c => ?_) fun c => ?_⟩
        · obtain ⟨q0, hq0⟩ : ∃ q0, qs[0]? = some q0 := by
            cases qs with
            | nil => cases c
            | cons x xs => exact ⟨x, rfl⟩
          exact ⟨_, rfl, ixq Xe hq0 (q _ _ je ((Xe.itemOk qe (List.mem_of_getElem? hq0)).imp fun d h => h.mono (by decide) (by decide)))⟩
        · exact q _ _ je ⟨_, .non, sz_non.mono (by decide) (by decide)⟩
      have X4 := X3.same t2
      have q4 := q3.same t2
      refine itemA (K := K) (Z := ZL L) (p := p) (R := R0) (fun Q' q => ?_) fun w3 J3 t3 u3 => ?_
      · refine ⟨_, rfl, by show 2 ≤ sizeLine; decide, fun t nt => ?_⟩
        have j1 := same_new (o := .tup [V.str z, V.str "zz"]) nt
        have y1 : Tp K (ZL L) p (Sz 110 3) 6 (upd J2 t (.tup [V.str z, V.str "zz"])) (.ref t) := ⟨t, _, rfl, SqT.of upd_same, .cons oz (.cons ⟨_, .str "zz", sz_tc ⟨by decide +kernel, by decide +kernel⟩⟩ .nil), by show 2 ≤ 6; decide⟩
        refine ⟨by show 1 ≤ sizeLine; decide, fun t2 nt2 => ?_⟩
        have y2 := Tp.new (K := K) (Z := ZL L) (p := p) (R := Sz 700 4) (y1.ok (q4.same j1) fun ds al l => fS al l (by decide)) nt2
        have j2 := same_new (o := .tup [V.ref t]) nt2
        exact q _ _ (j1.trans j2) (y2.ok ((q4.same j1).same j2) fun ds al l => fT2 ds al (by omega))
      refine ⟨by show 3 ≤ sizeLine; decide, fun M nM => ?_⟩
      have sM := same_new (o := .lst [w1, w2, w3]) nM
      have ss := ((t1.trans t2).trans t3).trans sM
      have hLM := ss _ _ hL
      have oAll : OkA K (ZL L) p R0 (upd J3 M (.lst [w1, w2, w3])) (vs ++ [w1, w2, w3]) := (ov.same ss).app ((OkA.cons ((u1.same t2).same t3) (.cons (u2.same t3) (.cons u3 .nil))).same sM)
      refine ⟨L, M, vs, [w1, w2, w3], rfl, rfl, hLM, upd_same, by rw [l9]; show 12 ≤ sizeLine; decide, k' _ _ ⟨_, rfl, upd_same, oAll.to off_put, by rw [List.length_append, l9]; rfl, ?_, ?_, ?_⟩⟩
      · intro b o n e
        rw [upd_ne (fun z => by rw [z, L0] at e; cases e)]
        exact ss _ _ (bH2 b o n e)
      · exact pot_put ((q2.po.same ss).mono (by omega)) (Ne.symm Lp)
      · exact (X2.same ss).put hLM
    rintro _ H3 ⟨vs, rfl, hL3, ov3, l12, b3, p3, X3⟩
    refine ⟨(6 : Int), rfl, by decide, by decide, ?_⟩
    refine for_it walk_range (fun i σ H' => ∃ (x6 : Option L2.V) (vs : List V), σ = [some (.ref p), some (.ref wl), some (.ref R), some v, some (.str z), some (.ref L), x6] ∧ H' L = some (.lst vs) ∧ OkA K (ZL L) p R0 H' vs ∧ vs.length = 12 + i ∧ But p H H' ∧ Pot H' p (B + 2 + 10 * i) ∧ Rws H' R zs qs)
      ⟨_, vs, rfl, hL3, ov3, l12, b3, p3, X3⟩ (fun _ _ _ _ _ => trivial) ?_ ?_
    · rintro i x σ H4 H5 hi ⟨x6, vs, rfl, hL5, ov5, l5, b5, p5, X5⟩ ⟨rfl, rfl⟩
      have i6 : i < 6 := by omega
      have wmR : OkV K (ZL L) p (Wm 2) H5 (.ref R) := X5.wm (pzl p5 hL5)
      refine ⟨_, rfl, .inl ⟨rfl, _, SqL.of hL5⟩, _, rfl, _, rfl, ZL L, p, .ref R, _, rfl, pzl p5 hL5, by omega, by decide, wmR, fun v' H6 b6 p6 o6 => ?_⟩
      have hL6 := b6 _ _ Lp hL5
      have oAll : OkA K (ZL L) p R0 H6 (vs ++ [v']) := (ov5.but b6).app (.cons (o6.imp fun d h => h.mono (by decide) (by decide)) .nil)
      refine ⟨L, _, _, rfl, rfl, hL6, by rw [l5, sizeLine_eq]; omega, nxt ⟨_, _, rfl, upd_same, oAll.to off_put, by rw [List.length_append, l5]; rfl, ?_, pot_put (p6.po.mono (by omega)) (Ne.symm Lp), (X5.but p5 b6).put hL6⟩⟩
      intro b o n e
      rw [upd_ne (fun z => by rw [z, L0] at e; cases e)]
      exact b6 _ _ n (b5 b o n e)
    · rintro σ H4 ⟨x6, vs, rfl, hL4, ov4, l4, b4, p4, X4⟩
      have e6 : ((6 : Int)).toNat = 6 := rfl
      exact nxt ⟨_, rfl, k L vs H4 b4 (p4.mono (by omega)) hL4 Lp (by omega) ov4⟩
end
end Toy
set_option Elab.async false
set_option linter.all false
set_option maxRecDepth 100000
set_option maxHeartbeats 8000000
namespace Toy
open PySem L2 Q RZ LamX NdefX D7
/-- a def whose code object is at c -/
structure FunC (K : PySem.W.Frag) (x : Str) (st : Stmt) (f : Addr) (fd : FuncData) (c : Addr) : Prop where
  ex : ∃ (oc : Value) (od : Option Addr) (kV doc pm : Value) (an : Option Addr) (ct : Value) (osl : Array (Option Value)),
    fd = PySem.W.fnOf x x (defArgs st) (defBody st) (defScope st) .none kV doc pm an (.ref c) ct ∧ K.lookup f = some ⟨oc, od, .func fd, osl⟩ ∧ PySem.W.codeIn K (.ref c) x = true
@[irreducible] def qF : Str := ("_law_case_right" : Str) ++ (".<locals>." : Str) ++ ("<lambda>" : Str)
theorem qF_eq : qF = ("_law_case_right" : Str) ++ (".<locals>." : Str) ++ ("<lambda>" : Str) := by unfold qF; rfl
abbrev TL1 (P1 : Addr) : List (Addr × Str) := [(P1, qF)]
/-- the def that makes lambdas: its code object and table -/
structure Tb (base : Heap) (mg : Str → Option Value) (c1 P1 : Addr) : Prop where
  t1 : TabB base mg c1 P1
theorem cx_qual {CX : CXT} {P : Program} {w : World} {K : PySem.W.Frag} {mg : Str → Option Value} {base : Heap} {N : List Str} {q : Str} {sc : Scope} {f : Addr} {cd : Value} {A : Around} {outer : List Env} {s : Shared} {H : Hp} {E : XK} :
    (cxOf CX P w K mg base N q sc f cd A outer s H E).nox.env.qual = q ++ (".<locals>." : Str) := rfl
theorem cx_code {CX : CXT} {P : Program} {w : World} {K : PySem.W.Frag} {mg : Str → Option Value} {base : Heap} {N : List Str} {q : Str} {sc : Scope} {f : Addr} {cd : Value} {A : Around} {outer : List Env} {s : Shared} {H : Hp} {E : XK} :
    (cxOf CX P w K mg base N q sc f cd A outer s H E).nox.env.code = cd := rfl
theorem extn_of {H H' : Hp} (s : Same H H') : ExtN H H' := ExtN.of s
theorem extn_tup {H H' : Hp} {a : Addr} {xs : List V} (e : ExtN H H') (h : H a = some (.tup xs)) : H' a = some (.tup xs) := e _ _ h fun ps z => by cases z
/-- all but the pot and the tables is kept -/
def Go (p : Addr) (H H' : Hp) : Prop := ∀ b o, b ≠ p → H b = some o → (∀ ps, o ≠ .tbl ps) → H' b = some o
theorem Go.refl (p : Addr) (H : Hp) : Go p H H := fun _ _ _ e _ => e
theorem Go.trans {p : Addr} {H H1 H2 : Hp} (a : Go p H H1) (b : Go p H1 H2) : Go p H H2 := fun c o n e t => b c o n (a c o n e t) t
theorem Go.but {p : Addr} {H H' : Hp} (b : But p H H') : Go p H H' := fun c o n e _ => b c o n e
theorem Go.ext {p : Addr} {H H' : Hp} (b : ExtN H H') : Go p H H' := fun c o _ e t => b c o e t
theorem Go.same {p : Addr} {H H' : Hp} (s : Same H H') : Go p H H' := fun c o _ e _ => s c o e
theorem pot_ext {H H' : Hp} {p : Addr} {B : Nat} (h : Pot H p B) (e : ExtN H H') : Pot H' p B := by
  obtain ⟨o, s, c, q, r⟩ := h
  exact ⟨o, s, c, e _ _ q (fun ps z => by cases z), r⟩
theorem tabs_but {H H' : Hp} {p : Addr} {B : Nat} {T : List (Addr × Str)} (h : Tabs T H) (hp : Pot H p B) (b : But p H H') : Tabs T H' := fun x hx => by
  obtain ⟨ps, h1, h2, h3⟩ := h x hx
  obtain ⟨o, s, c, q, _⟩ := hp
  refine ⟨ps, b _ _ (fun z => by rw [z, q] at h1; cases h1) h1, h2, fun pos cv hc => ?_⟩
  obtain ⟨c', e1, e2⟩ := h3 pos cv hc
  refine ⟨c', e1, b _ _ (fun z => ?_) e2⟩
  rw [z, q] at e2
  unfold CodeO at e2
  cases e2
/-- where the run of one pot stands: its pot and the table -/
structure At (p P1 : Addr) (B : Nat) (H : Hp) : Prop where
  po : Pot H p B
  tb : Tabs (TL1 P1) H
section
variable {p P1 : Addr} {B B' : Nat} {H H' : Hp}
theorem At.but (h : At p P1 B H) (b : But p H H') (q : Pot H' p B') : At p P1 B' H' := ⟨q, tabs_but h.tb h.po b⟩
theorem At.same (h : At p P1 B H) (s : Same H H') : At p P1 B H' := ⟨h.po.same s, h.tb.ext s⟩
theorem At.ext (h : At p P1 B H) (e : ExtN H H') (t : Tabs (TL1 P1) H') : At p P1 B H' := ⟨pot_ext h.po e, t⟩
theorem tup_go {t : Addr} {xs : List V} (h : H t = some (.tup xs)) (hp : Pot H p B) (g : Go p H H') : H' t = some (.tup xs) := g _ _ (tup_notp h hp) h fun ps z => by cases z
theorem Lks.go {zs : List Str} {l : Addr} {ls : List (Addr × List Key)} (h : Lks H zs l ls) (hp : Pot H p B) (g : Go p H H') : Lks H' zs l ls :=
  ⟨tup_go h.at_ hp g, fun q hq => ⟨tup_go (h.el q hq).1 hp g, (h.el q hq).2⟩, h.up, h.few⟩
theorem NetO.go {C n r l : Addr} (h : NetO C H n r l) (hp : Pot H p B) (g : Go p H H') : NetO C H' n r l := by
  obtain ⟨dx, e⟩ := h
  refine ⟨dx, g _ _ (fun z => ?_) e fun ps z => by cases z⟩
  obtain ⟨_, _, _, q, _⟩ := hp
  rw [z, q] at e
  cases e
theorem NetW.go {C n r l : Addr} {zs : List Str} {ls : List (Addr × List Key)} (h : NetW C H n r l zs ls) (hp : Pot H p B) (g : Go p H H') : NetW C H' n r l zs ls :=
  ⟨h.net.go hp g, tup_go h.rt hp g, h.ok, h.pw, h.lk.go hp g, h.m⟩
end
/-! ### what both sides tell, as data -/
theorem seq_ext {K : PySem.W.Frag} {H H' : Hp} (e : ExtN H H') {a : Addr} {xs : List V} : (SqL K H a xs → SqL K H' a xs) ∧ (SqT K H a xs → SqT K H' a xs) := by
  refine ⟨fun h => ?_, fun h => ?_⟩
  · rcases h with (h | ⟨o, h⟩) | h
    · exact .inl (.inl (e _ _ h fun ps z => by cases z))
    · exact .inl (.inr ⟨o, e _ _ h fun ps z => by cases z⟩)
    · exact .inr h
  · rcases h with (h | ⟨o, h⟩) | h
    · exact .inl (.inl (e _ _ h fun ps z => by cases z))
    · exact .inl (.inr ⟨o, e _ _ h fun ps z => by cases z⟩)
    · exact .inr h
mutual
theorem dd_ext {K : PySem.W.Frag} {H H' : Hp} (e : ExtN H H') : ∀ {d : PyData} {v : V}, Dd K H v d → Dd K H' v d
  | _, _, .non => .non
  | _, _, .bl b => .bl b
  | _, _, .int i => .int i
  | _, _, .str x => .str x
  | _, _, .lst h a => .lst ((seq_ext e).1 h) (ddAll_ext e a)
  | _, _, .tup h a => .tup ((seq_ext e).2 h) (ddAll_ext e a)
  | _, _, .dic h k a => .dic (e _ _ h fun ps z => by cases z) k (ddAll_ext e a)
theorem ddAll_ext {K : PySem.W.Frag} {H H' : Hp} (e : ExtN H H') : ∀ {d : List PyData} {v : List V}, DdAll K H v d → DdAll K H' v d
  | _, _, .nil => .nil
  | _, _, .cons a b => .cons (dd_ext e a) (ddAll_ext e b)
end
theorem Wd.go {p : Addr} {H H' : Hp} {B N : Nat} {wl r l : Addr} {zs : List Str} {ls : List (Addr × List Key)} (h : Wd H N wl r l zs ls) (hp : Pot H p B) (b : Go p H H') : Wd H' N wl r l zs ls :=
  ⟨tup_go h.wl_ hp b, tup_go h.r_ hp b, tup_go h.l_ hp b, fun q hq => ⟨tup_go (h.el q hq).1 hp b, (h.el q hq).2⟩, h.up, h.few, h.pw, h.nok, h.l2, h.l8⟩
theorem takes_len {X : Cx} {W W' : WX} (t : Takes X W) (h : ∀ c d (σ : L2.St) H, σ.length = X.N.length → W' c d σ H → W c d σ H) : Takes X W' :=
  fun u s' ⟨a, B, sI, pins, σ, H, cls, d, e, I, nb, up, sky, na, os, ag, w⟩ =>
    t u s' ⟨a, B, sI, pins, σ, H, cls, d, e, I, nb, up, sky, na, os, ag, h _ _ _ _ I.len w⟩
/-- a call that is tried: nothing, or the error that came -/
def TCaught (K : PySem.W.Frag) (CS : Addr) : (XK → Hp → VK → Prop) → Hp → VK → Prop := fun tl H Q =>
  tl (fun cls d H' => ∃ b, PySem.W.exmOne K cls (.ref CS) = some b ∧ (b = true → ∃ C, cls = .ref C ∧ ∀ a, H' a = none → Q (.ref a) (upd H' a (exv a C d))) ∧ (b = false → False)) H (fun _ H' => ∃ v, (some (some V.non) : Option (Option V)) = some (some v) ∧ Q v H')
section
variable {P : Program} {w : World} {K : PySem.W.Frag} {mg : Str → Option Value} {base : Heap} {ca ia fa : Nat → Addr} {fd fi : Nat → FuncData}
theorem caught_gives (T : Txt K mg ca ia fa fd fi) {X : Cx} (eK : X.K = K) (em : X.mg = mg) {g : Addr} {cdg : Value} {q : Str} :
    GivesTo X N_l_caught "_law_caught" (defScope s_l_caught) g cdg (defBody s_l_caught) "_law_look" q (TCaught X.K (ca 5)) := by
  subst eK
  subst em
  intro f c' s H Q tl act hc h
  refine ⟨_, pss_cons (ps_set (i := 1) sc_l_caught.nd rfl (Or.inl rfl) pe_non)
    (pss_cons (ps_try_keep (i := 2) (ts := _) (tb := fun W D σ H => ∃ Ech : XK, (∀ cls d (σ' : L2.St) H', σ'.length = 3 → Ech cls d H' → W cls d σ' H') ∧ σ[0]? = some (some (.ref f)) ∧ H c' = some (CodeO c' q) ∧ tl Ech H fun _ H' => D.nx σ H') (Wout := fun _ _ _ _ => False)
      rfl rfl rfl sc_l_caught.nd rfl rfl ⟨rfl, by decide, Or.inl T.cN.g⟩ L2.takes0 (fun W pn xe tk _ => ?_) (fun a oe cls d pn hz hf => pss_one (ps_set (i := 1) sc_l_caught.nd rfl (Or.inl rfl) (pv 2))))
    (pss_one (ps_ret (pv 1)))), ?_⟩
  · refine ⟨fun pins s' σ H' D I h' => ?_⟩
    obtain ⟨Ech, hW, h1, h2, h3⟩ := h'
    exact (pss_one (ps_expr (act (fun cls d _ H' => Ech cls d H') pn xe Ech _ _ (takes_len tk fun c d σ H l z => hW c d σ H l z) (fun _ _ _ _ z => z)))).run pins s' σ H' D I ⟨h1, h2, h3⟩
  · refine ⟨_, fun cls d σ' H' l z => ?_, rfl, hc, h⟩
    obtain ⟨b, e1, e2, e3⟩ := z
    refine ⟨b, e1, fun hb => ?_, fun hb => e3 hb⟩
    obtain ⟨C, rfl, k⟩ := e2 hb
    refine ⟨C, rfl, fun a na => ?_⟩
    match σ', l with
    | [x0, x1, x2], _ => exact ⟨_, rfl, _, rfl, k a na⟩
end
end Toy
set_option Elab.async false
set_option linter.all false
set_option maxRecDepth 100000
set_option maxHeartbeats 1000000
namespace Toy
open PySem L2 Q RZ LamX NdefX D7
/-! ### a case of the law -/
def unkey : List Key → List Str
  | [] => []
  | .inr s :: ks => s :: unkey ks
  | .inl _ :: ks => unkey ks
theorem unkey_map : ∀ ys : List Str, unkey (ys.map (Sum.inr (α := Int))) = ys
  | [] => rfl
  | y :: ys => congrArg (y :: ·) (unkey_map ys)
theorem Txt.kitE {K : PySem.W.Frag} {mg : Str → Option Value} {ca ia fa : Nat → Addr} {fd fi : Nat → FuncData} (T : Txt K mg ca ia fa fd fi) {nm nm2 : Str} {C D : Addr} (c : ErrC K mg nm C (ca 5)) (d : ErrC K mg nm2 D (ca 5)) : PySem.W.kitOne K (.ref C) (.ref D) = some (decide (D = C ∨ D = ca 5)) :=
  c.kit (cls_of d.xL).1 (cls_of d.xL).2.2
theorem NetW.ext {C : Addr} {H H' : Hp} {n r l : Addr} {zs : List Str} {ls : List (Addr × List Key)} (h : NetW C H n r l zs ls) (e : ExtN H H') : NetW C H' n r l zs ls := by
  obtain ⟨⟨dx, hn⟩, rt, ok, pw, lk, m⟩ := h
  exact ⟨⟨dx, e _ _ hn fun ps z => by cases z⟩, extn_tup e rt, ok, pw, ⟨extn_tup e lk.at_, fun q hq => ⟨extn_tup e (lk.el q hq).1, (lk.el q hq).2⟩, lk.up, lk.few⟩, m⟩
theorem Wd.ext {H H' : Hp} {N : Nat} {wl r l : Addr} {zs : List Str} {ls : List (Addr × List Key)} (h : Wd H N wl r l zs ls) (e : ExtN H H') : Wd H' N wl r l zs ls :=
  ⟨extn_tup e h.wl_, extn_tup e h.r_, extn_tup e h.l_, fun q hq => ⟨extn_tup e (h.el q hq).1, (h.el q hq).2⟩, h.up, h.few, h.pw, h.nok, h.l2, h.l8⟩
theorem ext_at {H H' : Hp} (e : ExtN H H') {a : Addr} {o : HO} (h : H a = some o) (n : ∀ ps, o ≠ .tbl ps) : H' a = some o := e _ _ h n
theorem ErrAt.ext {H H' : Hp} {c C : Addr} {fs : List (Str × V)} (e : ExtN H H') (h : ErrAt H c C fs) : ErrAt H' c C fs := by
  obtain ⟨d, o, q⟩ := h
  refine ⟨d, ?_, ?_⟩
  · rcases o with o | o
    · exact .inl (ext_at e o fun ps z => by unfold exo at z; cases z)
    · exact .inr (ext_at e o fun ps z => by unfold exv at z; cases z)
  · rcases q with q | q
    · exact .inl (ext_at e q fun ps z => by unfold exd at z; cases z)
    · exact .inr (ext_at e q fun ps z => by cases z)
theorem DrL.join {H : Hp} {zs : List Str} {D F : Addr} {n m : Nat} {qs rs : List (Addr × List Str)} (h : DrL H zs D n qs) (g : DrL H zs F m rs) : DrL (upd H D (.lst ((qs ++ rs).map fun q => V.ref q.1))) zs D (n + m) (qs ++ rs) := by
  refine ⟨upd_same, fun q hq => ?_, by rw [List.length_append]; have := h.few; have := g.few; omega⟩
  have w := (List.mem_append.mp hq).elim (h.el q) (g.el q)
  exact ⟨by rw [upd_ne (fun z => by have := w.1; rw [z, h.at_] at this; cases this)]; exact w.1, w.2⟩
/-- rows as keys, and back -/
def kq (q : Addr × List Str) : Addr × List Key := (q.1, q.2.map Sum.inr)
def uq (q : Addr × List Key) : Addr × List Str := (q.1, unkey q.2)
theorem uq_mem {qs : List (Addr × List Str)} {L : List (Addr × List Key)} (h : ∀ p ∈ L, p ∈ qs.map kq) : ∀ q ∈ L.map uq, q ∈ qs := by
  intro q hq
  obtain ⟨p, hp, rfl⟩ := List.mem_map.mp hq
  obtain ⟨q0, h0, rfl⟩ := List.mem_map.mp (h p hp)
  show (q0.1, unkey (q0.2.map Sum.inr)) ∈ qs
  rw [unkey_map]
  exact h0
theorem uq_nd {qs : List (Addr × List Str)} {L : List (Addr × List Key)} (h : ∀ p ∈ L, p ∈ qs.map kq) (nd : (L.map (·.2)).Nodup) : ((L.map uq).map (·.2)).Nodup := by
  have e : (L.map uq).map (·.2) = (L.map (·.2)).map unkey := by rw [List.map_map, List.map_map]; rfl
  have back : ∀ k ∈ L.map (·.2), (unkey k).map Sum.inr = k := fun k hk => by
    obtain ⟨p, hp, rfl⟩ := List.mem_map.mp hk
    obtain ⟨q0, h0, rfl⟩ := List.mem_map.mp (h p hp)
    show (unkey (q0.2.map Sum.inr)).map Sum.inr = q0.2.map Sum.inr
    rw [unkey_map]
  rw [e]
  unfold List.Nodup at nd ⊢
  rw [List.pairwise_map]
  exact nd.imp_of_mem fun {a b} ha hb n z => n (by rw [← back a ha, ← back b hb, z])
theorem oka_all {K : PySem.W.Frag} {Z : Addr → Bool} {p : Addr} {R : PyData → Prop} {H : Hp} : ∀ {vs : List V}, OkA K Z p R H vs → ∀ v ∈ vs, ∃ d, Dd K H v d ∧ R d
  | [], _, v, m => nomatch m
  | x :: xs, h, v, m => by
    obtain ⟨ds, h1, h2⟩ := h
    cases h1 with
    | cons a b =>
      rcases List.mem_cons.mp m with rfl | m
      · exact ⟨_, a.same (off_same _ _ _), h2 _ List.mem_cons_self⟩
      · exact oka_all ⟨_, b, fun d hd => h2 d (List.mem_cons_of_mem _ hd)⟩ v m
/-- where a case stands -/
structure Cs (C p P1 n wl r l F : Addr) (zs : List Str) (ls : List (Addr × List Key)) (vs : List V) (K : PySem.W.Frag) (H0 H : Hp) : Prop where
  nw : NetW C H n r l zs ls
  wd : Wd H 90 wl r l zs ls
  go : Go p H0 H
  tb : Tabs (TL1 P1) H
  po : Pot H p 1000
  hF : H F = some (.lst vs)
  ok : ∀ v ∈ vs, ∃ d, Dd K H v d ∧ R0 d
section
variable {C p P1 n wl r l F : Addr} {zs : List Str} {ls : List (Addr × List Key)} {vs : List V} {K : PySem.W.Frag} {H0 H H' : Hp}
theorem Cs.same (h : Cs C p P1 n wl r l F zs ls vs K H0 H) (s : Same H H') : Cs C p P1 n wl r l F zs ls vs K H0 H' :=
  ⟨h.nw.same s, h.wd.same s, h.go.trans (Go.same s), h.tb.ext s, h.po.same s, s _ _ h.hF, fun v m => let ⟨d, h1, h2⟩ := h.ok v m; ⟨d, h1.same s, h2⟩⟩
theorem Cs.ext (h : Cs C p P1 n wl r l F zs ls vs K H0 H) (e : ExtN H H') (t : Tabs (TL1 P1) H') : Cs C p P1 n wl r l F zs ls vs K H0 H' :=
  ⟨h.nw.ext e, h.wd.ext e, h.go.trans (Go.ext e), t, pot_ext h.po e, e _ _ h.hF (fun ps z => by cases z), fun v m => let ⟨d, h1, h2⟩ := h.ok v m; ⟨d, dd_ext e h1, h2⟩⟩
end
def spCase (P1 : Addr) : Sp := fun vs H Q _ => ∃ (p : Addr), vs = [.ref p] ∧ At p P1 0 H ∧ ∀ B H', Go p H H' → At p P1 B H' → Q (.bl true) H'
section
variable {P : Program} {w : World} {K : PySem.W.Frag} {mg : Str → Option Value} {base : Heap} {ca ia fa : Nat → Addr} {fd fi : Nat → FuncData} {c1 P1 : Addr}
theorem ok_case (T : Txt K mg ca ia fa fd fi) (FC : FunC K "_law_case_right" s_l_case_right (fa 73) (fd 73) c1) (B : Tb base mg c1 P1) :
    FnG P w K mg base CX0 16 (fa 73) (fd 73) ["_law_pot_here"] (spCase P1) := by
  have G_l_world := ok_world (P := P) (w := w) (base := base) T
  have G_l_walks := ok_walks (P := P) (w := w) (base := base) T
  have G_l_of := ok_of (P := P) (w := w) (base := base) T
  have G_l_take := ok_take (P := P) (w := w) (base := base) T
  have G_l_made := ok_made (P := P) (w := w) (base := base) T
  have G_l_values := ok_values (P := P) (w := w) (base := base) T
  have G_l_are_rows := ok_lRows (P := P) (w := w) (base := base) T
  have G_shows_wanted := ok_showsW (P := P) (w := w) (base := base) T
  have G_wanted := ok_wanted (P := P) (w := w) (base := base) T
  obtain ⟨ocC, odC, kVC, docC, pmC, anC, cdC, ctC, oslC, eC, lkC, hcC⟩ := T.F_l_caught.ex
  have bC := T.b_l_caught
  rw [eC] at lkC bC
  obtain ⟨oc, od, kV, doc, pm, an, ct, osl, e, lk, hcd⟩ := FC.ex
  rw [e] at lk ⊢
  refine fng_of lk hcd sc_l_case_right (fun vs H Q E h => ?_) fun A outer s H vs Q E hgd hr h => ?_
  · obtain ⟨p, rfl, _⟩ := h
    rfl
  · obtain ⟨p, rfl, at0, k⟩ := h
    suffices hh : ∃ t', PSs (cxOf CX0 P w K mg base N_l_case_right "_law_case_right" (defScope s_l_case_right) (fa 73) (.ref c1) A outer s H E).nox (defBody s_l_case_right) t' ∧ t' { nx := fun _ H' => Q .non H', rt := Q } (L2.start N_l_case_right [V.ref p]) H by
      obtain ⟨t', h1, h2⟩ := hh
      exact ⟨t', h1.nox, h2⟩
    have eq : (cxOf CX0 P w K mg base N_l_case_right "_law_case_right" (defScope s_l_case_right) (fa 73) (.ref c1) A outer s H E).nox.env.qual ++ ("<lambda>" : Str) = qF := by rw [cx_qual]; exact qF_eq.symm
    have hm : (P1, (cxOf CX0 P w K mg base N_l_case_right "_law_case_right" (defScope s_l_case_right) (fa 73) (.ref c1) A outer s H E).nox.env.qual ++ ("<lambda>" : Str)) ∈ TL1 P1 := by rw [eq]; exact List.mem_cons_self
    have hu : ∀ p ∈ TL1 P1, p.1 = P1 → p.2 = (cxOf CX0 P w K mg base N_l_case_right "_law_case_right" (defScope s_l_case_right) (fa 73) (.ref c1) A outer s H E).nox.env.qual ++ ("<lambda>" : Str) := by
      rw [eq]
      intro q hq _
      rw [List.mem_singleton.mp hq]
    have gv := caught_gives (X := (cxOf CX0 P w K mg base N_l_case_right "_law_case_right" (defScope s_l_case_right) (fa 73) (.ref c1) A outer s H E).nox) T rfl rfl (g := fa 68) (cdg := cdC)
      (q := (cxOf CX0 P w K mg base N_l_case_right "_law_case_right" (defScope s_l_case_right) (fa 73) (.ref c1) A outer s H E).nox.env.qual ++ ("<lambda>" : Str))
    refine ⟨_, (pss_cons (ps_par (i := 1) (j := 2) (by rfl) sc_l_case_right.nd rfl rfl (by decide) rfl rfl (pa_cons (pe_call G_l_world (hr.mono (by decide)) rfl T.g_l_world T.k_l_world T.b_l_world .nil pass0 (pa_cons (pv 0) (pa_cons pe_int (pa_cons pe_int (pa_cons pe_int pa_nil))))) (pa_cons (pe_lst pa_nil) pa_nil)) (by rfl))
      (pss_cons (ps_for PassesOwn.never rfl (pi_range1 rfl T.n_range (pa_cons pe_int pa_nil)) (pg_name (i := 3) sc_l_case_right.nd rfl (Or.inl rfl)) (pss_one (ps_expr (pe_bm PySem.F.plainAttrs_list PySem.F.slot_list_extend PySem.F.type_list_extend mt_extend (pv 2) (pa_cons (pe_call G_l_walks (hr.mono (by decide)) rfl T.g_l_walks T.k_l_walks T.b_l_walks .nil pass0 (pa_cons (pv 0) (pa_cons (pv 1) (pa_cons (pe_call G_l_of (hr.mono (by decide)) rfl T.g_l_of T.k_l_of T.b_l_of .nil pass0 (pa_cons (pv 0) (pa_cons (pe_ix ix_seq (pv 1) pe_int (fun _ _ => rfl)) pa_nil))) (pa_cons (pe_op op_add pe_int (pe_call G_l_take (hr.mono (by decide)) rfl T.g_l_take T.k_l_take T.b_l_take .nil pass0 (pa_cons (pv 0) (pa_cons pe_int pa_nil)))) pa_nil))))) pa_nil)))))
      (pss_cons (ps_asg (pe_tup (pa_cons (pe_callTy call_tuple_of (by rfl) T.n_tuple (by decide +kernel) (pa_cons (pe_callB (cr_sortTuR rfl (roomU3 hr)) (by rfl) T.n_sorted (by decide +kernel) (pa_cons (pe_callTy (cr_setTuD rfl (roomU3 hr)) (by rfl) T.n_set (by decide +kernel) (pa_cons (pv 2) pa_nil)) pa_nil)) pa_nil)) (pa_cons (pe_call G_l_made (hr.mono (by decide)) rfl T.g_l_made T.k_l_made T.b_l_made .nil pass0 (pa_cons (pv 1) pa_nil)) pa_nil))) (pg_tup rfl (pgs_cons (pg_name (i := 4) sc_l_case_right.nd rfl (Or.inl rfl)) (pgs_cons (pg_name (i := 5) sc_l_case_right.nd rfl (Or.inr rfl)) pgs_nil))))
      (pss_cons (ps_for PassesOwn.never rfl (pi_list (pe_call G_l_values (hr.mono (by decide)) rfl T.g_l_values T.k_l_values T.b_l_values .nil pass0 (pa_cons (pv 0) (pa_cons (pv 1) (pa_cons (pv 4) pa_nil))))) (pg_name (i := 6) sc_l_case_right.nd rfl (Or.inr rfl)) (pss_cons (ps_set (i := 7) sc_l_case_right.nd rfl (Or.inl rfl) (pe_lamcall (T := TL1 P1) (TT := TCaught K (ca 5)) (k := 13) (Ng := N_l_caught) (a := "_law_look") (t := fun E => tCall (spShowsW K (ca 20) (ca 8)) [] E (tCons (tVar 5) (tCons (tVar 6) (tCons (tC .non) tNil)))) rfl T.g_l_caught T.k_l_caught lkC hcC bC sc_l_caught rfl (Or.inl rfl) gv B.t1 cx_code hm hu (hr.mono (by decide)) (lamS_by (by show lamSB (defScope s_l_case_right) _ = true; decide +kernel)) rfl (fun _ _ _ _ _ => rfl)
        (fun A outer s H E f c' hr => (pe_call G_shows_wanted (hr.mono (by decide)) rfl T.g_shows_wanted T.k_shows_wanted T.b_shows_wanted .nil (passes_call (takes_of rfl rfl rfl rfl) fun _ _ _ _ h => h) (pa_cons (pv 5) (pa_cons (pv 6) (pa_cons pe_non pa_nil)))))))
      (pss_cons (ps_if (pt_cmpR op_ne (pe_call G_l_are_rows (hr.mono (by decide)) rfl T.g_l_are_rows T.k_l_are_rows T.b_l_are_rows .nil pass0 (pa_cons (pv 1) (pa_cons (pv 6) pa_nil))) (pe_cmpR op_isN (pv 7) pe_non (nomark _)) (nomark _)) (pss_one (ps_ret pe_bl)) pss_nil)
      (pss_one (ps_if (pt_cmpR op_notN (pv 7) pe_non (nomark _)) (pss_cons (ps_set (i := 8) sc_l_case_right.nd rfl (Or.inl rfl) (pe_lamcall (T := TL1 P1) (TT := TCaught K (ca 5)) (k := 13) (Ng := N_l_caught) (a := "_law_look") (t := fun E => tCall (spWanted K (ca 20) (ca 8)) [] E (tCons (tVar 5) (tCons (tVar 6) tNil))) rfl T.g_l_caught T.k_l_caught lkC hcC bC sc_l_caught rfl (Or.inl rfl) gv B.t1 cx_code hm hu (hr.mono (by decide)) (lamS_by (by show lamSB (defScope s_l_case_right) _ = true; decide +kernel)) rfl (fun _ _ _ _ _ => rfl)
        (fun A outer s H E f c' hr => (pe_call G_wanted (hr.mono (by decide)) rfl T.g_wanted T.k_wanted T.b_wanted .nil (passes_call (takes_of rfl rfl rfl rfl) fun _ _ _ _ h => h) (pa_cons (pv 5) (pa_cons (pv 6) pa_nil))))))
      (pss_cons (ps_if (PW.pt (pw_or (pt_not (pt_val (pe_callB call_isA (by rfl) T.n_isinstance (by decide +kernel) (pa_cons (pv 7) (pa_cons (pe_glob rfl T.c_BadRows.g (v := .ref (ca 8)) rfl) pa_nil))))) (pw_or1 (pt_not (pt_val (pe_callB call_isA (by rfl) T.n_isinstance (by decide +kernel) (pa_cons (pv 8) (pa_cons (pe_glob rfl T.c_BadRows.g (v := .ref (ca 8)) rfl) pa_nil)))))))) (pss_one (ps_ret pe_bl)) pss_nil)
      (pss_one (ps_if (pt_cmpR op_ne (pe_repr hgd hr T.n_repr (pe_lst (pa_cons (pe_errf (pv 7)) (pa_cons (pe_errf (pv 8)) pa_nil)))) (pe_repr hgd hr T.n_repr (pe_lst (pa_cons (pv 6) (pa_cons (pv 6) pa_nil)))) (nomark _)) (pss_one (ps_ret pe_bl)) pss_nil)))) pss_nil)))))
      (pss_one (ps_ret pe_bl)))))), ?_⟩
    refine seqP (fun a b H' => ∃ (wl r l D : Addr) (zs : List Str) (ls : List (Addr × List Key)), a = .ref wl ∧ b = .ref D ∧ Wd H' 90 wl r l zs ls ∧ zs.length ≤ 6 ∧ But p H H' ∧ Pot H' p 200 ∧ H D = none ∧ D ≠ p ∧ DrL H' zs D 0 []) (fun Q k' => ?_) ?_
    · refine ⟨_, rfl, p, 2, 6, 5, 0, rfl, at0.po, by decide, by decide, by decide, by decide, by decide, fun wl r l zs ls H1 hwl hz hl pw nok lo' hi' lk b1 p1 => ⟨by show 0 ≤ sizeLine; decide, fun D nD => ?_⟩⟩
      have hw : Wd H1 90 wl r l zs ls := ⟨hwl, hz, hl, lk.1, lk.2.1, lk.2.2, pw, nok, by omega, by omega⟩
      have s1 := same_new (o := .lst []) nD
      refine k' _ _ _ ⟨wl, r, l, D, zs, ls, rfl, rfl, hw.same s1, by omega, b1.trans (But.of s1), (p1.same s1).mono (by omega), ?_, pot_none p1 nD, ⟨upd_same, fun q m => (nomatch m), Nat.le_refl _⟩⟩
      cases e : H D with
      | none => rfl
      | some o =>
        rw [b1 _ _ (pot_none p1 nD) e] at nD
        cases nD
    rintro _ _ H1 ⟨wl, r, l, D, zs, ls, rfl, rfl, hw, z6, b1, p1, D0, Dp, dr⟩
    refine ⟨3, rfl, by decide, by decide, ?_⟩
    refine for_it walk_range (fun i σ H' => ∃ (x3 : Option L2.V) (qs : List (Addr × List Str)), σ = [some (.ref p), some (.ref wl), some (.ref D), x3, none, none, none, none, none] ∧ But p H H' ∧ Pot H' p (200 + 32 * i) ∧ Wd H' 90 wl r l zs ls ∧ DrL H' zs D (5 * i) qs)
      ⟨_, [], rfl, b1, p1, hw, dr⟩ (fun _ _ _ _ _ => trivial) ?_ ?_
    · rintro i x σ H2 H3 hi ⟨x3, qs, rfl, b2, p2, w2, d2⟩ ⟨rfl, rfl⟩
      have i3 : i < 3 := hi
      have z8 := w2.l8
      refine ⟨_, rfl, .inl ⟨rfl, _, SqL.of d2.at_⟩, _, rfl, _, rfl, _, rfl, _, rfl, w2.ix 0 rfl ⟨p, .ref r, _, _, rfl, p2, by omega, .inr (.inl ⟨r, rfl, SqT.of w2.r_⟩), by have := w2.l2; rw [List.length_map]; omega, by rw [List.length_map]; omega, fun j u H4 hu b4 p4 => ?_⟩⟩
      obtain ⟨z, hz, rfl⟩ := at_map hu
      have w4 := w2.but p2 b4
      have d4 := d2.but p2 b4
      refine ⟨_, rfl, p, 5, _, rfl, p4, by decide, by decide, by omega, fun m H5 hm b5 p5 => ⟨_, _, rfl, rfl, ?_⟩⟩
      have w5 := w4.but p4 b5
      have d5 := d4.but p4 b5
      refine ⟨p, wl, r, l, _, 90, 1 + m, z, zs, ls, by rw [Int.natCast_add]; rfl, p5, by omega, w5, List.mem_of_getElem? hz, by omega, fun F rs H6 b6 p6 nF d6 => ?_⟩
      have d6' := d5.but p5 b6
      have D6 := d6'.at_
      have ns : D ≠ F := fun e => by rw [← e, d5.at_] at nF; cases nF
      have lq := d6'.few
      have lr := d6.few
      refine ⟨D, F, _, _, rfl, rfl, D6, d6.at_, by rw [List.length_map, List.length_map, sizeLine_eq]; omega, nxt ⟨_, qs ++ rs, rfl, ?_⟩⟩
      have eL : qs.map (fun q => V.ref q.1) ++ rs.map (fun q => V.ref q.1) = (qs ++ rs).map fun q => V.ref q.1 := by rw [List.map_append]
      rw [eL]
      have tF : ∀ {c : Addr} {xs : List V} {o : HO}, H6 c = some (.tup xs) → upd H6 D o c = some (.tup xs) := fun {c xs o} e => by rw [upd_ne (fun z => by rw [z, D6] at e; cases e)]; exact e
      have w6 := w5.but p5 b6
      refine ⟨fun b o n e => ?_, (pot_put p6 (Ne.symm Dp)).mono (by omega), ⟨tF w6.wl_, tF w6.r_, tF w6.l_, fun q hq => ⟨tF (w6.el q hq).1, (w6.el q hq).2⟩, w6.up, w6.few, w6.pw, w6.nok, w6.l2, w6.l8⟩, ?_⟩
      · rw [upd_ne (fun z => by rw [z, D0] at e; cases e)]
        exact b6 b o n (b5 b o n (b4 b o n (b2 b o n e)))
      · have dj := d6'.join d6
        exact ⟨dj.at_, dj.el, by have := dj.few; omega⟩
    rintro σ H2 ⟨x3, qs, rfl, b2, p2, w2, d2⟩
    refine nxt ?_
    have lq : qs.length ≤ 15 := d2.few
    have hD := d2.at_
    refine ⟨_, rfl, D, qs.map kq, rfl, SqL.of (by rw [List.map_map]; exact hD), fun q hq => ?_, by rw [List.length_map]; omega, fun S L sub sup nd le nS => ?_⟩
    · obtain ⟨q0, h0, rfl⟩ := List.mem_map.mp hq
      exact SqT.of (by have := (d2.el q0 h0).1; rw [← kV_strs] at this; exact this)
    have sS := same_new (o := SetM w S (L.map fun p => Value.ref p.1)) nS
    have um := uq_mem sub
    refine ⟨S, L.map uq, rfl, by rw [upd_same, List.map_map]; rfl, fun q hq => SqT.of (sS _ _ (d2.el q (um q hq)).1), fun q hq z => ?_, uq_nd sub nd, by rw [List.length_map]; rw [List.length_map] at le; omega, fun Ls rs pm pw nLs => ?_⟩
    · have := (d2.el q (um q hq)).2.1
      rw [z] at this
      exact absurd this (by decide)
    have sL := same_new (o := .lst (rs.map fun q => V.ref q.1)) nLs
    refine ⟨Ls, _, rfl, .inl ⟨SqL.of upd_same, fun R nR => ?_⟩⟩
    have sR := same_new (o := .tup (rs.map fun q => V.ref q.1)) nR
    have s25 := (sS.trans sL).trans sR
    have rl : rs.length ≤ 15 := by
      have := pm.length_eq
      rw [List.length_map] at this
      rw [List.length_map] at le
      omega
    have hR : Rws (upd (upd (upd H2 S (SetM w S (L.map fun p => Value.ref p.1))) Ls (.lst (rs.map fun q => V.ref q.1))) R (.tup (rs.map fun q => V.ref q.1))) R zs rs := ⟨upd_same, fun q hq => ⟨s25 _ _ (d2.el q (um q (pm.mem_iff.mp hq))).1, (d2.el q (um q (pm.mem_iff.mp hq))).2⟩, rl, w2.nok⟩
    refine ⟨_, rfl, 90, wl, r, l, zs, ls, rfl, w2.same s25, fun n H3 s3 hn => ⟨by show 2 ≤ sizeLine; decide, fun tt ntt => ⟨tt, _, rfl, SqT.of upd_same, rfl, _, _, rfl, _, _, rfl, rfl, ?_⟩⟩⟩
    have st := same_new (o := .tup [.ref R, .ref n]) ntt
    have s2t := (s25.trans s3).trans st
    have hR := (hR.same s3).same st
    have hn := hn.same st
    have w4 := w2.same s2t
    have p4 := p2.same s2t
    have b4 := b2.trans (But.of s2t)
    generalize upd H3 tt (.tup [.ref R, .ref n]) = H4 at hR hn w4 p4 b4 ⊢
    refine nxt ?_
    refine ⟨_, rfl, _, rfl, _, rfl, p, wl, r, l, R, _, 90, zs, ls, rs, rfl, p4, by omega, w4, hR, fun F vs H5 b5 p5 hF Fp few oka => ⟨F, rfl, ⟨_, SqL.of hF⟩, ?_⟩⟩
    have tb5 := at0.but (b4.trans b5) p5
    have cs : Cs (ca 20) p P1 n wl r l F zs ls vs K H H5 := ⟨hn.but p4 b5, w4.but p4 b5, Go.but (b4.trans b5), tb5.tb, p5.mono (by omega), hF, oka_all oka⟩
    refine for_it (walk_list (xs := vs)) (fun i σ H' => ∃ (x6 x7 x8 : Option L2.V), σ = [some (.ref p), some (.ref wl), some (.ref D), x3, some (.ref R), some (.ref n), x6, x7, x8] ∧ Cs (ca 20) p P1 n wl r l F zs ls vs K H H')
      ⟨_, _, _, rfl, cs⟩ (fun i σ H' _ z => ?_) ?_ ?_
    · obtain ⟨_, _, _, _, z⟩ := z
      exact SqL.of z.hF
    · rintro i v σ H6 H7 hi ⟨x6, x7, x8, rfl, c6⟩ ⟨rfl, hx⟩
      obtain ⟨d, dd6, sz⟩ := c6.ok v (List.mem_of_getElem? hx)
      refine seqS (fun y H' => ((y = .non ∧ RowsD (LkR ls) zs d) ∨ (∃ c, y = .ref c ∧ ¬ RowsD (LkR ls) zs d ∧ ErrAt H' c (ca 8) [("value", v)])) ∧ Cs (ca 20) p P1 n wl r l F zs ls vs K H H' ∧ Dd K H' v d) (fun Q k' => ?_) ?_
      · refine ⟨c6.tb, fun G1 e5 t5 => ⟨_, rfl, _, rfl, n, r, l, zs, ls, v, d, rfl, c6.nw.ext e5, dd_ext e5 dd6, fun yes G2 s6 => ?_, fun no e G2 s6 ed => ?_⟩⟩
        · exact ⟨_, rfl, k' _ _ ⟨.inl ⟨rfl, yes⟩, (c6.ext e5 t5).same s6, (dd_ext e5 dd6).same s6⟩⟩
        · refine ⟨true, T.exm T.c_BadRows, fun _ => ⟨_, rfl, fun c nc => ?_⟩, fun z => nomatch z⟩
          have sc := same_new (o := exv c (ca 8) (some e)) nc
          have s7 := s6.trans sc
          exact k' _ _ ⟨.inr ⟨c, rfl, no, e, .inr upd_same, .inr (sc _ _ ed)⟩, (c6.ext e5 t5).same s7, (dd_ext e5 dd6).same s7⟩
      rintro y H8 ⟨alt, c8, dd8⟩
      refine ⟨_, rfl, _, rfl, 90, wl, r, l, zs, ls, v, d, rfl, c8.wd, dd8, fun ds e x hx es ex => Nat.lt_of_le_of_lt ((sz.tx ds e).2 x hx es ex) (by decide), fun b hb H9 s9 => ?_⟩
      have c9 := c8.same s9
      have dd9 := dd8.same s9
      have excB := T.c_BadRows.exc T.hn T.ht
      rcases alt with ⟨rfl, yes⟩ | ⟨c, rfl, no, ee⟩
      · have hb1 : b = true := hb.mpr yes
        subst hb1
        refine ⟨_, rfl, rfl, rfl, _, rfl, iteB2 (by simp) (nxt ?_)⟩
        exact ⟨_, rfl, rfl, _, rfl, iteB2 (by simp) (nxt ⟨_, _, _, rfl, c9⟩)⟩
      have hb0 : b = false := by
        cases b with
        | false => rfl
        | true => exact absurd (hb.mp rfl) no
      subst hb0
      have ee9 := ee.mono s9
      refine ⟨_, rfl, rfl, rfl, _, rfl, iteB2 (by simp) (nxt ?_)⟩
      refine ⟨_, rfl, rfl, _, rfl, iteB (by simp) ?_⟩
      refine seqS (fun y H' => ∃ c2, y = .ref c2 ∧ ErrAt H' c2 (ca 8) [("value", v)] ∧ ErrAt H' c (ca 8) [("value", v)] ∧ Cs (ca 20) p P1 n wl r l F zs ls vs K H H' ∧ Dd K H' v d) (fun Q k' => ?_) ?_
      · refine ⟨c9.tb, fun G1 e5 t5 => ⟨_, rfl, _, rfl, n, r, l, zs, ls, v, d, rfl, c9.nw.ext e5, dd_ext e5 dd9, no, fun e G2 s6 ed => ?_⟩⟩
        refine ⟨true, T.exm T.c_BadRows, fun _ => ⟨_, rfl, fun c2 nc => ?_⟩, fun z => nomatch z⟩
        have sc := same_new (o := exv c2 (ca 8) (some e)) nc
        have s7 := s6.trans sc
        exact k' _ _ ⟨c2, rfl, ⟨e, .inr upd_same, .inr (sc _ _ ed)⟩, (ErrAt.ext e5 ee9).mono s7, (c9.ext e5 t5).same s7, (dd_ext e5 dd9).same s7⟩
      rintro _ H10 ⟨c2, rfl, e2, e1, c10, dd10⟩
      refine ⟨_, rfl, .inr ⟨c, _, .ref (ca 8), .ref (ca 8), _, rfl, .own _, e1.i, excB, T.kitE T.c_BadRows T.c_BadRows, ?_⟩⟩
      rw [decide_eq_true (.inl rfl)]
      refine ⟨_, rfl, iteB2 rfl ?_⟩
      refine ⟨_, rfl, .inr ⟨c2, _, .ref (ca 8), .ref (ca 8), _, rfl, .own _, e2.i, excB, T.kitE T.c_BadRows T.c_BadRows, ?_⟩⟩
      rw [decide_eq_true (.inl rfl)]
      refine ⟨_, rfl, iteB2 rfl (nxt ?_)⟩
      refine ⟨_, rfl, c, _, _, v, rfl, e1, excB, T.no_BadRows_value, rfl, _, rfl, c2, _, _, v, rfl, e2, excB, T.no_BadRows_value, rfl, by show 2 ≤ sizeLine; decide, fun L1 n1 => ?_⟩
      have t1 := same_new (o := .lst [v, v]) n1
      have smd : Sm (2 * (300000 + 2) + 3) 7 (.list [d, d]) := sm_list (n := 300000) (k := 6) (xs := [d, d]) fun x hx => by
        rcases List.mem_cons.mp hx with rfl | hx
        · exact sz.sm
        · rw [List.mem_singleton.mp hx]
          exact sz.sm
      have sho : Shows (.list [d, d]) := ⟨smd.ok, Nat.le_trans smd.len (by rw [sizeLine_eq]; decide), Nat.le_trans smd.dp (by decide)⟩
      refine ⟨.ref L1, .list [d, d], rfl, .lst (SqL.of upd_same) (.cons (dd10.same t1) (.cons (dd10.same t1) .nil)), sho, _, rfl, _, rfl, by show 2 ≤ sizeLine; decide, fun L2 n2 => ?_⟩
      have t2 := same_new (o := .lst [v, v]) n2
      refine ⟨.ref L2, .list [d, d], rfl, .lst (SqL.of upd_same) (.cons ((dd10.same t1).same t2) (.cons ((dd10.same t1).same t2) .nil)), sho, rfl, ?_⟩
      rw [decide_eq_true rfl]
      exact ⟨_, rfl, iteB2 rfl (nxt ⟨_, _, _, rfl, (c10.same t1).same t2⟩)⟩
    · rintro σ H6 ⟨x6, x7, x8, rfl, c6⟩
      exact nxt (k 1000 H6 c6.go ⟨c6.po, c6.tb⟩)
end
end Toy
set_option Elab.async false
set_option linter.all false
set_option maxRecDepth 100000
set_option maxHeartbeats 8000000
namespace Toy
open PySem L2 Q RZ LamX NdefX D7
def spLaw (P1 P2 : Addr) (K : PySem.W.Frag) : Sp := fun vs H Q _ => ∃ (a : Addr) (ns : List Int), vs = [.ref a] ∧ SqL K H a (ns.map V.int) ∧ ns.length ≤ 63 ∧ Tabs (TL1 P1) H ∧ ∀ H', Q (.bl true) H'
section
variable {P : Program} {w : World} {K : PySem.W.Frag} {mg : Str → Option Value} {base : Heap} {ca ia fa : Nat → Addr} {fd fi : Nat → FuncData} {c1 P1 : Addr}
theorem ok_law (T : Txt K mg ca ia fa fd fi) (FC : FunC K "_law_case_right" s_l_case_right (fa 73) (fd 73) c1) (B : Tb base mg c1 P1) :
    FnG P w K mg base CX0 17 (fa 74) (fd 74) ["_law_script"] (spLaw P1 P1 K) := by
  have G_l_pots := ok_pots (P := P) (w := w) (base := base) T
  have G_l_case_right := ok_case (P := P) (w := w) (base := base) T FC B
  refine okG T.F_law sc_law (fun vs H Q E h => ?_) (fun cdv A outer s H vs Q E hgd hr h => ?_)
  · obtain ⟨a, ns, rfl, _⟩ := h
    rfl
  · obtain ⟨a, ns, rfl, hs, hl, hT, k⟩ := h
    refine ⟨_, (pss_one (ps_ret (pe_callB (cr_all rfl) (by rfl) T.n_all (by decide +kernel) (pa_cons (pe_lc (own := [("_law_pot_here", 1)]) (g := (gName 1)) (tt := tYes) rfl sc_law.nd (pi_list (pe_call G_l_pots (hr.mono (by decide)) rfl T.g_l_pots T.k_l_pots T.b_l_pots .nil pass0 (pa_cons (pv 0) (pa_cons pe_int pa_nil)))) (blkOk_by (own := [("_law_pot_here", 1)]) (N := N_law) (sc := defScope s_law) (by decide +kernel)) (fun _ _ _ _ _ => (pg_name (i := 1) sc_law.nd rfl (Or.inl rfl))) (fun _ _ _ _ _ => pts_nil) (fun _ _ _ _ _ => by exact (pe_callG G_l_case_right hgd (hr.mono (by decide)) rfl T.g_l_case_right T.k_l_case_right T.b_l_case_right .nil pass0 (pa_cons (pv 1) pa_nil)))) pa_nil)))), ?_⟩
    refine ⟨_, rfl, a, ns, 4, rfl, hs, by decide, hl, fun L ps H1 s1 hL few nd nL hp => ?_⟩
    have ll : (ps.map V.ref).length = ps.length := List.length_map ..
    refine ⟨L, rfl, ⟨_, SqL.of hL⟩, fun D hD => ?_⟩
    have potD : ∀ {p : Addr}, p ∈ ps → p ≠ D := fun {p} m z => by
      obtain ⟨_, _, _, e, _⟩ := hp p m
      rw [z, hD] at e
      cases e
    have LD : L ≠ D := fun z => by rw [z, hD] at hL; cases hL
    have Lp : ∀ {p : Addr}, p ∈ ps → L ≠ p := fun {p} m z => nL (z ▸ m)
    refine lc_it (walk_list (xs := ps.map V.ref)) (fun i H' => H' D = some (.lst (List.replicate i (V.bl true))) ∧ H' L = some (.lst (ps.map V.ref)) ∧ (∀ (j : Nat) (p : Addr), i ≤ j → ps[j]? = some p → Pot H' p 0) ∧ Tabs (TL1 P1) H')
      ⟨upd_same, by rw [upd_ne LD]; exact hL, fun j p _ hj => (hp p (List.mem_of_getElem? hj)).same (same_new hD), (hT.ext s1).ext (same_new hD)⟩ (fun i H' _ z => SqL.of z.2.1) ?_ ?_
    · rintro i x H2 H3 hi ⟨h2, hL2, hp2, t2⟩ ⟨rfl, hx⟩
      obtain ⟨p, hpi, rfl⟩ := at_map hx
      have mp := List.mem_of_getElem? hpi
      refine ⟨rfl, ?_⟩
      dsimp only [tYes]
      rw [if_pos rfl]
      refine ⟨_, rfl, p, rfl, ⟨hp2 i p (Nat.le_refl _) hpi, t2⟩, fun B' H4 g4 a4 => ?_⟩
      have keep : ∀ {b : Addr} {xs : List V}, b ≠ p → H3 b = some (.lst xs) → H4 b = some (.lst xs) := fun {b xs} n e => g4 _ _ n e fun ps z => by cases z
      have h4 := keep (potD mp).symm h2
      refine ⟨_, h4, ?_, ?_, ?_, fun j q hj hq => ?_, ?_⟩
      · rw [List.length_replicate, sizeLine_eq]
        rw [ll] at hi
        omega
      · rw [upd_same, rep_succ]
      · rw [upd_ne LD]
        exact keep (Lp mp) hL2
      · have mq := List.mem_of_getElem? hq
        have ne : q ≠ p := fun z => by
          subst z
          obtain ⟨x1, y1⟩ := List.getElem?_eq_some_iff.mp hpi
          obtain ⟨x2, y2⟩ := List.getElem?_eq_some_iff.mp hq
          exact List.pairwise_iff_getElem.mp nd i j x1 x2 (by omega) (by rw [y1, y2])
        obtain ⟨o, sd, c, e, r⟩ := hp2 j q (by omega) hq
        exact ⟨o, sd, c, by rw [upd_ne (potD mq)]; exact keep ne e, r⟩
      · have tD : Tabs (TL1 P1) (upd H4 D (.lst (List.replicate i (V.bl true) ++ [V.bl true]))) := fun z hz => by
          obtain ⟨qs, z1, z2, z3⟩ := a4.tb z hz
          refine ⟨qs, by rw [upd_ne (fun y => by rw [y, h4] at z1; cases z1)]; exact z1, z2, fun pos cv hc => ?_⟩
          obtain ⟨c', e1, e2⟩ := z3 pos cv hc
          refine ⟨c', e1, ?_⟩
          rw [upd_ne]
          · exact e2
          · intro y
            rw [y, h4] at e2
            unfold CodeO at e2
            cases e2
        exact tD
    · rintro H2 ⟨h2, _⟩
      refine ⟨D, List.replicate _ true, rfl, SqL.of (by rw [List.map_replicate]; exact h2), ?_⟩
      rw [all_rep]
      exact k H2
end
end Toy
set_option Elab.async false
set_option linter.all false
set_option maxRecDepth 100000
set_option maxHeartbeats 8000000
namespace Toy
open PySem L2 Q RZ LamX NdefX D7
theorem all_mk {P : Program} {w : World} {K : PySem.W.Frag} {h : Heap} {mg : Str → Option Value} {fl : Addr} (X : K.In h) (G : h.Ns mainGlobals mg) (hfl : mg "law" = some (.ref fl))
    {f1 : Addr} {od1 an1 : Option Addr} {sl1 : Array (Option Value)} {oc1 kV1 dc1 pm1 ct1 : Value} {cd1 : Value}
    {f11 : Addr} {od11 an11 : Option Addr} {sl11 : Array (Option Value)} {oc11 kV11 dc11 pm11 ct11 : Value} {cd11 : Value}
    {f12 : Addr} {od12 an12 : Option Addr} {sl12 : Array (Option Value)} {oc12 kV12 dc12 pm12 ct12 : Value} {cd12 : Value}
    {f13 : Addr} {od13 an13 : Option Addr} {sl13 : Array (Option Value)} {oc13 kV13 dc13 pm13 ct13 : Value} {cd13 : Value}
    {f14 : Addr} {od14 an14 : Option Addr} {sl14 : Array (Option Value)} {oc14 kV14 dc14 pm14 ct14 : Value} {cd14 : Value}
    {f15 : Addr} {od15 an15 : Option Addr} {sl15 : Array (Option Value)} {oc15 kV15 dc15 pm15 ct15 : Value} {cd15 : Value}
    {f21 : Addr} {od21 an21 : Option Addr} {sl21 : Array (Option Value)} {oc21 kV21 dc21 pm21 ct21 : Value} {cd21 : Value}
    {f22 : Addr} {od22 an22 : Option Addr} {sl22 : Array (Option Value)} {oc22 kV22 dc22 pm22 ct22 : Value} {cd22 : Value}
    {f23 : Addr} {od23 an23 : Option Addr} {sl23 : Array (Option Value)} {oc23 kV23 dc23 pm23 ct23 : Value} {cd23 : Value}
    {f24 : Addr} {od24 an24 : Option Addr} {sl24 : Array (Option Value)} {oc24 kV24 dc24 pm24 ct24 : Value} {cd24 : Value}
    {f25 : Addr} {od25 an25 : Option Addr} {sl25 : Array (Option Value)} {oc25 kV25 dc25 pm25 ct25 : Value} {cd25 : Value}
    {f26 : Addr} {od26 an26 : Option Addr} {sl26 : Array (Option Value)} {oc26 kV26 dc26 pm26 ct26 : Value} {cd26 : Value}
    {f29 : Addr} {od29 an29 : Option Addr} {sl29 : Array (Option Value)} {oc29 kV29 dc29 pm29 ct29 : Value} {cd29 : Value}
    {f31 : Addr} {od31 an31 : Option Addr} {sl31 : Array (Option Value)} {oc31 kV31 dc31 pm31 ct31 : Value} {cd31 : Value}
    {f32 : Addr} {od32 an32 : Option Addr} {sl32 : Array (Option Value)} {oc32 kV32 dc32 pm32 ct32 : Value} {cd32 : Value}
    {f33 : Addr} {od33 an33 : Option Addr} {sl33 : Array (Option Value)} {oc33 kV33 dc33 pm33 ct33 : Value} {cd33 : Value}
    {f34 : Addr} {od34 an34 : Option Addr} {sl34 : Array (Option Value)} {oc34 kV34 dc34 pm34 ct34 : Value} {cd34 : Value}
    {f35 : Addr} {od35 an35 : Option Addr} {sl35 : Array (Option Value)} {oc35 kV35 dc35 pm35 ct35 : Value} {cd35 : Value}
    {f36 : Addr} {od36 an36 : Option Addr} {sl36 : Array (Option Value)} {oc36 kV36 dc36 pm36 ct36 : Value} {cd36 : Value}
    {f39 : Addr} {od39 an39 : Option Addr} {sl39 : Array (Option Value)} {oc39 kV39 dc39 pm39 ct39 : Value} {cd39 : Value}
    {f40 : Addr} {od40 an40 : Option Addr} {sl40 : Array (Option Value)} {oc40 kV40 dc40 pm40 ct40 : Value} {cd40 : Value}
    {f41 : Addr} {od41 an41 : Option Addr} {sl41 : Array (Option Value)} {oc41 kV41 dc41 pm41 ct41 : Value} {cd41 : Value}
    {f42 : Addr} {od42 an42 : Option Addr} {sl42 : Array (Option Value)} {oc42 kV42 dc42 pm42 ct42 : Value} {cd42 : Value}
    {f43 : Addr} {od43 an43 : Option Addr} {sl43 : Array (Option Value)} {oc43 kV43 dc43 pm43 ct43 : Value} {cd43 : Value}
    {f44 : Addr} {od44 an44 : Option Addr} {sl44 : Array (Option Value)} {oc44 kV44 dc44 pm44 ct44 : Value} {cd44 : Value}
    {f45 : Addr} {od45 an45 : Option Addr} {sl45 : Array (Option Value)} {oc45 kV45 dc45 pm45 ct45 : Value} {cd45 : Value}
    {f46 : Addr} {od46 an46 : Option Addr} {sl46 : Array (Option Value)} {oc46 kV46 dc46 pm46 ct46 : Value} {cd46 : Value}
    {f47 : Addr} {od47 an47 : Option Addr} {sl47 : Array (Option Value)} {oc47 kV47 dc47 pm47 ct47 : Value} {cd47 : Value}
    {f48 : Addr} {od48 an48 : Option Addr} {sl48 : Array (Option Value)} {oc48 kV48 dc48 pm48 ct48 : Value} {cd48 : Value}
    {f49 : Addr} {od49 an49 : Option Addr} {sl49 : Array (Option Value)} {oc49 kV49 dc49 pm49 ct49 : Value} {cd49 : Value}
    {f50 : Addr} {od50 an50 : Option Addr} {sl50 : Array (Option Value)} {oc50 kV50 dc50 pm50 ct50 : Value} {cd50 : Value}
    {f51 : Addr} {od51 an51 : Option Addr} {sl51 : Array (Option Value)} {oc51 kV51 dc51 pm51 ct51 : Value} {cd51 : Value}
    {f52 : Addr} {od52 an52 : Option Addr} {sl52 : Array (Option Value)} {oc52 kV52 dc52 pm52 ct52 : Value} {cd52 : Value}
    {f54 : Addr} {od54 an54 : Option Addr} {sl54 : Array (Option Value)} {oc54 kV54 dc54 pm54 ct54 : Value} {cd54 : Value}
    {f55 : Addr} {od55 an55 : Option Addr} {sl55 : Array (Option Value)} {oc55 kV55 dc55 pm55 ct55 : Value} {cd55 : Value}
    {f56 : Addr} {od56 an56 : Option Addr} {sl56 : Array (Option Value)} {oc56 kV56 dc56 pm56 ct56 : Value} {cd56 : Value}
    {f57 : Addr} {od57 an57 : Option Addr} {sl57 : Array (Option Value)} {oc57 kV57 dc57 pm57 ct57 : Value} {cd57 : Value}
    {f58 : Addr} {od58 an58 : Option Addr} {sl58 : Array (Option Value)} {oc58 kV58 dc58 pm58 ct58 : Value} {cd58 : Value}
    {f59 : Addr} {od59 an59 : Option Addr} {sl59 : Array (Option Value)} {oc59 kV59 dc59 pm59 ct59 : Value} {cd59 : Value}
    {f60 : Addr} {od60 an60 : Option Addr} {sl60 : Array (Option Value)} {oc60 kV60 dc60 pm60 ct60 : Value} {cd60 : Value}
    {f61 : Addr} {od61 an61 : Option Addr} {sl61 : Array (Option Value)} {oc61 kV61 dc61 pm61 ct61 : Value} {cd61 : Value}
    {f62 : Addr} {od62 an62 : Option Addr} {sl62 : Array (Option Value)} {oc62 kV62 dc62 pm62 ct62 : Value} {cd62 : Value}
    {f63 : Addr} {od63 an63 : Option Addr} {sl63 : Array (Option Value)} {oc63 kV63 dc63 pm63 ct63 : Value} {cd63 : Value}
    {f64 : Addr} {od64 an64 : Option Addr} {sl64 : Array (Option Value)} {oc64 kV64 dc64 pm64 ct64 : Value} {cd64 : Value}
    {f65 : Addr} {od65 an65 : Option Addr} {sl65 : Array (Option Value)} {oc65 kV65 dc65 pm65 ct65 : Value} {cd65 : Value}
    {f66 : Addr} {od66 an66 : Option Addr} {sl66 : Array (Option Value)} {oc66 kV66 dc66 pm66 ct66 : Value} {cd66 : Value}
    {f67 : Addr} {od67 an67 : Option Addr} {sl67 : Array (Option Value)} {oc67 kV67 dc67 pm67 ct67 : Value} {cd67 : Value}
    {f68 : Addr} {od68 an68 : Option Addr} {sl68 : Array (Option Value)} {oc68 kV68 dc68 pm68 ct68 : Value} {cd68 : Value}
    {f69 : Addr} {od69 an69 : Option Addr} {sl69 : Array (Option Value)} {oc69 kV69 dc69 pm69 ct69 : Value} {cd69 : Value}
    {f70 : Addr} {od70 an70 : Option Addr} {sl70 : Array (Option Value)} {oc70 kV70 dc70 pm70 ct70 : Value} {cd70 : Value}
    {f71 : Addr} {od71 an71 : Option Addr} {sl71 : Array (Option Value)} {oc71 kV71 dc71 pm71 ct71 : Value} {cd71 : Value}
    {f72 : Addr} {od72 an72 : Option Addr} {sl72 : Array (Option Value)} {oc72 kV72 dc72 pm72 ct72 : Value} {cd72 : Value}
    {f73 : Addr} {od73 an73 : Option Addr} {sl73 : Array (Option Value)} {oc73 kV73 dc73 pm73 ct73 : Value} {cc73 T73 : Addr} {ec73 : Value} {ed73 : Option Addr} {ev73 : Array Value} {es73 : Array (Option Value)}
    {f74 : Addr} {od74 an74 : Option Addr} {sl74 : Array (Option Value)} {oc74 kV74 dc74 pm74 ct74 : Value} {cd74 : Value}
    {C5 N5 : Addr} {nm5 q5 : Str} {bs5 sub5 : List Value} {sn5 : List Str} {ab5 : Bool} {col5 : Option Bool} {dd5 : Option Addr} {m05 m15 m25 m35 m55 : Option Value}
    {C6 N6 : Addr} {nm6 q6 : Str} {bs6 sub6 : List Value} {sn6 : List Str} {ab6 : Bool} {col6 : Option Bool} {dd6 : Option Addr} {m06 m16 m26 m36 m56 : Option Value}
    {g6 : Addr} {god6 gan6 : Option Addr} {gsl6 : Array (Option Value)} {goc6 gkV6 gdc6 gpm6 gcd6 gct6 : Value}
    {C7 N7 : Addr} {nm7 q7 : Str} {bs7 sub7 : List Value} {sn7 : List Str} {ab7 : Bool} {col7 : Option Bool} {dd7 : Option Addr} {m07 m17 m27 m37 m57 : Option Value}
    {g7 : Addr} {god7 gan7 : Option Addr} {gsl7 : Array (Option Value)} {goc7 gkV7 gdc7 gpm7 gcd7 gct7 : Value}
    {C8 N8 : Addr} {nm8 q8 : Str} {bs8 sub8 : List Value} {sn8 : List Str} {ab8 : Bool} {col8 : Option Bool} {dd8 : Option Addr} {m08 m18 m28 m38 m58 : Option Value}
    {g8 : Addr} {god8 gan8 : Option Addr} {gsl8 : Array (Option Value)} {goc8 gkV8 gdc8 gpm8 gcd8 gct8 : Value}
    {CN : Addr}
    {f100 : Addr} {od100 an100 : Option Addr} {sl100 : Array (Option Value)} {oc100 kV100 dc100 pm100 ct100 cd100 : Value}
    {f101 : Addr} {od101 an101 : Option Addr} {sl101 : Array (Option Value)} {oc101 kV101 dc101 pm101 ct101 cd101 : Value}
    {pp101 : Addr} {pr101 : List Value}
    {f102 : Addr} {od102 an102 : Option Addr} {sl102 : Array (Option Value)} {oc102 kV102 dc102 pm102 ct102 cd102 : Value}
    {pp102 : Addr} {pr102 : List Value}
    {f103 : Addr} {od103 an103 : Option Addr} {sl103 : Array (Option Value)} {oc103 kV103 dc103 pm103 ct103 cd103 : Value}
    {f104 : Addr} {od104 an104 : Option Addr} {sl104 : Array (Option Value)} {oc104 kV104 dc104 pm104 ct104 cd104 : Value}
    {f105 : Addr} {od105 an105 : Option Addr} {sl105 : Array (Option Value)} {oc105 kV105 dc105 pm105 ct105 cd105 : Value}
    {f106 : Addr} {od106 an106 : Option Addr} {sl106 : Array (Option Value)} {oc106 kV106 dc106 pm106 ct106 cd106 : Value}
    {f107 : Addr} {od107 an107 : Option Addr} {sl107 : Array (Option Value)} {oc107 kV107 dc107 pm107 ct107 cd107 : Value}
    {tLONGEST_NAME : Tok}
    {tFEWEST_ROUTERS : Tok}
    {tMOST_ROUTERS : Tok}
    {tMOST_LINKS : Tok}
    {tLEAST_ROW : Tok}
    {tMOST_ROWS : Tok}
    (a1 : PySem.W.nsIn K mainGlobals "_wall" = some (some (.ref f1)))
    (l1 : K.lookup f1 = some ⟨oc1, od1, .func (PySem.W.fnOf "_wall" "_wall" (defArgs s__wall) (defBody s__wall) (defScope s__wall) .none kV1 dc1 pm1 an1 cd1 ct1), sl1⟩)
    (c1 : PySem.W.codeIn K cd1 "_wall" = true)
    (k1 : PySem.W.keepIn K (.ref f1) = true)
    (a11 : PySem.W.nsIn K mainGlobals "is_integer" = some (some (.ref f11)))
    (l11 : K.lookup f11 = some ⟨oc11, od11, .func (PySem.W.fnOf "is_integer" "is_integer" (defArgs s_is_integer) (defBody s_is_integer) (defScope s_is_integer) .none kV11 dc11 pm11 an11 cd11 ct11), sl11⟩)
    (c11 : PySem.W.codeIn K cd11 "is_integer" = true)
    (k11 : PySem.W.keepIn K (.ref f11) = true)
    (a12 : PySem.W.nsIn K mainGlobals "is_integer_from" = some (some (.ref f12)))
    (l12 : K.lookup f12 = some ⟨oc12, od12, .func (PySem.W.fnOf "is_integer_from" "is_integer_from" (defArgs s_is_integer_from) (defBody s_is_integer_from) (defScope s_is_integer_from) .none kV12 dc12 pm12 an12 cd12 ct12), sl12⟩)
    (c12 : PySem.W.codeIn K cd12 "is_integer_from" = true)
    (k12 : PySem.W.keepIn K (.ref f12) = true)
    (a13 : PySem.W.nsIn K mainGlobals "is_tuple_of" = some (some (.ref f13)))
    (l13 : K.lookup f13 = some ⟨oc13, od13, .func (PySem.W.fnOf "is_tuple_of" "is_tuple_of" (defArgs s_is_tuple_of) (defBody s_is_tuple_of) (defScope s_is_tuple_of) .none kV13 dc13 pm13 an13 cd13 ct13), sl13⟩)
    (c13 : PySem.W.codeIn K cd13 "is_tuple_of" = true)
    (k13 : PySem.W.keepIn K (.ref f13) = true)
    (a14 : PySem.W.nsIn K mainGlobals "is_name" = some (some (.ref f14)))
    (l14 : K.lookup f14 = some ⟨oc14, od14, .func (PySem.W.fnOf "is_name" "is_name" (defArgs s_is_name) (defBody s_is_name) (defScope s_is_name) .none kV14 dc14 pm14 an14 cd14 ct14), sl14⟩)
    (c14 : PySem.W.codeIn K cd14 "is_name" = true)
    (k14 : PySem.W.keepIn K (.ref f14) = true)
    (a15 : PySem.W.nsIn K mainGlobals "is_rising" = some (some (.ref f15)))
    (l15 : K.lookup f15 = some ⟨oc15, od15, .func (PySem.W.fnOf "is_rising" "is_rising" (defArgs s_is_rising) (defBody s_is_rising) (defScope s_is_rising) .none kV15 dc15 pm15 an15 cd15 ct15), sl15⟩)
    (c15 : PySem.W.codeIn K cd15 "is_rising" = true)
    (k15 : PySem.W.keepIn K (.ref f15) = true)
    (a21 : PySem.W.nsIn K mainGlobals "need_routers" = some (some (.ref f21)))
    (l21 : K.lookup f21 = some ⟨oc21, od21, .func (PySem.W.fnOf "need_routers" "need_routers" (defArgs s_need_routers) (defBody s_need_routers) (defScope s_need_routers) .none kV21 dc21 pm21 an21 cd21 ct21), sl21⟩)
    (c21 : PySem.W.codeIn K cd21 "need_routers" = true)
    (k21 : PySem.W.keepIn K (.ref f21) = true)
    (a22 : PySem.W.nsIn K mainGlobals "need_router" = some (some (.ref f22)))
    (l22 : K.lookup f22 = some ⟨oc22, od22, .func (PySem.W.fnOf "need_router" "need_router" (defArgs s_need_router) (defBody s_need_router) (defScope s_need_router) .none kV22 dc22 pm22 an22 cd22 ct22), sl22⟩)
    (c22 : PySem.W.codeIn K cd22 "need_router" = true)
    (k22 : PySem.W.keepIn K (.ref f22) = true)
    (a23 : PySem.W.nsIn K mainGlobals "is_length" = some (some (.ref f23)))
    (l23 : K.lookup f23 = some ⟨oc23, od23, .func (PySem.W.fnOf "is_length" "is_length" (defArgs s_is_length) (defBody s_is_length) (defScope s_is_length) .none kV23 dc23 pm23 an23 cd23 ct23), sl23⟩)
    (c23 : PySem.W.codeIn K cd23 "is_length" = true)
    (k23 : PySem.W.keepIn K (.ref f23) = true)
    (a24 : PySem.W.nsIn K mainGlobals "are_routers" = some (some (.ref f24)))
    (l24 : K.lookup f24 = some ⟨oc24, od24, .func (PySem.W.fnOf "are_routers" "are_routers" (defArgs s_are_routers) (defBody s_are_routers) (defScope s_are_routers) .none kV24 dc24 pm24 an24 cd24 ct24), sl24⟩)
    (c24 : PySem.W.codeIn K cd24 "are_routers" = true)
    (k24 : PySem.W.keepIn K (.ref f24) = true)
    (a25 : PySem.W.nsIn K mainGlobals "are_links" = some (some (.ref f25)))
    (l25 : K.lookup f25 = some ⟨oc25, od25, .func (PySem.W.fnOf "are_links" "are_links" (defArgs s_are_links) (defBody s_are_links) (defScope s_are_links) .none kV25 dc25 pm25 an25 cd25 ct25), sl25⟩)
    (c25 : PySem.W.codeIn K cd25 "are_links" = true)
    (k25 : PySem.W.keepIn K (.ref f25) = true)
    (a26 : PySem.W.nsIn K mainGlobals "is_link" = some (some (.ref f26)))
    (l26 : K.lookup f26 = some ⟨oc26, od26, .func (PySem.W.fnOf "is_link" "is_link" (defArgs s_is_link) (defBody s_is_link) (defScope s_is_link) .none kV26 dc26 pm26 an26 cd26 ct26), sl26⟩)
    (c26 : PySem.W.codeIn K cd26 "is_link" = true)
    (k26 : PySem.W.keepIn K (.ref f26) = true)
    (a29 : PySem.W.nsIn K mainGlobals "is_row" = some (some (.ref f29)))
    (l29 : K.lookup f29 = some ⟨oc29, od29, .func (PySem.W.fnOf "is_row" "is_row" (defArgs s_is_row) (defBody s_is_row) (defScope s_is_row) .none kV29 dc29 pm29 an29 cd29 ct29), sl29⟩)
    (c29 : PySem.W.codeIn K cd29 "is_row" = true)
    (k29 : PySem.W.keepIn K (.ref f29) = true)
    (a31 : PySem.W.nsIn K mainGlobals "distance" = some (some (.ref f31)))
    (l31 : K.lookup f31 = some ⟨oc31, od31, .func (PySem.W.fnOf "distance" "distance" (defArgs s_distance) (defBody s_distance) (defScope s_distance) .none kV31 dc31 pm31 an31 cd31 ct31), sl31⟩)
    (c31 : PySem.W.codeIn K cd31 "distance" = true)
    (k31 : PySem.W.keepIn K (.ref f31) = true)
    (a32 : PySem.W.nsIn K mainGlobals "nexts" = some (some (.ref f32)))
    (l32 : K.lookup f32 = some ⟨oc32, od32, .func (PySem.W.fnOf "nexts" "nexts" (defArgs s_nexts) (defBody s_nexts) (defScope s_nexts) .none kV32 dc32 pm32 an32 cd32 ct32), sl32⟩)
    (c32 : PySem.W.codeIn K cd32 "nexts" = true)
    (k32 : PySem.W.keepIn K (.ref f32) = true)
    (a33 : PySem.W.nsIn K mainGlobals "next_table" = some (some (.ref f33)))
    (l33 : K.lookup f33 = some ⟨oc33, od33, .func (PySem.W.fnOf "next_table" "next_table" (defArgs s_next_table) (defBody s_next_table) (defScope s_next_table) .none kV33 dc33 pm33 an33 cd33 ct33), sl33⟩)
    (c33 : PySem.W.codeIn K cd33 "next_table" = true)
    (k33 : PySem.W.keepIn K (.ref f33) = true)
    (a34 : PySem.W.nsIn K mainGlobals "distances_to" = some (some (.ref f34)))
    (l34 : K.lookup f34 = some ⟨oc34, od34, .func (PySem.W.fnOf "distances_to" "distances_to" (defArgs s_distances_to) (defBody s_distances_to) (defScope s_distances_to) .none kV34 dc34 pm34 an34 cd34 ct34), sl34⟩)
    (c34 : PySem.W.codeIn K cd34 "distances_to" = true)
    (k34 : PySem.W.keepIn K (.ref f34) = true)
    (a35 : PySem.W.nsIn K mainGlobals "shorten" = some (some (.ref f35)))
    (l35 : K.lookup f35 = some ⟨oc35, od35, .func (PySem.W.fnOf "shorten" "shorten" (defArgs s_shorten) (defBody s_shorten) (defScope s_shorten) .none kV35 dc35 pm35 an35 cd35 ct35), sl35⟩)
    (c35 : PySem.W.codeIn K cd35 "shorten" = true)
    (k35 : PySem.W.keepIn K (.ref f35) = true)
    (a36 : PySem.W.nsIn K mainGlobals "begins" = some (some (.ref f36)))
    (l36 : K.lookup f36 = some ⟨oc36, od36, .func (PySem.W.fnOf "begins" "begins" (defArgs s_begins) (defBody s_begins) (defScope s_begins) .none kV36 dc36 pm36 an36 cd36 ct36), sl36⟩)
    (c36 : PySem.W.codeIn K cd36 "begins" = true)
    (k36 : PySem.W.keepIn K (.ref f36) = true)
    (a39 : PySem.W.nsIn K mainGlobals "wanted" = some (some (.ref f39)))
    (l39 : K.lookup f39 = some ⟨oc39, od39, .func (PySem.W.fnOf "wanted" "wanted" (defArgs s_wanted) (defBody s_wanted) (defScope s_wanted) .none kV39 dc39 pm39 an39 cd39 ct39), sl39⟩)
    (c39 : PySem.W.codeIn K cd39 "wanted" = true)
    (k39 : PySem.W.keepIn K (.ref f39) = true)
    (a40 : PySem.W.nsIn K mainGlobals "shows_wanted" = some (some (.ref f40)))
    (l40 : K.lookup f40 = some ⟨oc40, od40, .func (PySem.W.fnOf "shows_wanted" "shows_wanted" (defArgs s_shows_wanted) (defBody s_shows_wanted) (defScope s_shows_wanted) .none kV40 dc40 pm40 an40 cd40 ct40), sl40⟩)
    (c40 : PySem.W.codeIn K cd40 "shows_wanted" = true)
    (k40 : PySem.W.keepIn K (.ref f40) = true)
    (a41 : PySem.W.nsIn K mainGlobals "need_rows" = some (some (.ref f41)))
    (l41 : K.lookup f41 = some ⟨oc41, od41, .func (PySem.W.fnOf "need_rows" "need_rows" (defArgs s_need_rows) (defBody s_need_rows) (defScope s_need_rows) .none kV41 dc41 pm41 an41 cd41 ct41), sl41⟩)
    (c41 : PySem.W.codeIn K cd41 "need_rows" = true)
    (k41 : PySem.W.keepIn K (.ref f41) = true)
    (a42 : PySem.W.nsIn K mainGlobals "is_linked" = some (some (.ref f42)))
    (l42 : K.lookup f42 = some ⟨oc42, od42, .func (PySem.W.fnOf "is_linked" "is_linked" (defArgs s_is_linked) (defBody s_is_linked) (defScope s_is_linked) .none kV42 dc42 pm42 an42 cd42 ct42), sl42⟩)
    (c42 : PySem.W.codeIn K cd42 "is_linked" = true)
    (k42 : PySem.W.keepIn K (.ref f42) = true)
    (a43 : PySem.W.nsIn K mainGlobals "arcs_of" = some (some (.ref f43)))
    (l43 : K.lookup f43 = some ⟨oc43, od43, .func (PySem.W.fnOf "arcs_of" "arcs_of" (defArgs s_arcs_of) (defBody s_arcs_of) (defScope s_arcs_of) .none kV43 dc43 pm43 an43 cd43 ct43), sl43⟩)
    (c43 : PySem.W.codeIn K cd43 "arcs_of" = true)
    (k43 : PySem.W.keepIn K (.ref f43) = true)
    (a44 : PySem.W.nsIn K mainGlobals "with_lengths" = some (some (.ref f44)))
    (l44 : K.lookup f44 = some ⟨oc44, od44, .func (PySem.W.fnOf "with_lengths" "with_lengths" (defArgs s_with_lengths) (defBody s_with_lengths) (defScope s_with_lengths) .none kV44 dc44 pm44 an44 cd44 ct44), sl44⟩)
    (c44 : PySem.W.codeIn K cd44 "with_lengths" = true)
    (k44 : PySem.W.keepIn K (.ref f44) = true)
    (a45 : PySem.W.nsIn K mainGlobals "divisor" = some (some (.ref f45)))
    (l45 : K.lookup f45 = some ⟨oc45, od45, .func (PySem.W.fnOf "divisor" "divisor" (defArgs s_divisor) (defBody s_divisor) (defScope s_divisor) .none kV45 dc45 pm45 an45 cd45 ct45), sl45⟩)
    (c45 : PySem.W.codeIn K cd45 "divisor" = true)
    (k45 : PySem.W.keepIn K (.ref f45) = true)
    (a46 : PySem.W.nsIn K mainGlobals "shorter" = some (some (.ref f46)))
    (l46 : K.lookup f46 = some ⟨oc46, od46, .func (PySem.W.fnOf "shorter" "shorter" (defArgs s_shorter) (defBody s_shorter) (defScope s_shorter) .none kV46 dc46 pm46 an46 cd46 ct46), sl46⟩)
    (c46 : PySem.W.codeIn K cd46 "shorter" = true)
    (k46 : PySem.W.keepIn K (.ref f46) = true)
    (a47 : PySem.W.nsIn K mainGlobals "length_of" = some (some (.ref f47)))
    (l47 : K.lookup f47 = some ⟨oc47, od47, .func (PySem.W.fnOf "length_of" "length_of" (defArgs s_length_of) (defBody s_length_of) (defScope s_length_of) .none kV47 dc47 pm47 an47 cd47 ct47), sl47⟩)
    (c47 : PySem.W.codeIn K cd47 "length_of" = true)
    (k47 : PySem.W.keepIn K (.ref f47) = true)
    (a48 : PySem.W.nsIn K mainGlobals "bag_of" = some (some (.ref f48)))
    (l48 : K.lookup f48 = some ⟨oc48, od48, .func (PySem.W.fnOf "bag_of" "bag_of" (defArgs s_bag_of) (defBody s_bag_of) (defScope s_bag_of) .none kV48 dc48 pm48 an48 cd48 ct48), sl48⟩)
    (c48 : PySem.W.codeIn K cd48 "bag_of" = true)
    (k48 : PySem.W.keepIn K (.ref f48) = true)
    (a49 : PySem.W.nsIn K mainGlobals "are_lengths" = some (some (.ref f49)))
    (l49 : K.lookup f49 = some ⟨oc49, od49, .func (PySem.W.fnOf "are_lengths" "are_lengths" (defArgs s_are_lengths) (defBody s_are_lengths) (defScope s_are_lengths) .none kV49 dc49 pm49 an49 cd49 ct49), sl49⟩)
    (c49 : PySem.W.codeIn K cd49 "are_lengths" = true)
    (k49 : PySem.W.keepIn K (.ref f49) = true)
    (a50 : PySem.W.nsIn K mainGlobals "are_swaps" = some (some (.ref f50)))
    (l50 : K.lookup f50 = some ⟨oc50, od50, .func (PySem.W.fnOf "are_swaps" "are_swaps" (defArgs s_are_swaps) (defBody s_are_swaps) (defScope s_are_swaps) .none kV50 dc50 pm50 an50 cd50 ct50), sl50⟩)
    (c50 : PySem.W.codeIn K cd50 "are_swaps" = true)
    (k50 : PySem.W.keepIn K (.ref f50) = true)
    (a51 : PySem.W.nsIn K mainGlobals "is_swap" = some (some (.ref f51)))
    (l51 : K.lookup f51 = some ⟨oc51, od51, .func (PySem.W.fnOf "is_swap" "is_swap" (defArgs s_is_swap) (defBody s_is_swap) (defScope s_is_swap) .none kV51 dc51 pm51 an51 cd51 ct51), sl51⟩)
    (c51 : PySem.W.codeIn K cd51 "is_swap" = true)
    (k51 : PySem.W.keepIn K (.ref f51) = true)
    (a52 : PySem.W.nsIn K mainGlobals "saves" = some (some (.ref f52)))
    (l52 : K.lookup f52 = some ⟨oc52, od52, .func (PySem.W.fnOf "saves" "saves" (defArgs s_saves) (defBody s_saves) (defScope s_saves) .none kV52 dc52 pm52 an52 cd52 ct52), sl52⟩)
    (c52 : PySem.W.codeIn K cd52 "saves" = true)
    (k52 : PySem.W.keepIn K (.ref f52) = true)
    (a54 : PySem.W.nsIn K mainGlobals "_law_pot" = some (some (.ref f54)))
    (l54 : K.lookup f54 = some ⟨oc54, od54, .func (PySem.W.fnOf "_law_pot" "_law_pot" (defArgs s_l_pot) (defBody s_l_pot) (defScope s_l_pot) .none kV54 dc54 pm54 an54 cd54 ct54), sl54⟩)
    (c54 : PySem.W.codeIn K cd54 "_law_pot" = true)
    (k54 : PySem.W.keepIn K (.ref f54) = true)
    (a55 : PySem.W.nsIn K mainGlobals "_law_take" = some (some (.ref f55)))
    (l55 : K.lookup f55 = some ⟨oc55, od55, .func (PySem.W.fnOf "_law_take" "_law_take" (defArgs s_l_take) (defBody s_l_take) (defScope s_l_take) .none kV55 dc55 pm55 an55 cd55 ct55), sl55⟩)
    (c55 : PySem.W.codeIn K cd55 "_law_take" = true)
    (k55 : PySem.W.keepIn K (.ref f55) = true)
    (a56 : PySem.W.nsIn K mainGlobals "_law_pots" = some (some (.ref f56)))
    (l56 : K.lookup f56 = some ⟨oc56, od56, .func (PySem.W.fnOf "_law_pots" "_law_pots" (defArgs s_l_pots) (defBody s_l_pots) (defScope s_l_pots) .none kV56 dc56 pm56 an56 cd56 ct56), sl56⟩)
    (c56 : PySem.W.codeIn K cd56 "_law_pots" = true)
    (k56 : PySem.W.keepIn K (.ref f56) = true)
    (a57 : PySem.W.nsIn K mainGlobals "_law_of" = some (some (.ref f57)))
    (l57 : K.lookup f57 = some ⟨oc57, od57, .func (PySem.W.fnOf "_law_of" "_law_of" (defArgs s_l_of) (defBody s_l_of) (defScope s_l_of) .none kV57 dc57 pm57 an57 cd57 ct57), sl57⟩)
    (c57 : PySem.W.codeIn K cd57 "_law_of" = true)
    (k57 : PySem.W.keepIn K (.ref f57) = true)
    (a58 : PySem.W.nsIn K mainGlobals "_law_turned" = some (some (.ref f58)))
    (l58 : K.lookup f58 = some ⟨oc58, od58, .func (PySem.W.fnOf "_law_turned" "_law_turned" (defArgs s_l_turned) (defBody s_l_turned) (defScope s_l_turned) .none kV58 dc58 pm58 an58 cd58 ct58), sl58⟩)
    (c58 : PySem.W.codeIn K cd58 "_law_turned" = true)
    (k58 : PySem.W.keepIn K (.ref f58) = true)
    (a59 : PySem.W.nsIn K mainGlobals "_law_names" = some (some (.ref f59)))
    (l59 : K.lookup f59 = some ⟨oc59, od59, .func (PySem.W.fnOf "_law_names" "_law_names" (defArgs s_l_names) (defBody s_l_names) (defScope s_l_names) .none kV59 dc59 pm59 an59 cd59 ct59), sl59⟩)
    (c59 : PySem.W.codeIn K cd59 "_law_names" = true)
    (k59 : PySem.W.keepIn K (.ref f59) = true)
    (a60 : PySem.W.nsIn K mainGlobals "_law_far" = some (some (.ref f60)))
    (l60 : K.lookup f60 = some ⟨oc60, od60, .func (PySem.W.fnOf "_law_far" "_law_far" (defArgs s_l_far) (defBody s_l_far) (defScope s_l_far) .none kV60 dc60 pm60 an60 cd60 ct60), sl60⟩)
    (c60 : PySem.W.codeIn K cd60 "_law_far" = true)
    (k60 : PySem.W.keepIn K (.ref f60) = true)
    (a61 : PySem.W.nsIn K mainGlobals "_law_pairs" = some (some (.ref f61)))
    (l61 : K.lookup f61 = some ⟨oc61, od61, .func (PySem.W.fnOf "_law_pairs" "_law_pairs" (defArgs s_l_pairs) (defBody s_l_pairs) (defScope s_l_pairs) .none kV61 dc61 pm61 an61 cd61 ct61), sl61⟩)
    (c61 : PySem.W.codeIn K cd61 "_law_pairs" = true)
    (k61 : PySem.W.keepIn K (.ref f61) = true)
    (a62 : PySem.W.nsIn K mainGlobals "_law_world" = some (some (.ref f62)))
    (l62 : K.lookup f62 = some ⟨oc62, od62, .func (PySem.W.fnOf "_law_world" "_law_world" (defArgs s_l_world) (defBody s_l_world) (defScope s_l_world) .none kV62 dc62 pm62 an62 cd62 ct62), sl62⟩)
    (c62 : PySem.W.codeIn K cd62 "_law_world" = true)
    (k62 : PySem.W.keepIn K (.ref f62) = true)
    (a63 : PySem.W.nsIn K mainGlobals "_law_made" = some (some (.ref f63)))
    (l63 : K.lookup f63 = some ⟨oc63, od63, .func (PySem.W.fnOf "_law_made" "_law_made" (defArgs s_l_made) (defBody s_l_made) (defScope s_l_made) .none kV63 dc63 pm63 an63 cd63 ct63), sl63⟩)
    (c63 : PySem.W.codeIn K cd63 "_law_made" = true)
    (k63 : PySem.W.keepIn K (.ref f63) = true)
    (a64 : PySem.W.nsIn K mainGlobals "_law_lengths" = some (some (.ref f64)))
    (l64 : K.lookup f64 = some ⟨oc64, od64, .func (PySem.W.fnOf "_law_lengths" "_law_lengths" (defArgs s_l_lengths) (defBody s_l_lengths) (defScope s_l_lengths) .none kV64 dc64 pm64 an64 cd64 ct64), sl64⟩)
    (c64 : PySem.W.codeIn K cd64 "_law_lengths" = true)
    (k64 : PySem.W.keepIn K (.ref f64) = true)
    (a65 : PySem.W.nsIn K mainGlobals "_law_odd" = some (some (.ref f65)))
    (l65 : K.lookup f65 = some ⟨oc65, od65, .func (PySem.W.fnOf "_law_odd" "_law_odd" (defArgs s_l_odd) (defBody s_l_odd) (defScope s_l_odd) .none kV65 dc65 pm65 an65 cd65 ct65), sl65⟩)
    (c65 : PySem.W.codeIn K cd65 "_law_odd" = true)
    (k65 : PySem.W.keepIn K (.ref f65) = true)
    (a66 : PySem.W.nsIn K mainGlobals "_law_bent_part" = some (some (.ref f66)))
    (l66 : K.lookup f66 = some ⟨oc66, od66, .func (PySem.W.fnOf "_law_bent_part" "_law_bent_part" (defArgs s_l_bent_part) (defBody s_l_bent_part) (defScope s_l_bent_part) .none kV66 dc66 pm66 an66 cd66 ct66), sl66⟩)
    (c66 : PySem.W.codeIn K cd66 "_law_bent_part" = true)
    (k66 : PySem.W.keepIn K (.ref f66) = true)
    (a67 : PySem.W.nsIn K mainGlobals "_law_bent" = some (some (.ref f67)))
    (l67 : K.lookup f67 = some ⟨oc67, od67, .func (PySem.W.fnOf "_law_bent" "_law_bent" (defArgs s_l_bent) (defBody s_l_bent) (defScope s_l_bent) .none kV67 dc67 pm67 an67 cd67 ct67), sl67⟩)
    (c67 : PySem.W.codeIn K cd67 "_law_bent" = true)
    (k67 : PySem.W.keepIn K (.ref f67) = true)
    (a68 : PySem.W.nsIn K mainGlobals "_law_caught" = some (some (.ref f68)))
    (l68 : K.lookup f68 = some ⟨oc68, od68, .func (PySem.W.fnOf "_law_caught" "_law_caught" (defArgs s_l_caught) (defBody s_l_caught) (defScope s_l_caught) .none kV68 dc68 pm68 an68 cd68 ct68), sl68⟩)
    (c68 : PySem.W.codeIn K cd68 "_law_caught" = true)
    (k68 : PySem.W.keepIn K (.ref f68) = true)
    (a69 : PySem.W.nsIn K mainGlobals "_law_walks" = some (some (.ref f69)))
    (l69 : K.lookup f69 = some ⟨oc69, od69, .func (PySem.W.fnOf "_law_walks" "_law_walks" (defArgs s_l_walks) (defBody s_l_walks) (defScope s_l_walks) .none kV69 dc69 pm69 an69 cd69 ct69), sl69⟩)
    (c69 : PySem.W.codeIn K cd69 "_law_walks" = true)
    (k69 : PySem.W.keepIn K (.ref f69) = true)
    (a70 : PySem.W.nsIn K mainGlobals "_law_is_row" = some (some (.ref f70)))
    (l70 : K.lookup f70 = some ⟨oc70, od70, .func (PySem.W.fnOf "_law_is_row" "_law_is_row" (defArgs s_l_is_row) (defBody s_l_is_row) (defScope s_l_is_row) .none kV70 dc70 pm70 an70 cd70 ct70), sl70⟩)
    (c70 : PySem.W.codeIn K cd70 "_law_is_row" = true)
    (k70 : PySem.W.keepIn K (.ref f70) = true)
    (a71 : PySem.W.nsIn K mainGlobals "_law_are_rows" = some (some (.ref f71)))
    (l71 : K.lookup f71 = some ⟨oc71, od71, .func (PySem.W.fnOf "_law_are_rows" "_law_are_rows" (defArgs s_l_are_rows) (defBody s_l_are_rows) (defScope s_l_are_rows) .none kV71 dc71 pm71 an71 cd71 ct71), sl71⟩)
    (c71 : PySem.W.codeIn K cd71 "_law_are_rows" = true)
    (k71 : PySem.W.keepIn K (.ref f71) = true)
    (a72 : PySem.W.nsIn K mainGlobals "_law_values" = some (some (.ref f72)))
    (l72 : K.lookup f72 = some ⟨oc72, od72, .func (PySem.W.fnOf "_law_values" "_law_values" (defArgs s_l_values) (defBody s_l_values) (defScope s_l_values) .none kV72 dc72 pm72 an72 cd72 ct72), sl72⟩)
    (c72 : PySem.W.codeIn K cd72 "_law_values" = true)
    (k72 : PySem.W.keepIn K (.ref f72) = true)
    (a73 : PySem.W.nsIn K mainGlobals "_law_case_right" = some (some (.ref f73)))
    (l73 : K.lookup f73 = some ⟨oc73, od73, .func (PySem.W.fnOf "_law_case_right" "_law_case_right" (defArgs s_l_case_right) (defBody s_l_case_right) (defScope s_l_case_right) .none kV73 dc73 pm73 an73 (.ref cc73) ct73), sl73⟩)
    (c73 : PySem.W.codeIn K (.ref cc73) "_law_case_right" = true)
    (k73 : PySem.W.keepIn K (.ref f73) = true)
    (kc73 : K.lookup cc73 = some ⟨ec73, ed73, .fields ev73, es73⟩)
    (ke73 : ev73[11]? = some (.ref T73))
    (ch73 : PySem.W.codeHdIn K cc73 T73 = true)
    (nt73 : K.lookup T73 = none)
    (a74 : PySem.W.nsIn K mainGlobals "law" = some (some (.ref f74)))
    (l74 : K.lookup f74 = some ⟨oc74, od74, .func (PySem.W.fnOf "law" "law" (defArgs s_law) (defBody s_law) (defScope s_law) .none kV74 dc74 pm74 an74 cd74 ct74), sl74⟩)
    (c74 : PySem.W.codeIn K cd74 "law" = true)
    (k74 : PySem.W.keepIn K (.ref f74) = true)
    (aC5 : PySem.W.nsIn K mainGlobals "NetError" = some (some (.ref C5)))
    (xL5 : K.lookup C5 = some (excClassObj nm5 q5 C5 N5 bs5 [.type "ValueError", .type "Exception", .type "BaseException", .type "object"] true sn5 sub5 ab5 col5 dd5 m05 m15 m25 m35 m55 "ValueError.__new__"))
    (aC6 : PySem.W.nsIn K mainGlobals "BadNet" = some (some (.ref C6)))
    (xL6 : K.lookup C6 = some (excClassObj nm6 q6 C6 N6 bs6 [.ref C5, .type "ValueError", .type "Exception", .type "BaseException", .type "object"] true sn6 sub6 ab6 col6 dd6 m06 m16 m26 m36 m56 "ValueError.__new__"))
    (sa6 : PySem.W.findIn K (.ref C6) "__setattr__" = some (some (.builtin "object.__setattr__")))
    (ga6 : PySem.W.findIn K (.ref C6) "__getattribute__" = some (some (.builtin "BaseException.__getattribute__")))
    (gg6 : PySem.W.findIn K (.ref C6) "__getattr__" = some none)
    (hc6 : PySem.W.findIn K (.ref C6) "__class__" = some (some (.builtin "object.__class__")))
    (kC6 : PySem.W.keepIn K (.ref C6) = true)
    (ii6 : PySem.W.findIn K (.ref C6) "__init__" = some (some (.ref g6)))
    (gl6 : K.lookup g6 = some ⟨goc6, god6, .func (PySem.W.fnOf "__init__" "BadNet.__init__" (defArgs (inClass (topS 6) 0)) (defBody (inClass (topS 6) 0)) (defScope (inClass (topS 6) 0)) .none gkV6 gdc6 gpm6 gan6 gcd6 gct6), gsl6⟩)
    (gc6 : PySem.W.codeIn K gcd6 "BadNet.__init__" = true)
    (gk6 : PySem.W.keepIn K (.ref g6) = true)
    (gt6 : PySem.W.typeIn K (.ref g6) = some (.type "function"))
    (no6value : PySem.W.findIn K (.ref C6) "value" = some none)
    (aC7 : PySem.W.nsIn K mainGlobals "NoRouter" = some (some (.ref C7)))
    (xL7 : K.lookup C7 = some (excClassObj nm7 q7 C7 N7 bs7 [.ref C5, .type "ValueError", .type "Exception", .type "BaseException", .type "object"] true sn7 sub7 ab7 col7 dd7 m07 m17 m27 m37 m57 "ValueError.__new__"))
    (sa7 : PySem.W.findIn K (.ref C7) "__setattr__" = some (some (.builtin "object.__setattr__")))
    (ga7 : PySem.W.findIn K (.ref C7) "__getattribute__" = some (some (.builtin "BaseException.__getattribute__")))
    (gg7 : PySem.W.findIn K (.ref C7) "__getattr__" = some none)
    (hc7 : PySem.W.findIn K (.ref C7) "__class__" = some (some (.builtin "object.__class__")))
    (kC7 : PySem.W.keepIn K (.ref C7) = true)
    (ii7 : PySem.W.findIn K (.ref C7) "__init__" = some (some (.ref g7)))
    (gl7 : K.lookup g7 = some ⟨goc7, god7, .func (PySem.W.fnOf "__init__" "NoRouter.__init__" (defArgs (inClass (topS 7) 0)) (defBody (inClass (topS 7) 0)) (defScope (inClass (topS 7) 0)) .none gkV7 gdc7 gpm7 gan7 gcd7 gct7), gsl7⟩)
    (gc7 : PySem.W.codeIn K gcd7 "NoRouter.__init__" = true)
    (gk7 : PySem.W.keepIn K (.ref g7) = true)
    (gt7 : PySem.W.typeIn K (.ref g7) = some (.type "function"))
    (no7value : PySem.W.findIn K (.ref C7) "value" = some none)
    (aC8 : PySem.W.nsIn K mainGlobals "BadRows" = some (some (.ref C8)))
    (xL8 : K.lookup C8 = some (excClassObj nm8 q8 C8 N8 bs8 [.ref C5, .type "ValueError", .type "Exception", .type "BaseException", .type "object"] true sn8 sub8 ab8 col8 dd8 m08 m18 m28 m38 m58 "ValueError.__new__"))
    (sa8 : PySem.W.findIn K (.ref C8) "__setattr__" = some (some (.builtin "object.__setattr__")))
    (ga8 : PySem.W.findIn K (.ref C8) "__getattribute__" = some (some (.builtin "BaseException.__getattribute__")))
    (gg8 : PySem.W.findIn K (.ref C8) "__getattr__" = some none)
    (hc8 : PySem.W.findIn K (.ref C8) "__class__" = some (some (.builtin "object.__class__")))
    (kC8 : PySem.W.keepIn K (.ref C8) = true)
    (ii8 : PySem.W.findIn K (.ref C8) "__init__" = some (some (.ref g8)))
    (gl8 : K.lookup g8 = some ⟨goc8, god8, .func (PySem.W.fnOf "__init__" "BadRows.__init__" (defArgs (inClass (topS 8) 0)) (defBody (inClass (topS 8) 0)) (defScope (inClass (topS 8) 0)) .none gkV8 gdc8 gpm8 gan8 gcd8 gct8), gsl8⟩)
    (gc8 : PySem.W.codeIn K gcd8 "BadRows.__init__" = true)
    (gk8 : PySem.W.keepIn K (.ref g8) = true)
    (gt8 : PySem.W.typeIn K (.ref g8) = some (.type "function"))
    (no8value : PySem.W.findIn K (.ref C8) "value" = some none)
    (aN : PySem.W.nsIn K mainGlobals "Net" = some (some (.ref CN)))
    (pg : PySem.W.plainGet K CN Str.empty = true)
    (hd : PySem.W.hasDictIn K CN = true)
    (po : PySem.W.plainOver K CN = true)
    (sN : PySem.W.findIn K (.ref CN) "__setattr__" = some (some (.builtin "object.__setattr__")))
    (mk : PySem.W.makesIn K CN = true)
    (kN : PySem.W.keepIn K (.ref CN) = true)
    (nf_routers : PySem.W.findIn K (.ref CN) "_routers" = some none)
    (nf_links : PySem.W.findIn K (.ref CN) "_links" = some none)
    (a100 : PySem.W.findIn K (.ref CN) "__init__" = some (some (.ref f100)))
    (i100 : PySem.W.isFn K (.ref f100) = true)
    (l100 : K.lookup f100 = some ⟨oc100, od100, .func (PySem.W.fnOf "__init__" "Net.__init__" (defArgs s_m_init) (defBody s_m_init) (defScope s_m_init) .none kV100 dc100 pm100 an100 cd100 ct100), sl100⟩)
    (c100 : PySem.W.codeIn K cd100 "Net.__init__" = true)
    (k100 : PySem.W.keepIn K (.ref f100) = true)
    (pa101 : PySem.W.findIn K (.ref CN) "routers" = some (some (.ref pp101)))
    (pb101 : PySem.W.specialIn K (.ref pp101) "__get__" = some (some (.builtin "property.__get__")))
    (pc101 : PySem.W.takesIn K (.ref pp101) = some true)
    (pd101 : PySem.W.recIn K pp101 "property" = some (.ref f101 :: pr101))
    (l101 : K.lookup f101 = some ⟨oc101, od101, .func (PySem.W.fnOf "routers" "Net.routers" (defArgs s_m_routers) (defBody s_m_routers) (defScope s_m_routers) .none kV101 dc101 pm101 an101 cd101 ct101), sl101⟩)
    (c101 : PySem.W.codeIn K cd101 "Net.routers" = true)
    (k101 : PySem.W.keepIn K (.ref f101) = true)
    (pa102 : PySem.W.findIn K (.ref CN) "links" = some (some (.ref pp102)))
    (pb102 : PySem.W.specialIn K (.ref pp102) "__get__" = some (some (.builtin "property.__get__")))
    (pc102 : PySem.W.takesIn K (.ref pp102) = some true)
    (pd102 : PySem.W.recIn K pp102 "property" = some (.ref f102 :: pr102))
    (l102 : K.lookup f102 = some ⟨oc102, od102, .func (PySem.W.fnOf "links" "Net.links" (defArgs s_m_links) (defBody s_m_links) (defScope s_m_links) .none kV102 dc102 pm102 an102 cd102 ct102), sl102⟩)
    (c102 : PySem.W.codeIn K cd102 "Net.links" = true)
    (k102 : PySem.W.keepIn K (.ref f102) = true)
    (a103 : PySem.W.findIn K (.ref CN) "__eq__" = some (some (.ref f103)))
    (i103 : PySem.W.isFn K (.ref f103) = true)
    (l103 : K.lookup f103 = some ⟨oc103, od103, .func (PySem.W.fnOf "__eq__" "Net.__eq__" (defArgs s_m_u_eq_) (defBody s_m_u_eq_) (defScope s_m_u_eq_) .none kV103 dc103 pm103 an103 cd103 ct103), sl103⟩)
    (c103 : PySem.W.codeIn K cd103 "Net.__eq__" = true)
    (k103 : PySem.W.keepIn K (.ref f103) = true)
    (eN : PySem.W.findIn K (.ref CN) "__ne__" = some (some (.builtin "object.__ne__")))
    (eO : PySem.W.mroIn K CN (.type "object") = some true)
    (eH : PySem.W.findIn K (.ref CN) "__class__" = some (some (.builtin "object.__class__")))
    (eJ : PySem.W.typeIn K (.ref CN) = some (.type "type"))
    (a104 : PySem.W.findIn K (.ref CN) "length" = some (some (.ref f104)))
    (i104 : PySem.W.isFn K (.ref f104) = true)
    (l104 : K.lookup f104 = some ⟨oc104, od104, .func (PySem.W.fnOf "length" "Net.length" (defArgs s_m_length) (defBody s_m_length) (defScope s_m_length) .none kV104 dc104 pm104 an104 cd104 ct104), sl104⟩)
    (c104 : PySem.W.codeIn K cd104 "Net.length" = true)
    (k104 : PySem.W.keepIn K (.ref f104) = true)
    (a105 : PySem.W.findIn K (.ref CN) "with_link" = some (some (.ref f105)))
    (i105 : PySem.W.isFn K (.ref f105) = true)
    (l105 : K.lookup f105 = some ⟨oc105, od105, .func (PySem.W.fnOf "with_link" "Net.with_link" (defArgs s_m_with_link) (defBody s_m_with_link) (defScope s_m_with_link) .none kV105 dc105 pm105 an105 cd105 ct105), sl105⟩)
    (c105 : PySem.W.codeIn K cd105 "Net.with_link" = true)
    (k105 : PySem.W.keepIn K (.ref f105) = true)
    (a106 : PySem.W.findIn K (.ref CN) "without" = some (some (.ref f106)))
    (i106 : PySem.W.isFn K (.ref f106) = true)
    (l106 : K.lookup f106 = some ⟨oc106, od106, .func (PySem.W.fnOf "without" "Net.without" (defArgs s_m_without) (defBody s_m_without) (defScope s_m_without) .none kV106 dc106 pm106 an106 cd106 ct106), sl106⟩)
    (c106 : PySem.W.codeIn K cd106 "Net.without" = true)
    (k106 : PySem.W.keepIn K (.ref f106) = true)
    (a107 : PySem.W.findIn K (.ref CN) "_links_without" = some (some (.ref f107)))
    (i107 : PySem.W.isFn K (.ref f107) = true)
    (l107 : K.lookup f107 = some ⟨oc107, od107, .func (PySem.W.fnOf "_links_without" "Net._links_without" (defArgs s_m_u_links_without) (defBody s_m_u_links_without) (defScope s_m_u_links_without) .none kV107 dc107 pm107 an107 cd107 ct107), sl107⟩)
    (c107 : PySem.W.codeIn K cd107 "Net._links_without" = true)
    (k107 : PySem.W.keepIn K (.ref f107) = true)
    (zabs : PySem.W.nsIn K mainGlobals "abs" = some none)
    (zall : PySem.W.nsIn K mainGlobals "all" = some none)
    (zany : PySem.W.nsIn K mainGlobals "any" = some none)
    (zbool : PySem.W.nsIn K mainGlobals "bool" = some none)
    (zdict : PySem.W.nsIn K mainGlobals "dict" = some none)
    (zenumerate : PySem.W.nsIn K mainGlobals "enumerate" = some none)
    (zint : PySem.W.nsIn K mainGlobals "int" = some none)
    (zisinstance : PySem.W.nsIn K mainGlobals "isinstance" = some none)
    (zlen : PySem.W.nsIn K mainGlobals "len" = some none)
    (zlist : PySem.W.nsIn K mainGlobals "list" = some none)
    (zmax : PySem.W.nsIn K mainGlobals "max" = some none)
    (zmin : PySem.W.nsIn K mainGlobals "min" = some none)
    (zrange : PySem.W.nsIn K mainGlobals "range" = some none)
    (zrepr : PySem.W.nsIn K mainGlobals "repr" = some none)
    (zset : PySem.W.nsIn K mainGlobals "set" = some none)
    (zsorted : PySem.W.nsIn K mainGlobals "sorted" = some none)
    (zstr : PySem.W.nsIn K mainGlobals "str" = some none)
    (zsum : PySem.W.nsIn K mainGlobals "sum" = some none)
    (ztuple : PySem.W.nsIn K mainGlobals "tuple" = some none)
    (zzip : PySem.W.nsIn K mainGlobals "zip" = some none)
    (vLONGEST_NAME : PySem.W.nsIn K mainGlobals "LONGEST_NAME" = some (some (.int 8 tLONGEST_NAME)))
    (vFEWEST_ROUTERS : PySem.W.nsIn K mainGlobals "FEWEST_ROUTERS" = some (some (.int 2 tFEWEST_ROUTERS)))
    (vMOST_ROUTERS : PySem.W.nsIn K mainGlobals "MOST_ROUTERS" = some (some (.int 8 tMOST_ROUTERS)))
    (vMOST_LINKS : PySem.W.nsIn K mainGlobals "MOST_LINKS" = some (some (.int 16 tMOST_LINKS)))
    (vLEAST_ROW : PySem.W.nsIn K mainGlobals "LEAST_ROW" = some (some (.int 2 tLEAST_ROW)))
    (vMOST_ROWS : PySem.W.nsIn K mainGlobals "MOST_ROWS" = some (some (.int 8 tMOST_ROWS)))
    (inj : ([C5, C6, C7, C8] : List Addr).Nodup)
    (hn : PySem.W.specialIn K (.builtin "object.__class__") "__get__" = some (some (.builtin "getset_descriptor.__get__")))
    (ht : PySem.W.takesIn K (.builtin "object.__class__") = some true) :
    ∃ (fd : FuncData) (c1 P1 c2 P2 : Addr), OneTab K mg "_law_case_right" c1 P1 ∧ OneTab K mg "_law_case_right" c2 P2 ∧ (∀ (s : Shared) (v : Value), BindsTo s fd ⟨[v], []⟩ [("_law_script", v)]) ∧
      ∀ base : Heap, K.In base → base.Ns mainGlobals mg → LamX.TabB base mg c1 P1 → LamX.TabB base mg c2 P2 → FnG P w K mg base CX0 17 fl fd ["_law_script"] (spLaw P1 P2 K) := by
  have e := hfl.symm.trans (PySem.W.mg_of X G a74)
  obtain rfl : f74 = fl := by
    injection e with e
    injection e with e
    exact e.symm
  let dF : FuncData := (PySem.W.fnOf "law" "law" (defArgs s_law) (defBody s_law) (defScope s_law) .none kV74 dc74 pm74 an74 cd74 ct74)
  have T : Txt K mg (fun i => ([0, 0, 0, 0, 0, C5, C6, C7, C8, 0, 0, 0, 0, 0, 0, 0, 0, 0, 0, 0, CN] : List Addr).getD i 0) (fun i => ([0, 0, 0, 0, 0, 0, g6, g7, g8, 0, 0, 0, 0, 0, 0, 0, 0, 0, 0, 0, 0, 0, 0, 0, 0, 0, 0, 0, 0, 0, 0, 0, 0, 0, 0, 0, 0, 0, 0, 0, 0, 0, 0, 0, 0, 0, 0, 0, 0, 0, 0, 0, 0, 0, 0, 0, 0, 0, 0, 0, 0, 0, 0, 0, 0, 0, 0, 0, 0, 0, 0, 0, 0, 0, 0, 0, 0, 0, 0, 0, 0, 0, 0, 0, 0, 0, 0, 0, 0, 0, 0, 0, 0, 0, 0, 0, 0, 0, 0, 0, f100, f101, f102, f103, f104, f105, f106, f107] : List Addr).getD i 0) (fun i => ([0, f1, 0, 0, 0, 0, 0, 0, 0, 0, 0, f11, f12, f13, f14, f15, 0, 0, 0, 0, 0, f21, f22, f23, f24, f25, f26, 0, 0, f29, 0, f31, f32, f33, f34, f35, f36, 0, 0, f39, f40, f41, f42, f43, f44, f45, f46, f47, f48, f49, f50, f51, f52, 0, f54, f55, f56, f57, f58, f59, f60, f61, f62, f63, f64, f65, f66, f67, f68, f69, f70, f71, f72, f73, f74] : List Addr).getD i 0) (fun i => ([(PySem.W.fnOf "law" "law" (defArgs s_law) (defBody s_law) (defScope s_law) .none kV74 dc74 pm74 an74 cd74 ct74), (PySem.W.fnOf "_wall" "_wall" (defArgs s__wall) (defBody s__wall) (defScope s__wall) .none kV1 dc1 pm1 an1 cd1 ct1), (PySem.W.fnOf "law" "law" (defArgs s_law) (defBody s_law) (defScope s_law) .none kV74 dc74 pm74 an74 cd74 ct74), (PySem.W.fnOf "law" "law" (defArgs s_law) (defBody s_law) (defScope s_law) .none kV74 dc74 pm74 an74 cd74 ct74), (PySem.W.fnOf "law" "law" (defArgs s_law) (defBody s_law) (defScope s_law) .none kV74 dc74 pm74 an74 cd74 ct74), (PySem.W.fnOf "law" "law" (defArgs s_law) (defBody s_law) (defScope s_law) .none kV74 dc74 pm74 an74 cd74 ct74), (PySem.W.fnOf "law" "law" (defArgs s_law) (defBody s_law) (defScope s_law) .none kV74 dc74 pm74 an74 cd74 ct74), (PySem.W.fnOf "law" "law" (defArgs s_law) (defBody s_law) (defScope s_law) .none kV74 dc74 pm74 an74 cd74 ct74), (PySem.W.fnOf "law" "law" (defArgs s_law) (defBody s_law) (defScope s_law) .none kV74 dc74 pm74 an74 cd74 ct74), (PySem.W.fnOf "law" "law" (defArgs s_law) (defBody s_law) (defScope s_law) .none kV74 dc74 pm74 an74 cd74 ct74), (PySem.W.fnOf "law" "law" (defArgs s_law) (defBody s_law) (defScope s_law) .none kV74 dc74 pm74 an74 cd74 ct74), (PySem.W.fnOf "is_integer" "is_integer" (defArgs s_is_integer) (defBody s_is_integer) (defScope s_is_integer) .none kV11 dc11 pm11 an11 cd11 ct11), (PySem.W.fnOf "is_integer_from" "is_integer_from" (defArgs s_is_integer_from) (defBody s_is_integer_from) (defScope s_is_integer_from) .none kV12 dc12 pm12 an12 cd12 ct12), (PySem.W.fnOf "is_tuple_of" "is_tuple_of" (defArgs s_is_tuple_of) (defBody s_is_tuple_of) (defScope s_is_tuple_of) .none kV13 dc13 pm13 an13 cd13 ct13), (PySem.W.fnOf "is_name" "is_name" (defArgs s_is_name) (defBody s_is_name) (defScope s_is_name) .none kV14 dc14 pm14 an14 cd14 ct14), (PySem.W.fnOf "is_rising" "is_rising" (defArgs s_is_rising) (defBody s_is_rising) (defScope s_is_rising) .none kV15 dc15 pm15 an15 cd15 ct15), (PySem.W.fnOf "law" "law" (defArgs s_law) (defBody s_law) (defScope s_law) .none kV74 dc74 pm74 an74 cd74 ct74), (PySem.W.fnOf "law" "law" (defArgs s_law) (defBody s_law) (defScope s_law) .none kV74 dc74 pm74 an74 cd74 ct74), (PySem.W.fnOf "law" "law" (defArgs s_law) (defBody s_law) (defScope s_law) .none kV74 dc74 pm74 an74 cd74 ct74), (PySem.W.fnOf "law" "law" (defArgs s_law) (defBody s_law) (defScope s_law) .none kV74 dc74 pm74 an74 cd74 ct74), (PySem.W.fnOf "law" "law" (defArgs s_law) (defBody s_law) (defScope s_law) .none kV74 dc74 pm74 an74 cd74 ct74), (PySem.W.fnOf "need_routers" "need_routers" (defArgs s_need_routers) (defBody s_need_routers) (defScope s_need_routers) .none kV21 dc21 pm21 an21 cd21 ct21), (PySem.W.fnOf "need_router" "need_router" (defArgs s_need_router) (defBody s_need_router) (defScope s_need_router) .none kV22 dc22 pm22 an22 cd22 ct22), (PySem.W.fnOf "is_length" "is_length" (defArgs s_is_length) (defBody s_is_length) (defScope s_is_length) .none kV23 dc23 pm23 an23 cd23 ct23), (PySem.W.fnOf "are_routers" "are_routers" (defArgs s_are_routers) (defBody s_are_routers) (defScope s_are_routers) .none kV24 dc24 pm24 an24 cd24 ct24), (PySem.W.fnOf "are_links" "are_links" (defArgs s_are_links) (defBody s_are_links) (defScope s_are_links) .none kV25 dc25 pm25 an25 cd25 ct25), (PySem.W.fnOf "is_link" "is_link" (defArgs s_is_link) (defBody s_is_link) (defScope s_is_link) .none kV26 dc26 pm26 an26 cd26 ct26), (PySem.W.fnOf "law" "law" (defArgs s_law) (defBody s_law) (defScope s_law) .none kV74 dc74 pm74 an74 cd74 ct74), (PySem.W.fnOf "law" "law" (defArgs s_law) (defBody s_law) (defScope s_law) .none kV74 dc74 pm74 an74 cd74 ct74), (PySem.W.fnOf "is_row" "is_row" (defArgs s_is_row) (defBody s_is_row) (defScope s_is_row) .none kV29 dc29 pm29 an29 cd29 ct29), (PySem.W.fnOf "law" "law" (defArgs s_law) (defBody s_law) (defScope s_law) .none kV74 dc74 pm74 an74 cd74 ct74), (PySem.W.fnOf "distance" "distance" (defArgs s_distance) (defBody s_distance) (defScope s_distance) .none kV31 dc31 pm31 an31 cd31 ct31), (PySem.W.fnOf "nexts" "nexts" (defArgs s_nexts) (defBody s_nexts) (defScope s_nexts) .none kV32 dc32 pm32 an32 cd32 ct32), (PySem.W.fnOf "next_table" "next_table" (defArgs s_next_table) (defBody s_next_table) (defScope s_next_table) .none kV33 dc33 pm33 an33 cd33 ct33), (PySem.W.fnOf "distances_to" "distances_to" (defArgs s_distances_to) (defBody s_distances_to) (defScope s_distances_to) .none kV34 dc34 pm34 an34 cd34 ct34), (PySem.W.fnOf "shorten" "shorten" (defArgs s_shorten) (defBody s_shorten) (defScope s_shorten) .none kV35 dc35 pm35 an35 cd35 ct35), (PySem.W.fnOf "begins" "begins" (defArgs s_begins) (defBody s_begins) (defScope s_begins) .none kV36 dc36 pm36 an36 cd36 ct36), (PySem.W.fnOf "law" "law" (defArgs s_law) (defBody s_law) (defScope s_law) .none kV74 dc74 pm74 an74 cd74 ct74), (PySem.W.fnOf "law" "law" (defArgs s_law) (defBody s_law) (defScope s_law) .none kV74 dc74 pm74 an74 cd74 ct74), (PySem.W.fnOf "wanted" "wanted" (defArgs s_wanted) (defBody s_wanted) (defScope s_wanted) .none kV39 dc39 pm39 an39 cd39 ct39), (PySem.W.fnOf "shows_wanted" "shows_wanted" (defArgs s_shows_wanted) (defBody s_shows_wanted) (defScope s_shows_wanted) .none kV40 dc40 pm40 an40 cd40 ct40), (PySem.W.fnOf "need_rows" "need_rows" (defArgs s_need_rows) (defBody s_need_rows) (defScope s_need_rows) .none kV41 dc41 pm41 an41 cd41 ct41), (PySem.W.fnOf "is_linked" "is_linked" (defArgs s_is_linked) (defBody s_is_linked) (defScope s_is_linked) .none kV42 dc42 pm42 an42 cd42 ct42), (PySem.W.fnOf "arcs_of" "arcs_of" (defArgs s_arcs_of) (defBody s_arcs_of) (defScope s_arcs_of) .none kV43 dc43 pm43 an43 cd43 ct43), (PySem.W.fnOf "with_lengths" "with_lengths" (defArgs s_with_lengths) (defBody s_with_lengths) (defScope s_with_lengths) .none kV44 dc44 pm44 an44 cd44 ct44), (PySem.W.fnOf "divisor" "divisor" (defArgs s_divisor) (defBody s_divisor) (defScope s_divisor) .none kV45 dc45 pm45 an45 cd45 ct45), (PySem.W.fnOf "shorter" "shorter" (defArgs s_shorter) (defBody s_shorter) (defScope s_shorter) .none kV46 dc46 pm46 an46 cd46 ct46), (PySem.W.fnOf "length_of" "length_of" (defArgs s_length_of) (defBody s_length_of) (defScope s_length_of) .none kV47 dc47 pm47 an47 cd47 ct47), (PySem.W.fnOf "bag_of" "bag_of" (defArgs s_bag_of) (defBody s_bag_of) (defScope s_bag_of) .none kV48 dc48 pm48 an48 cd48 ct48), (PySem.W.fnOf "are_lengths" "are_lengths" (defArgs s_are_lengths) (defBody s_are_lengths) (defScope s_are_lengths) .none kV49 dc49 pm49 an49 cd49 ct49), (PySem.W.fnOf "are_swaps" "are_swaps" (defArgs s_are_swaps) (defBody s_are_swaps) (defScope s_are_swaps) .none kV50 dc50 pm50 an50 cd50 ct50), (PySem.W.fnOf "is_swap" "is_swap" (defArgs s_is_swap) (defBody s_is_swap) (defScope s_is_swap) .none kV51 dc51 pm51 an51 cd51 ct51), (PySem.W.fnOf "saves" "saves" (defArgs s_saves) (defBody s_saves) (defScope s_saves) .none kV52 dc52 pm52 an52 cd52 ct52), (PySem.W.fnOf "law" "law" (defArgs s_law) (defBody s_law) (defScope s_law) .none kV74 dc74 pm74 an74 cd74 ct74), (PySem.W.fnOf "_law_pot" "_law_pot" (defArgs s_l_pot) (defBody s_l_pot) (defScope s_l_pot) .none kV54 dc54 pm54 an54 cd54 ct54), (PySem.W.fnOf "_law_take" "_law_take" (defArgs s_l_take) (defBody s_l_take) (defScope s_l_take) .none kV55 dc55 pm55 an55 cd55 ct55), (PySem.W.fnOf "_law_pots" "_law_pots" (defArgs s_l_pots) (defBody s_l_pots) (defScope s_l_pots) .none kV56 dc56 pm56 an56 cd56 ct56), (PySem.W.fnOf "_law_of" "_law_of" (defArgs s_l_of) (defBody s_l_of) (defScope s_l_of) .none kV57 dc57 pm57 an57 cd57 ct57), (PySem.W.fnOf "_law_turned" "_law_turned" (defArgs s_l_turned) (defBody s_l_turned) (defScope s_l_turned) .none kV58 dc58 pm58 an58 cd58 ct58), (PySem.W.fnOf "_law_names" "_law_names" (defArgs s_l_names) (defBody s_l_names) (defScope s_l_names) .none kV59 dc59 pm59 an59 cd59 ct59), (PySem.W.fnOf "_law_far" "_law_far" (defArgs s_l_far) (defBody s_l_far) (defScope s_l_far) .none kV60 dc60 pm60 an60 cd60 ct60), (PySem.W.fnOf "_law_pairs" "_law_pairs" (defArgs s_l_pairs) (defBody s_l_pairs) (defScope s_l_pairs) .none kV61 dc61 pm61 an61 cd61 ct61), (PySem.W.fnOf "_law_world" "_law_world" (defArgs s_l_world) (defBody s_l_world) (defScope s_l_world) .none kV62 dc62 pm62 an62 cd62 ct62), (PySem.W.fnOf "_law_made" "_law_made" (defArgs s_l_made) (defBody s_l_made) (defScope s_l_made) .none kV63 dc63 pm63 an63 cd63 ct63), (PySem.W.fnOf "_law_lengths" "_law_lengths" (defArgs s_l_lengths) (defBody s_l_lengths) (defScope s_l_lengths) .none kV64 dc64 pm64 an64 cd64 ct64), (PySem.W.fnOf "_law_odd" "_law_odd" (defArgs s_l_odd) (defBody s_l_odd) (defScope s_l_odd) .none kV65 dc65 pm65 an65 cd65 ct65), (PySem.W.fnOf "_law_bent_part" "_law_bent_part" (defArgs s_l_bent_part) (defBody s_l_bent_part) (defScope s_l_bent_part) .none kV66 dc66 pm66 an66 cd66 ct66), (PySem.W.fnOf "_law_bent" "_law_bent" (defArgs s_l_bent) (defBody s_l_bent) (defScope s_l_bent) .none kV67 dc67 pm67 an67 cd67 ct67), (PySem.W.fnOf "_law_caught" "_law_caught" (defArgs s_l_caught) (defBody s_l_caught) (defScope s_l_caught) .none kV68 dc68 pm68 an68 cd68 ct68), (PySem.W.fnOf "_law_walks" "_law_walks" (defArgs s_l_walks) (defBody s_l_walks) (defScope s_l_walks) .none kV69 dc69 pm69 an69 cd69 ct69), (PySem.W.fnOf "_law_is_row" "_law_is_row" (defArgs s_l_is_row) (defBody s_l_is_row) (defScope s_l_is_row) .none kV70 dc70 pm70 an70 cd70 ct70), (PySem.W.fnOf "_law_are_rows" "_law_are_rows" (defArgs s_l_are_rows) (defBody s_l_are_rows) (defScope s_l_are_rows) .none kV71 dc71 pm71 an71 cd71 ct71), (PySem.W.fnOf "_law_values" "_law_values" (defArgs s_l_values) (defBody s_l_values) (defScope s_l_values) .none kV72 dc72 pm72 an72 cd72 ct72), (PySem.W.fnOf "_law_case_right" "_law_case_right" (defArgs s_l_case_right) (defBody s_l_case_right) (defScope s_l_case_right) .none kV73 dc73 pm73 an73 (.ref cc73) ct73), (PySem.W.fnOf "law" "law" (defArgs s_law) (defBody s_law) (defScope s_law) .none kV74 dc74 pm74 an74 cd74 ct74)] : List FuncData).getD i (PySem.W.fnOf "law" "law" (defArgs s_law) (defBody s_law) (defScope s_law) .none kV74 dc74 pm74 an74 cd74 ct74)) (fun i => ([dF, dF, dF, dF, dF, dF, (PySem.W.fnOf "__init__" "BadNet.__init__" (defArgs (inClass (topS 6) 0)) (defBody (inClass (topS 6) 0)) (defScope (inClass (topS 6) 0)) .none gkV6 gdc6 gpm6 gan6 gcd6 gct6), (PySem.W.fnOf "__init__" "NoRouter.__init__" (defArgs (inClass (topS 7) 0)) (defBody (inClass (topS 7) 0)) (defScope (inClass (topS 7) 0)) .none gkV7 gdc7 gpm7 gan7 gcd7 gct7), (PySem.W.fnOf "__init__" "BadRows.__init__" (defArgs (inClass (topS 8) 0)) (defBody (inClass (topS 8) 0)) (defScope (inClass (topS 8) 0)) .none gkV8 gdc8 gpm8 gan8 gcd8 gct8), dF, dF, dF, dF, dF, dF, dF, dF, dF, dF, dF, dF, dF, dF, dF, dF, dF, dF, dF, dF, dF, dF, dF, dF, dF, dF, dF, dF, dF, dF, dF, dF, dF, dF, dF, dF, dF, dF, dF, dF, dF, dF, dF, dF, dF, dF, dF, dF, dF, dF, dF, dF, dF, dF, dF, dF, dF, dF, dF, dF, dF, dF, dF, dF, dF, dF, dF, dF, dF, dF, dF, dF, dF, dF, dF, dF, dF, dF, dF, dF, dF, dF, dF, dF, dF, dF, dF, dF, dF, dF, dF, (PySem.W.fnOf "__init__" "Net.__init__" (defArgs s_m_init) (defBody s_m_init) (defScope s_m_init) .none kV100 dc100 pm100 an100 cd100 ct100), (PySem.W.fnOf "routers" "Net.routers" (defArgs s_m_routers) (defBody s_m_routers) (defScope s_m_routers) .none kV101 dc101 pm101 an101 cd101 ct101), (PySem.W.fnOf "links" "Net.links" (defArgs s_m_links) (defBody s_m_links) (defScope s_m_links) .none kV102 dc102 pm102 an102 cd102 ct102), (PySem.W.fnOf "__eq__" "Net.__eq__" (defArgs s_m_u_eq_) (defBody s_m_u_eq_) (defScope s_m_u_eq_) .none kV103 dc103 pm103 an103 cd103 ct103), (PySem.W.fnOf "length" "Net.length" (defArgs s_m_length) (defBody s_m_length) (defScope s_m_length) .none kV104 dc104 pm104 an104 cd104 ct104), (PySem.W.fnOf "with_link" "Net.with_link" (defArgs s_m_with_link) (defBody s_m_with_link) (defScope s_m_with_link) .none kV105 dc105 pm105 an105 cd105 ct105), (PySem.W.fnOf "without" "Net.without" (defArgs s_m_without) (defBody s_m_without) (defScope s_m_without) .none kV106 dc106 pm106 an106 cd106 ct106), (PySem.W.fnOf "_links_without" "Net._links_without" (defArgs s_m_u_links_without) (defBody s_m_u_links_without) (defScope s_m_u_links_without) .none kV107 dc107 pm107 an107 cd107 ct107)] : List FuncData).getD i dF) :=
    { F__wall := fun_mk (st := s__wall) l1 c1 k1
      g__wall := PySem.W.mg_of X G a1
      F_is_integer := fun_mk (st := s_is_integer) l11 c11 k11
      g_is_integer := PySem.W.mg_of X G a11
      F_is_integer_from := fun_mk (st := s_is_integer_from) l12 c12 k12
      g_is_integer_from := PySem.W.mg_of X G a12
      F_is_tuple_of := fun_mk (st := s_is_tuple_of) l13 c13 k13
      g_is_tuple_of := PySem.W.mg_of X G a13
      F_is_name := fun_mk (st := s_is_name) l14 c14 k14
      g_is_name := PySem.W.mg_of X G a14
      F_is_rising := fun_mk (st := s_is_rising) l15 c15 k15
      g_is_rising := PySem.W.mg_of X G a15
      F_need_routers := fun_mk (st := s_need_routers) l21 c21 k21
      g_need_routers := PySem.W.mg_of X G a21
      F_need_router := fun_mk (st := s_need_router) l22 c22 k22
      g_need_router := PySem.W.mg_of X G a22
      F_is_length := fun_mk (st := s_is_length) l23 c23 k23
      g_is_length := PySem.W.mg_of X G a23
      F_are_routers := fun_mk (st := s_are_routers) l24 c24 k24
      g_are_routers := PySem.W.mg_of X G a24
      F_are_links := fun_mk (st := s_are_links) l25 c25 k25
      g_are_links := PySem.W.mg_of X G a25
      F_is_link := fun_mk (st := s_is_link) l26 c26 k26
      g_is_link := PySem.W.mg_of X G a26
      F_is_row := fun_mk (st := s_is_row) l29 c29 k29
      g_is_row := PySem.W.mg_of X G a29
      F_distance := fun_mk (st := s_distance) l31 c31 k31
      g_distance := PySem.W.mg_of X G a31
      F_nexts := fun_mk (st := s_nexts) l32 c32 k32
      g_nexts := PySem.W.mg_of X G a32
      F_next_table := fun_mk (st := s_next_table) l33 c33 k33
      g_next_table := PySem.W.mg_of X G a33
      F_distances_to := fun_mk (st := s_distances_to) l34 c34 k34
      g_distances_to := PySem.W.mg_of X G a34
      F_shorten := fun_mk (st := s_shorten) l35 c35 k35
      g_shorten := PySem.W.mg_of X G a35
      F_begins := fun_mk (st := s_begins) l36 c36 k36
      g_begins := PySem.W.mg_of X G a36
      F_wanted := fun_mk (st := s_wanted) l39 c39 k39
      g_wanted := PySem.W.mg_of X G a39
      F_shows_wanted := fun_mk (st := s_shows_wanted) l40 c40 k40
      g_shows_wanted := PySem.W.mg_of X G a40
      F_need_rows := fun_mk (st := s_need_rows) l41 c41 k41
      g_need_rows := PySem.W.mg_of X G a41
      F_is_linked := fun_mk (st := s_is_linked) l42 c42 k42
      g_is_linked := PySem.W.mg_of X G a42
      F_arcs_of := fun_mk (st := s_arcs_of) l43 c43 k43
      g_arcs_of := PySem.W.mg_of X G a43
      F_with_lengths := fun_mk (st := s_with_lengths) l44 c44 k44
      g_with_lengths := PySem.W.mg_of X G a44
      F_divisor := fun_mk (st := s_divisor) l45 c45 k45
      g_divisor := PySem.W.mg_of X G a45
      F_shorter := fun_mk (st := s_shorter) l46 c46 k46
      g_shorter := PySem.W.mg_of X G a46
      F_length_of := fun_mk (st := s_length_of) l47 c47 k47
      g_length_of := PySem.W.mg_of X G a47
      F_bag_of := fun_mk (st := s_bag_of) l48 c48 k48
      g_bag_of := PySem.W.mg_of X G a48
      F_are_lengths := fun_mk (st := s_are_lengths) l49 c49 k49
      g_are_lengths := PySem.W.mg_of X G a49
      F_are_swaps := fun_mk (st := s_are_swaps) l50 c50 k50
      g_are_swaps := PySem.W.mg_of X G a50
      F_is_swap := fun_mk (st := s_is_swap) l51 c51 k51
      g_is_swap := PySem.W.mg_of X G a51
      F_saves := fun_mk (st := s_saves) l52 c52 k52
      g_saves := PySem.W.mg_of X G a52
      F_l_pot := fun_mk (st := s_l_pot) l54 c54 k54
      g_l_pot := PySem.W.mg_of X G a54
      F_l_take := fun_mk (st := s_l_take) l55 c55 k55
      g_l_take := PySem.W.mg_of X G a55
      F_l_pots := fun_mk (st := s_l_pots) l56 c56 k56
      g_l_pots := PySem.W.mg_of X G a56
      F_l_of := fun_mk (st := s_l_of) l57 c57 k57
      g_l_of := PySem.W.mg_of X G a57
      F_l_turned := fun_mk (st := s_l_turned) l58 c58 k58
      g_l_turned := PySem.W.mg_of X G a58
      F_l_names := fun_mk (st := s_l_names) l59 c59 k59
      g_l_names := PySem.W.mg_of X G a59
      F_l_far := fun_mk (st := s_l_far) l60 c60 k60
      g_l_far := PySem.W.mg_of X G a60
      F_l_pairs := fun_mk (st := s_l_pairs) l61 c61 k61
      g_l_pairs := PySem.W.mg_of X G a61
      F_l_world := fun_mk (st := s_l_world) l62 c62 k62
      g_l_world := PySem.W.mg_of X G a62
      F_l_made := fun_mk (st := s_l_made) l63 c63 k63
      g_l_made := PySem.W.mg_of X G a63
      F_l_lengths := fun_mk (st := s_l_lengths) l64 c64 k64
      g_l_lengths := PySem.W.mg_of X G a64
      F_l_odd := fun_mk (st := s_l_odd) l65 c65 k65
      g_l_odd := PySem.W.mg_of X G a65
      F_l_bent_part := fun_mk (st := s_l_bent_part) l66 c66 k66
      g_l_bent_part := PySem.W.mg_of X G a66
      F_l_bent := fun_mk (st := s_l_bent) l67 c67 k67
      g_l_bent := PySem.W.mg_of X G a67
      F_l_caught := fun_mk (st := s_l_caught) l68 c68 k68
      g_l_caught := PySem.W.mg_of X G a68
      F_l_walks := fun_mk (st := s_l_walks) l69 c69 k69
      g_l_walks := PySem.W.mg_of X G a69
      F_l_is_row := fun_mk (st := s_l_is_row) l70 c70 k70
      g_l_is_row := PySem.W.mg_of X G a70
      F_l_are_rows := fun_mk (st := s_l_are_rows) l71 c71 k71
      g_l_are_rows := PySem.W.mg_of X G a71
      F_l_values := fun_mk (st := s_l_values) l72 c72 k72
      g_l_values := PySem.W.mg_of X G a72
      F_l_case_right := fun_mk (st := s_l_case_right) l73 c73 k73
      g_l_case_right := PySem.W.mg_of X G a73
      F_law := fun_mk (st := s_law) l74 c74 k74
      g_law := PySem.W.mg_of X G a74
      cN := ⟨PySem.W.mg_of X G aC5, ⟨_, _, _, _, _, _, _, _, _, _, _, _, _, _, xL5⟩⟩
      c_BadNet := ⟨PySem.W.mg_of X G aC6, ⟨_, _, _, _, _, _, _, _, _, _, _, _, _, _, xL6⟩, sa6, ga6, gg6, hc6, kC6⟩
      FI_BadNet := fun_mk (st := inClass (topS 6) 0) gl6 gc6 gk6
      iC_BadNet := ii6
      tI_BadNet := gt6
      no_BadNet_value := no6value
      c_NoRouter := ⟨PySem.W.mg_of X G aC7, ⟨_, _, _, _, _, _, _, _, _, _, _, _, _, _, xL7⟩, sa7, ga7, gg7, hc7, kC7⟩
      FI_NoRouter := fun_mk (st := inClass (topS 7) 0) gl7 gc7 gk7
      iC_NoRouter := ii7
      tI_NoRouter := gt7
      no_NoRouter_value := no7value
      c_BadRows := ⟨PySem.W.mg_of X G aC8, ⟨_, _, _, _, _, _, _, _, _, _, _, _, _, _, xL8⟩, sa8, ga8, gg8, hc8, kC8⟩
      FI_BadRows := fun_mk (st := inClass (topS 8) 0) gl8 gc8 gk8
      iC_BadRows := ii8
      tI_BadRows := gt8
      no_BadRows_value := no8value
      g_Net := PySem.W.mg_of X G aN
      cl_Net := ⟨pg, hd, po, sN⟩
      no_Net_routers := nf_routers
      no_Net_links := nf_links
      F_m_init := fun_mk (st := s_m_init) l100 c100 k100
      M_Net := ⟨mk, a100, i100, kN⟩
      P_routers := ⟨pp101, pa101, pb101, pc101, pr101, pd101⟩
      F_m_routers := fun_mk (st := s_m_routers) l101 c101 k101
      P_links := ⟨pp102, pa102, pb102, pc102, pr102, pd102⟩
      F_m_links := fun_mk (st := s_m_links) l102 c102 k102
      F_m_u_eq_ := fun_mk (st := s_m_u_eq_) l103 c103 k103
      E_Net := ⟨a103, i103⟩
      N_Net := eN
      O_Net := eO
      H_Net := eH
      I_Net := eJ
      F_m_length := fun_mk (st := s_m_length) l104 c104 k104
      Me_m_length := ⟨a104, i104, k104⟩
      F_m_with_link := fun_mk (st := s_m_with_link) l105 c105 k105
      F_m_without := fun_mk (st := s_m_without) l106 c106 k106
      F_m_u_links_without := fun_mk (st := s_m_u_links_without) l107 c107 k107
      n_abs := PySem.W.mg_none_of X G zabs
      n_all := PySem.W.mg_none_of X G zall
      n_any := PySem.W.mg_none_of X G zany
      n_bool := PySem.W.mg_none_of X G zbool
      n_dict := PySem.W.mg_none_of X G zdict
      n_enumerate := PySem.W.mg_none_of X G zenumerate
      n_int := PySem.W.mg_none_of X G zint
      n_isinstance := PySem.W.mg_none_of X G zisinstance
      n_len := PySem.W.mg_none_of X G zlen
      n_list := PySem.W.mg_none_of X G zlist
      n_max := PySem.W.mg_none_of X G zmax
      n_min := PySem.W.mg_none_of X G zmin
      n_range := PySem.W.mg_none_of X G zrange
      n_repr := PySem.W.mg_none_of X G zrepr
      n_set := PySem.W.mg_none_of X G zset
      n_sorted := PySem.W.mg_none_of X G zsorted
      n_str := PySem.W.mg_none_of X G zstr
      n_sum := PySem.W.mg_none_of X G zsum
      n_tuple := PySem.W.mg_none_of X G ztuple
      n_zip := PySem.W.mg_none_of X G zzip
      v_LONGEST_NAME := ⟨tLONGEST_NAME, PySem.W.mg_of X G vLONGEST_NAME⟩
      v_FEWEST_ROUTERS := ⟨tFEWEST_ROUTERS, PySem.W.mg_of X G vFEWEST_ROUTERS⟩
      v_MOST_ROUTERS := ⟨tMOST_ROUTERS, PySem.W.mg_of X G vMOST_ROUTERS⟩
      v_MOST_LINKS := ⟨tMOST_LINKS, PySem.W.mg_of X G vMOST_LINKS⟩
      v_LEAST_ROW := ⟨tLEAST_ROW, PySem.W.mg_of X G vLEAST_ROW⟩
      v_MOST_ROWS := ⟨tMOST_ROWS, PySem.W.mg_of X G vMOST_ROWS⟩
      nd := inj
      hn := hn
      ht := ht }
  exact ⟨(PySem.W.fnOf "law" "law" (defArgs s_law) (defBody s_law) (defScope s_law) .none kV74 dc74 pm74 an74 cd74 ct74), cc73, T73, cc73, T73, ⟨f73, _, _, PySem.W.mg_of X G a73, l73, rfl, rfl, ch73, nt73⟩, ⟨f73, _, _, PySem.W.mg_of X G a73, l73, rfl, rfl, ch73, nt73⟩, fun s v => .of_eq rfl,
    fun base _ _ t1 _ => ok_law T ⟨⟨_, _, _, _, _, _, _, _, rfl, l73, c73⟩⟩ ⟨t1⟩⟩

end Toy
set_option Elab.async false
open PySem PySem.W PyProof.Rows in
set_option maxRecDepth 100000 in
set_option maxHeartbeats 0 in
theorem PySem.Challenge.cw_quietturns_k40_rows_refused_holds : PySem.Challenge.rw_quietturns_k40_rows_refused.Holds := by
  w_on; o_law; k_head; (case hw => w_witness2)
  k_fill
  refine Q.walkTG (l := PySem.Challenge.rw_quietturns_k40_rows_refused) (n := 63) (k := 17) (x := "_law_script") (n1 := "_law_case_right") (n2 := "_law_case_right") (sp := Toy.spLaw) rfl (by decide) rfl ⟨rfl, by decide, by decide⟩ (by decide +kernel) (by decide +kernel) (fun w h Y => PySem.W.km_in_of Y) ?F
    (fun P1 P2 K H a ns hn h1 h2 hS => ⟨a, ns, rfl, hS, hn, fun p hp => ?_, fun _ => rfl⟩)
  case F =>
    intro w mg fa h KX G hmg
    refine' Toy.all_mk KX G hmg ?a1 ?l1 ?c1 ?k1 ?a11 ?l11 ?c11 ?k11 ?a12 ?l12 ?c12 ?k12 ?a13 ?l13 ?c13 ?k13 ?a14 ?l14 ?c14 ?k14 ?a15 ?l15 ?c15 ?k15 ?a21 ?l21 ?c21 ?k21 ?a22 ?l22 ?c22 ?k22 ?a23 ?l23 ?c23 ?k23 ?a24 ?l24 ?c24 ?k24 ?a25 ?l25 ?c25 ?k25 ?a26 ?l26 ?c26 ?k26 ?a29 ?l29 ?c29 ?k29 ?a31 ?l31 ?c31 ?k31 ?a32 ?l32 ?c32 ?k32 ?a33 ?l33 ?c33 ?k33 ?a34 ?l34 ?c34 ?k34 ?a35 ?l35 ?c35 ?k35 ?a36 ?l36 ?c36 ?k36 ?a39 ?l39 ?c39 ?k39 ?a40 ?l40 ?c40 ?k40 ?a41 ?l41 ?c41 ?k41 ?a42 ?l42 ?c42 ?k42 ?a43 ?l43 ?c43 ?k43 ?a44 ?l44 ?c44 ?k44 ?a45 ?l45 ?c45 ?k45 ?a46 ?l46 ?c46 ?k46 ?a47 ?l47 ?c47 ?k47 ?a48 ?l48 ?c48 ?k48 ?a49 ?l49 ?c49 ?k49 ?a50 ?l50 ?c50 ?k50 ?a51 ?l51 ?c51 ?k51 ?a52 ?l52 ?c52 ?k52 ?a54 ?l54 ?c54 ?k54 ?a55 ?l55 ?c55 ?k55 ?a56 ?l56 ?c56 ?k56 ?a57 ?l57 ?c57 ?k57 ?a58 ?l58 ?c58 ?k58 ?a59 ?l59 ?c59 ?k59 ?a60 ?l60 ?c60 ?k60 ?a61 ?l61 ?c61 ?k61 ?a62 ?l62 ?c62 ?k62 ?a63 ?l63 ?c63 ?k63 ?a64 ?l64 ?c64 ?k64 ?a65 ?l65 ?c65 ?k65 ?a66 ?l66 ?c66 ?k66 ?a67 ?l67 ?c67 ?k67 ?a68 ?l68 ?c68 ?k68 ?a69 ?l69 ?c69 ?k69 ?a70 ?l70 ?c70 ?k70 ?a71 ?l71 ?c71 ?k71 ?a72 ?l72 ?c72 ?k72 ?a73 ?l73 ?c73 ?k73 ?kc73 ?ke73 ?ch73 ?nt73 ?a74 ?l74 ?c74 ?k74 ?aC5 ?xL5 ?aC6 ?xL6 ?sa6 ?ga6 ?gg6 ?hc6 ?kC6 ?ii6 ?gl6 ?gc6 ?gk6 ?gt6 ?no6value ?aC7 ?xL7 ?sa7 ?ga7 ?gg7 ?hc7 ?kC7 ?ii7 ?gl7 ?gc7 ?gk7 ?gt7 ?no7value ?aC8 ?xL8 ?sa8 ?ga8 ?gg8 ?hc8 ?kC8 ?ii8 ?gl8 ?gc8 ?gk8 ?gt8 ?no8value ?aN ?pg ?hd ?po ?sN ?mk ?kN ?nf_routers ?nf_links ?a100 ?i100 ?l100 ?c100 ?k100 ?pa101 ?pb101 ?pc101 ?pd101 ?l101 ?c101 ?k101 ?pa102 ?pb102 ?pc102 ?pd102 ?l102 ?c102 ?k102 ?a103 ?i103 ?l103 ?c103 ?k103 ?eN ?eO ?eH ?eJ ?a104 ?i104 ?l104 ?c104 ?k104 ?a105 ?i105 ?l105 ?c105 ?k105 ?a106 ?i106 ?l106 ?c106 ?k106 ?a107 ?i107 ?l107 ?c107 ?k107 ?zabs ?zall ?zany ?zbool ?zdict ?zenumerate ?zint ?zisinstance ?zlen ?zlist ?zmax ?zmin ?zrange ?zrepr ?zset ?zsorted ?zstr ?zsum ?ztuple ?zzip ?vLONGEST_NAME ?vFEWEST_ROUTERS ?vMOST_ROUTERS ?vMOST_LINKS ?vLEAST_ROW ?vMOST_ROWS ?inj ?hn ?ht
    (case a1 => k_is)
    (case l1 => k_is)
    (case c1 => k_is)
    (case k1 => k_is)
    (case a11 => k_is)
    (case l11 => k_is)
    (case c11 => k_is)
    (case k11 => k_is)
    (case a12 => k_is)
    (case l12 => k_is)
    (case c12 => k_is)
    (case k12 => k_is)
    (case a13 => k_is)
    (case l13 => k_is)
    (case c13 => k_is)
    (case k13 => k_is)
    (case a14 => k_is)
    (case l14 => k_is)
    (case c14 => k_is)
    (case k14 => k_is)
    (case a15 => k_is)
    (case l15 => k_is)
    (case c15 => k_is)
    (case k15 => k_is)
    (case a21 => k_is)
    (case l21 => k_is)
    (case c21 => k_is)
    (case k21 => k_is)
    (case a22 => k_is)
    (case l22 => k_is)
    (case c22 => k_is)
    (case k22 => k_is)
    (case a23 => k_is)
    (case l23 => k_is)
    (case c23 => k_is)
    (case k23 => k_is)
    (case a24 => k_is)
    (case l24 => k_is)
    (case c24 => k_is)
    (case k24 => k_is)
    (case a25 => k_is)
    (case l25 => k_is)
    (case c25 => k_is)
    (case k25 => k_is)
    (case a26 => k_is)
    (case l26 => k_is)
    (case c26 => k_is)
    (case k26 => k_is)
    (case a29 => k_is)
    (case l29 => k_is)
    (case c29 => k_is)
    (case k29 => k_is)
    (case a31 => k_is)
    (case l31 => k_is)
    (case c31 => k_is)
    (case k31 => k_is)
    (case a32 => k_is)
    (case l32 => k_is)
    (case c32 => k_is)
    (case k32 => k_is)
    (case a33 => k_is)
    (case l33 => k_is)
    (case c33 => k_is)
    (case k33 => k_is)
    (case a34 => k_is)
    (case l34 => k_is)
    (case c34 => k_is)
    (case k34 => k_is)
    (case a35 => k_is)
    (case l35 => k_is)
    (case c35 => k_is)
    (case k35 => k_is)
    (case a36 => k_is)
    (case l36 => k_is)
    (case c36 => k_is)
    (case k36 => k_is)
    (case a39 => k_is)
    (case l39 => k_is)
    (case c39 => k_is)
    (case k39 => k_is)
    (case a40 => k_is)
    (case l40 => k_is)
    (case c40 => k_is)
    (case k40 => k_is)
    (case a41 => k_is)
    (case l41 => k_is)
    (case c41 => k_is)
    (case k41 => k_is)
    (case a42 => k_is)
    (case l42 => k_is)
    (case c42 => k_is)
    (case k42 => k_is)
    (case a43 => k_is)
    (case l43 => k_is)
    (case c43 => k_is)
    (case k43 => k_is)
    (case a44 => k_is)
    (case l44 => k_is)
    (case c44 => k_is)
    (case k44 => k_is)
    (case a45 => k_is)
    (case l45 => k_is)
    (case c45 => k_is)
    (case k45 => k_is)
    (case a46 => k_is)
    (case l46 => k_is)
    (case c46 => k_is)
    (case k46 => k_is)
    (case a47 => k_is)
    (case l47 => k_is)
    (case c47 => k_is)
    (case k47 => k_is)
    (case a48 => k_is)
    (case l48 => k_is)
    (case c48 => k_is)
    (case k48 => k_is)
    (case a49 => k_is)
    (case l49 => k_is)
    (case c49 => k_is)
    (case k49 => k_is)
    (case a50 => k_is)
    (case l50 => k_is)
    (case c50 => k_is)
    (case k50 => k_is)
    (case a51 => k_is)
    (case l51 => k_is)
    (case c51 => k_is)
    (case k51 => k_is)
    (case a52 => k_is)
    (case l52 => k_is)
    (case c52 => k_is)
    (case k52 => k_is)
    (case a54 => k_is)
    (case l54 => k_is)
    (case c54 => k_is)
    (case k54 => k_is)
    (case a55 => k_is)
    (case l55 => k_is)
    (case c55 => k_is)
    (case k55 => k_is)
    (case a56 => k_is)
    (case l56 => k_is)
    (case c56 => k_is)
    (case k56 => k_is)
    (case a57 => k_is)
    (case l57 => k_is)
    (case c57 => k_is)
    (case k57 => k_is)
    (case a58 => k_is)
    (case l58 => k_is)
    (case c58 => k_is)
    (case k58 => k_is)
    (case a59 => k_is)
    (case l59 => k_is)
    (case c59 => k_is)
    (case k59 => k_is)
    (case a60 => k_is)
    (case l60 => k_is)
    (case c60 => k_is)
    (case k60 => k_is)
    (case a61 => k_is)
    (case l61 => k_is)
    (case c61 => k_is)
    (case k61 => k_is)
    (case a62 => k_is)
    (case l62 => k_is)
    (case c62 => k_is)
    (case k62 => k_is)
    (case a63 => k_is)
    (case l63 => k_is)
    (case c63 => k_is)
    (case k63 => k_is)
    (case a64 => k_is)
    (case l64 => k_is)
    (case c64 => k_is)
    (case k64 => k_is)
    (case a65 => k_is)
    (case l65 => k_is)
    (case c65 => k_is)
    (case k65 => k_is)
    (case a66 => k_is)
    (case l66 => k_is)
    (case c66 => k_is)
    (case k66 => k_is)
    (case a67 => k_is)
    (case l67 => k_is)
    (case c67 => k_is)
    (case k67 => k_is)
    (case a68 => k_is)
    (case l68 => k_is)
    (case c68 => k_is)
    (case k68 => k_is)
    (case a69 => k_is)
    (case l69 => k_is)
    (case c69 => k_is)
    (case k69 => k_is)
    (case a70 => k_is)
    (case l70 => k_is)
    (case c70 => k_is)
    (case k70 => k_is)
    (case a71 => k_is)
    (case l71 => k_is)
    (case c71 => k_is)
    (case k71 => k_is)
    (case a72 => k_is)
    (case l72 => k_is)
    (case c72 => k_is)
    (case k72 => k_is)
    (case a73 => k_is)
    (case l73 => k_is)
    (case c73 => k_is)
    (case k73 => k_is)
    (case kc73 => k_is)
    (case ke73 => first | rfl | k_is)
    (case ch73 => first | kernel_rfl | decide +kernel | rfl)
    (case nt73 => first | rfl | k_is)
    (case a74 => k_is)
    (case l74 => k_is)
    (case c74 => k_is)
    (case k74 => k_is)
    (case aC5 => k_is)
    (case xL5 => k_is)
    (case aC6 => k_is)
    (case xL6 => k_is)
    (case sa6 => k_is)
    (case ga6 => k_is)
    (case gg6 => k_is)
    (case hc6 => k_is)
    (case kC6 => k_is)
    (case ii6 => k_is)
    (case gl6 => k_is)
    (case gc6 => k_is)
    (case gk6 => k_is)
    (case gt6 => k_is)
    (case no6value => k_is)
    (case aC7 => k_is)
    (case xL7 => k_is)
    (case sa7 => k_is)
    (case ga7 => k_is)
    (case gg7 => k_is)
    (case hc7 => k_is)
    (case kC7 => k_is)
    (case ii7 => k_is)
    (case gl7 => k_is)
    (case gc7 => k_is)
    (case gk7 => k_is)
    (case gt7 => k_is)
    (case no7value => k_is)
    (case aC8 => k_is)
    (case xL8 => k_is)
    (case sa8 => k_is)
    (case ga8 => k_is)
    (case gg8 => k_is)
    (case hc8 => k_is)
    (case kC8 => k_is)
    (case ii8 => k_is)
    (case gl8 => k_is)
    (case gc8 => k_is)
    (case gk8 => k_is)
    (case gt8 => k_is)
    (case no8value => k_is)
    (case aN => k_is)
    (case pg => k_is)
    (case hd => k_is)
    (case po => k_is)
    (case sN => k_is)
    (case mk => k_is)
    (case kN => k_is)
    (case nf_routers => k_is)
    (case nf_links => k_is)
    (case a100 => k_is)
    (case i100 => k_is)
    (case l100 => k_is)
    (case c100 => k_is)
    (case k100 => k_is)
    (case pa101 => k_is)
    (case pb101 => k_is)
    (case pc101 => k_is)
    (case pd101 => k_is)
    (case l101 => k_is)
    (case c101 => k_is)
    (case k101 => k_is)
    (case pa102 => k_is)
    (case pb102 => k_is)
    (case pc102 => k_is)
    (case pd102 => k_is)
    (case l102 => k_is)
    (case c102 => k_is)
    (case k102 => k_is)
    (case a103 => k_is)
    (case i103 => k_is)
    (case l103 => k_is)
    (case c103 => k_is)
    (case k103 => k_is)
    (case eN => k_is)
    (case eO => k_is)
    (case eH => k_is)
    (case eJ => k_is)
    (case a104 => k_is)
    (case i104 => k_is)
    (case l104 => k_is)
    (case c104 => k_is)
    (case k104 => k_is)
    (case a105 => k_is)
    (case i105 => k_is)
    (case l105 => k_is)
    (case c105 => k_is)
    (case k105 => k_is)
    (case a106 => k_is)
    (case i106 => k_is)
    (case l106 => k_is)
    (case c106 => k_is)
    (case k106 => k_is)
    (case a107 => k_is)
    (case i107 => k_is)
    (case l107 => k_is)
    (case c107 => k_is)
    (case k107 => k_is)
    (case zabs => k_is)
    (case zall => k_is)
    (case zany => k_is)
    (case zbool => k_is)
    (case zdict => k_is)
    (case zenumerate => k_is)
    (case zint => k_is)
    (case zisinstance => k_is)
    (case zlen => k_is)
    (case zlist => k_is)
    (case zmax => k_is)
    (case zmin => k_is)
    (case zrange => k_is)
    (case zrepr => k_is)
    (case zset => k_is)
    (case zsorted => k_is)
    (case zstr => k_is)
    (case zsum => k_is)
    (case ztuple => k_is)
    (case zzip => k_is)
    (case vLONGEST_NAME => k_is)
    (case vFEWEST_ROUTERS => k_is)
    (case vMOST_ROUTERS => k_is)
    (case vMOST_LINKS => k_is)
    (case vLEAST_ROW => k_is)
    (case vMOST_ROWS => k_is)
    (case inj => decide)
    (case hn => k_is)
    (case ht => k_is)
  · rw [List.mem_singleton.mp hp]; exact LamX.TabS.nil h1
