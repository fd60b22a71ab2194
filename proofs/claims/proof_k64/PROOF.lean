import PyProof.Rows.All
import Wide.All
import OpenK.AllK
import Wide.FinOn
import PyProof.EqAt
import PyProof.EqKinds
import PyProof.TupleCall
import PyProof.ReprRoads
import HandS.ForMost
import HandS.ForExc
import HandS.ExcInit
import HandS.ExcValue
import HandS.ExcIs
import HandS.IsInst
import HandS.Wide
import HandS.Ends
import HandS.TupSets
import HandS.SetFor
import HandS.SetTxt0
import KE.SortData
import HandS.Strs
import KE.GoesEnum
import KE.GoesMore
import HandS.Iter
import KE.DataCmp
import HandS.WordsExc
import HandS.Property
import HandS.Lambda
import HandS.RaiseMore
import HandS.EndTab
import HandS.NestedK
import PyProof.NeKinds
import HandS.Nested
import HandS.DictComp
import HandS.More
import HandS.Style
import HandS.TupAny
import HandS.OwnEq
import PyProof.InstNe
import HandS.ExcOwn
import PyProof.StrLawsRepr
import KE.DataMinMax
import HandS.SortKw
import HandS.Conv
import HandS.Deep
import HandS.SortInts
import HandS.SortOrd
import KE.KEqDict
import PyProof.DictFindH
import HandS.Dict
import HandS.List
import KE.KEqNest
import KE.GoesRaise
import HandS.Exc
import HandS.Comp
import PyProof.WalksMore
import HandS.SetTxtIn
import HandS.Zip
import HandS.GenList
import HandS.ListItems
import KE.KDictZip
import KE.KItemsList
import PyProof.TupleIter
import KE.KUnpackStar
import KE.GoesEnumKw
import HandS.TryOnly
import HandS.Walk
import HandS.Text
import HandS.FStr
import HandS.FStrTup
import HandS.Steps
import PyProof.ReprLen
import PySem.Challenge.RW_quietturns_k64_texts_of_no_net
set_option Elab.async false
set_option linter.all false
set_option maxRecDepth 100000
set_option maxHeartbeats 4000000
/-! Rules of our own over the hand layer: powers, calls where no display is under way, exceptions as values, repr of data. -/
namespace Q
open PySem PySem.Spec PyProof.Rows L2

/-! ### powers of greater numbers -/
def CPw (i j : Int) : Prop :=
  0 ≤ j ∧ ∃ m : Nat, i.natAbs < 2 ^ m ∧ (m : Int) * j ≤ 134217728
theorem op_pw {X : Cx} : OpR X (binaryOp .Pow) (rI CPw fun i j => .int (i ^ j.toNat)) :=
  opI fun i j _ _ _ _ _ hc q => by
    obtain ⟨h0, m, hm, hj⟩ := hc
    refine pow_int h0 ?_ q
    have b : Builtin.Int.intBits i ≤ m := PyProof.Rows.intBits_le hm
    have c : (Builtin.Int.intBits i : Int) * j ≤ (m : Int) * j :=
      Int.mul_le_mul_of_nonneg_right (by omega) h0
    exact Int.le_trans c hj

/-! ### defs that are called while no display is under way -/
structure FnG (P : Program) (w : World) (K : PySem.W.Frag) (mg : Str → Option Value)
    (base : Heap) (CX : CXT) (k : Nat) (f : Addr) (fd : FuncData) (ps : List Str) (sp : Sp) : Prop where
  len : ∀ vs H Q E, sp vs H Q E → vs.length = ps.length
  go : ∀ (A : Around) (outer : List Env) (s : Shared) (H : Hp) (args : Args) (us : List Value)
    (vs : List V) (Q : VK) (E : XK), A.guards = some [] → Room k A →
    Env0 P w K mg base A outer s H → BindsTo s fd args (ps.zip us) → Vals vs us → sp vs H Q E →
    codeAny (model P w) A (.call (.ref f) args) (CR CX outer P w H s Q E) s
section
variable {P : Program} {w : World} {K : PySem.W.Frag} {mg : Str → Option Value}
  {base : Heap} {CX : CXT} {k : Nat} {f : Addr} {fd : FuncData} {ps : List Str} {sp : Sp}
theorem FnG.of (F : FnOk P w K mg base CX k f fd ps sp) : FnG P w K mg base CX k f fd ps sp :=
  ⟨F.len, fun A o s H a us vs Q E _ => F.run A o s H a us vs Q E⟩
theorem FnG.mono {j : Nat} (F : FnG P w K mg base CX j f fd ps sp) (h : j ≤ k) :
    FnG P w K mg base CX k f fd ps sp :=
  ⟨F.len, fun A o s H a us vs Q E hg hr => F.go A o s H a us vs Q E hg (hr.mono h)⟩

/-- the rule for a def by its body, as fn_of, with the guards known -/
theorem fng_of {name qual : Str} {params : Arguments} {body : List Stmt} {scope : Scope}
    {dV kV doc pm cdv ct oc : Value} {an od : Option Addr} {osl : Array (Option Value)} {N : List Str}
    (lk : K.lookup f = some ⟨oc, od,
      .func (PySem.W.fnOf name qual params body scope dV kV doc pm an cdv ct), osl⟩)
    (hcd : PySem.W.codeIn K cdv qual = true) (S : FnScope N ps scope)
    (len : ∀ vs H Q E, sp vs H Q E → vs.length = ps.length)
    (hbody : ∀ (A : Around) (outer : List Env) (s : Shared) (H : Hp) (vs : List V) (Q : VK) (E : XK),
      A.guards = some [] → Room k (A.deeper (envOfC qual scope s.heap.objs.size f cdv)) → sp vs H Q E →
      ∃ t, PSs (cxOf CX P w K mg base N qual scope f cdv A outer s H E) body t ∧
        t { nx := fun _ H' => Q .non H', rt := Q } (start N vs) H) :
    FnG P w K mg base CX (k + 1) f
      (PySem.W.fnOf name qual params body scope dV kV doc pm an cdv ct) ps sp := by
  refine ⟨len, ?_⟩
  intro A outer s H args us vs Q E hgd hr e0 hb rv hsp
  have hlen := len _ _ _ _ hsp
  have inB : ∀ b o, base.get? b = some o → s.heap.get? b = some o := fun b o e => (e0.bs b o e).1
  have KX : K.In s.heap := e0.mod.kin.keeps inB
  have kinds : ∀ y ∈ ps.zip us, scope.names.lookup y.1 = some .local ∨
      (scope.names.lookup y.1 = some .cell ∧
        ((cellsFrom (s.heap.objs.size + 1) scope.names []).lookup y.1).isSome = true) := by
    rintro ⟨n, v⟩ hy
    cases S.par n (List.of_mem_zip hy).1 with
    | inl q => exact .inl q
    | inr q => exact .inr ⟨q, PySem.W.cellsFrom_some _ _ _ (.inl q)⟩
  refine codeAny_call_function hr.depth (KX _ _ lk) rfl S.co S.gen rfl
    (PySem.W.codeRec_of KX hcd) (hb _ _ _ _ ?_)
  refine wpAny_newFunctionEnv_cells S.kind kinds ?_
  intro env he s1 x
  subst he
  refine ⟨(e0.mod.nolimit.keeps inB).keeps x.toInCall.keep, codeAny_func ?_⟩
  obtain ⟨t, ht, hq⟩ := hbody A outer s H vs Q E hgd (hr.deeper _) hsp
  have I := inv_start (CX := CX) (E := E) S hr.hd e0 hlen rv x
  refine wpAny_mono (ht.run [] s1 (start N vs) H _ I hq) ?_ (fun _ _ z => z)
  intro fl s' hs
  cases fl with
  | ret u =>
    obtain ⟨v, σ', H', J, r', q⟩ := hs
    exact ⟨v, H', J.os, J.bare, J.base, J.hok, r', q⟩
  | next =>
    obtain ⟨σ', H', J, q⟩ := hs
    exact ⟨.non, H', J.os, J.bare, J.base, J.hok, rfl, q⟩
  | brk => exact hs.elim fun _ z => z.elim fun _ z => z.2.elim
  | cont => exact hs.elim fun _ z => z.elim fun _ z => z.2.elim

/-- as Fun.ok -/
theorem okG {x qual : Str} {st : Stmt} {N : List Str} (F : Fun K x qual st f fd)
    (S : FnScope N ps (defScope st)) (len : ∀ vs H Q E, sp vs H Q E → vs.length = ps.length)
    (hbody : ∀ (cdv : Value) (A : Around) (outer : List Env) (s : Shared) (H : Hp) (vs : List V)
      (Q : VK) (E : XK), A.guards = some [] →
      Room k (A.deeper (envOfC qual (defScope st) s.heap.objs.size f cdv)) → sp vs H Q E →
      ∃ t, PSs (cxOf CX0 P w K mg base N qual (defScope st) f cdv A outer s H E).nox (defBody st) t ∧
        t { nx := fun _ H' => Q .non H', rt := Q } (start N vs) H) :
    FnG P w K mg base CX0 (k + 1) f fd ps sp := by
  obtain ⟨oc, od, kV, doc, pm, an, cdv, ct, osl, rfl, lk, hcd⟩ := F.ex
  refine fng_of lk hcd S len ?_
  intro A outer s H vs Q E hgd hr hsp
  obtain ⟨t, h, q⟩ := hbody cdv A outer s H vs Q E hgd hr hsp
  exact ⟨t, h.nox, q⟩
end

section
variable {X : Cx} {CX : CXT} {k : Nat} {f : Addr} {fd : FuncData} {ps : List Str} {sp : Sp}
  {dvs : List V} {ds : List Value} {E : XK} {x : Str} {p pos : Pos} {e : Expr} {es : List Expr} {t : TA}
theorem run_g {pins : List (Addr × Obj)} {σ : L2.St} {H : Hp} {s : Shared} {Q : VK} {us : List Value}
    {vs : List V} (F : FnG X.prog X.w X.K X.mg X.base CX k f fd ps sp) (hgd : X.A.guards = some [])
    (hr : Room k X.A) (hb : Binds X.K fd ps ds) (hd : Vals dvs ds) (hx : Passes CX X E)
    (I : Inv X pins σ H s) (r : Vals vs us) (h : sp (vs ++ dvs) H Q E) :
    wpAny (model X.prog X.w) X.A (call (.ref f) us) (EP X pins σ Q) X.xe s := by
  have r2 := r.append hd
  have hl : (us ++ ds).length = ps.length := r2.length.symm.trans (F.len _ _ _ _ h)
  have c := F.go X.A X.stack s H ⟨us, []⟩ (us ++ ds) (vs ++ dvs) Q E hgd hr I.env0 (hb s us I.kIn hl) r2 h
  refine wpAny_call (codeAny_mono c ?_)
  intro r s' hq
  match r, hq with
  | .error er, hq => exact hx pins σ H s er s' I hq
  | .ok (.ret u), hq => exact I.after hq
/-- f(e, ..) -/
theorem pe_callG (F : FnG X.prog X.w X.K X.mg X.base CX k f fd ps sp) (hgd : X.A.guards = some [])
    (hr : Room k X.A) (hg : Gl X x) (hm : X.mg x = some (.ref f))
    (hk : PySem.W.keepIn X.K (.ref f) = true) (hb : Binds X.K fd ps ds) (hd : Vals dvs ds)
    (hx : Passes CX X E) (ha : PA X (e :: es) t) (hdb : (x == ("__debug__" : Str)) = false := by decide)
    (he : starEach (e :: es) X.env = (false, eval e X.env) :: starEach es X.env := by rfl)
    (hpl : (backTo pos (starEach es X.env)).any (·.1) = false := by rfl) :
    PE X (.Call (.Name x p) (e :: es) [] pos) (tCall sp dvs E t) := by
  constructor
  intro pins s σ H Q I h
  refine wpAny_Call_Name_kw (ld_glob I hg hm ?_ hdb)
  refine PySem.W.callWith_K (h₀ := X.base) I.ok.mod.kin hk ?_ he hpl
  refine thn (ha.run pos pins s σ H _ I h) ?_
  rintro us s1 ⟨vs, H1, I1, r, q⟩
  exact ⟨I1.kIn, run_g F hgd hr hb hd hx I1 r q⟩
end
end Q
set_option Elab.async false
set_option linter.all false
set_option maxRecDepth 100000
set_option maxHeartbeats 4000000
namespace Q
open PySem PySem.Spec PyProof.Rows L2

/-! ### the law's call, its promise under known guards -/
section
variable {P : Program} {w : World} {K : PySem.W.Frag} {mg mb : Str → Option Value} {k : Nat}
  {fa a : Addr} {fd : FuncData} {x : Str} {sp : Sp} {s₁ : Shared} {vs : List Value} {ns : List Int}
abbrev LawEnd (s₁ : Shared) : Result → Shared → Prop := fun r s' =>
  r = .ok (.ret (.bool true)) ∧ OldK s₁.heap s'.heap ∧ s'.os = s₁.os ∧ AllBare s'.gens
theorem law_core (KX : K.In s₁.heap) (hns : s₁.heap.Ns mainGlobals mg) (hb : s₁.heap.Ns builtinsNs mb)
    (hbb : ∀ x : Str, x ≠ "__name__" → mb x = bootBuiltins x) (hlim : s₁.heap.NoLimit)
    (hg : s₁.gens = #[])
    (ha : s₁.heap.get? a = some { cls := .type "list", data := .seq vs.toArray }) (hr : Room k callerA)
    (F : ∀ base : Heap, K.In base → base.Ns mainGlobals mg → FnG P w K mg base CX0 k fa fd [x] sp)
    (hbind : ∀ (s : Shared) (u : Value), BindsTo s fd ⟨[u], []⟩ [(x, u)])
    (H : Hp) (hO : Only H) (hS : sp [.ref a] H (fun v _ => v = .bl true) fun _ _ _ => False)
    (hok : HOk P w H s₁.heap) (hA : ∀ b, H b ≠ none → b = a) (hK : H a ≠ none → K.lookup a = none) :
    codeAny (model P w) callerA (.call (.ref fa) ⟨[.ref a], []⟩) (LawEnd s₁) s₁ := by
  have only_a : ∀ {b : Addr}, b ≠ a → H b = none := fun {b} ne => by
    cases q : H b with
    | none => rfl
    | some u => exact absurd (hA b (by rw [q]; exact nofun)) ne
  have dict_free : ∀ {b o es ep}, s₁.heap.get? b = some o → o.data = Data.dict es ep → H b = none := by
    intro b o es ep e d
    refine only_a ?_
    rintro rfl
    rw [ha] at e
    cases e
    cases d
  have ns_free : ∀ {b m}, s₁.heap.Ns b m → (hidT s₁.heap H).Ns b m := by
    rintro b m ⟨o, es, ep, e, d, r⟩
    exact ⟨o, es, ep, hidT_get e (dict_free e d), d, r⟩
  have k_free : ∀ {b o}, K.lookup b = some o → H b = none := by
    intro b o e
    cases q : H b with
    | none => rfl
    | some u =>
      have nn : H b ≠ none := by rw [q]; exact nofun
      cases hA b nn
      rw [hK nn] at e
      cases e
  have kin : K.In (hidT s₁.heap H) := fun b o e => hidT_get (KX b o e) (k_free e)
  obtain ⟨mc, l1, l2⟩ := hlim
  have md : Mod K mg (hidT s₁.heap H) :=
    { kin := kin, glob := ns_free hns, blt := ⟨mb, ns_free hb, hbb⟩, nolimit := ⟨mc, ns_free l1, l2⟩ }
  have e0 : Env0 P w K mg (hidT s₁.heap H) callerA [] s₁ H :=
    ⟨rfl, md, fun b o e => of_hidT e, Nat.le_of_eq (hidT_size _ _), trivial,
      fun b z => absurd (show b ∈ ([] : List Addr) from z) List.not_mem_nil, hok, .of_eq hg⟩
  have run := (F _ kin (ns_free hns)).go callerA [] s₁ H ⟨[.ref a], []⟩ [.ref a] [.ref a] _ _ rfl hr e0
    (hbind s₁ (.ref a)) (.cons rfl .nil) hS
  refine codeAny_mono run ?_
  intro r s' h
  match r, h with
  | .error e, h => exact False.elim h
  | .ok (.ret u), ⟨v, H', os, bare, un, hok', r', q⟩ =>
    subst q
    obtain rfl : u = Value.bool true := r'
    refine ⟨rfl, OldK.of_keep ?_, os, bare⟩
    intro b o e
    cases q : H b with
    | none =>
      refine un.keep b o e q (fun z => ?_) List.not_mem_nil
      exact absurd (show b ∈ ([] : List Addr) from z) List.not_mem_nil
    | some u =>
      cases hO b with
      | inl z => rw [q] at z; cases z
      | inr z =>
        obtain ⟨ob, xs, z⟩ := z
        have e2 := (hok' b _ (un.frzs b ob _ z)).1
        have e1 := (hok b _ z).1
        rw [e] at e1
        cases e1
        exact e2

theorem law_callG (KX : K.In s₁.heap) (hns : s₁.heap.Ns mainGlobals mg) (hb : s₁.heap.Ns builtinsNs mb)
    (hbb : ∀ x : Str, x ≠ "__name__" → mb x = bootBuiltins x) (hlim : s₁.heap.NoLimit)
    (hg : s₁.gens = #[])
    (ha : s₁.heap.get? a = some { cls := .type "list", data := .seq vs.toArray }) (hi : IntsAre vs ns)
    (hl : ns.length ≤ sizeLine) (hr : Room k callerA)
    (F : ∀ base : Heap, K.In base → base.Ns mainGlobals mg → FnG P w K mg base CX0 k fa fd [x] sp)
    (hbind : ∀ (s : Shared) (u : Value), BindsTo s fd ⟨[u], []⟩ [(x, u)])
    (hsp : ∀ H : Hp, Only H → SqL K H a (ns.map V.int) →
      sp [.ref a] H (fun v _ => v = .bl true) fun _ _ _ => False) :
    codeAny (model P w) callerA (.call (.ref fa) ⟨[.ref a], []⟩) (LawEnd s₁) s₁ := by
  have rv := vals_ints hi
  have lenV := hi.length
  cases hk : K.lookup a with
  | some o =>
    have e := KX a o hk
    rw [ha] at e
    cases e
    have hN : Only (fun _ => none) := fun _ => .inl rfl
    have hS : SqL K (fun _ => none) a (ns.map V.int) := by
      refine .inr ⟨_, vs.toArray, _, hk, rfl, rfl, rfl, ?_, by simpa using rv⟩
      rw [List.size_toArray, lenV]
      exact hl
    exact law_core KX hns hb hbb hlim hg ha hr F hbind _ hN (hsp _ hN hS) (fun _ _ z => nomatch z)
      (fun _ z => absurd rfl z) (fun z => absurd rfl z)
  | none =>
    let ob : Obj := { cls := .type "list", data := .seq vs.toArray }
    let H : Hp := fun b => if b = a then some (.frz ob (.lst (ns.map V.int))) else none
    have at_a : H a = some (.frz ob (.lst (ns.map V.int))) := if_pos rfl
    have off : ∀ b, b ≠ a → H b = none := fun b z => if_neg z
    have hN : Only H := fun b => by
      by_cases z : b = a
      · rw [z]; exact .inr ⟨_, _, at_a⟩
      · exact .inl (off b z)
    have hok : HOk P w H s₁.heap := fun b u e => by
      by_cases z : b = a
      · rw [z, at_a] at e
        cases e
        rw [z]
        exact ⟨ha, by rw [List.length_map]; exact hl, vs, _, rv, ha⟩
      · rw [off b z] at e
        cases e
    refine law_core KX hns hb hbb hlim hg ha hr F hbind H hN (hsp H hN (.inl (.inr ⟨ob, at_a⟩))) hok ?_ ?_
    · intro b z
      by_cases q : b = a
      · exact q
      · exact absurd (off b q) z
    · exact fun _ => hk
end

/-- the goal that the head leaves, from the law's promise -/
theorem walkG {l : PySem.W.OpenLaw} {n k : Nat} {q : Program} {loose : List Str}
    {XP : (Str → Option Value) → Heap → Prop} {YP : World → Heap → Prop} {d : DefRec}
    {K : Params → PySem.W.Frag} {sp : PySem.W.Frag → Sp} {x : Str} (hn : l.most = some n)
    (hn2 : n ≤ sizeLine) (hdf : d.params.defaults = []) (hr : Room k callerA)
    (hY : ∀ (w : World) (h : Heap), YP w h → (K w.params).In h)
    (F : ∀ (w : World) (mg : Str → Option Value) (fa : Addr) (h : Heap), (K w.params).In h →
      h.Ns mainGlobals mg → mg d.name = some (.ref fa) →
      ∃ fd : FuncData, (∀ (s : Shared) (u : Value), BindsTo s fd ⟨[u], []⟩ [(x, u)]) ∧
        ∀ base : Heap, (K w.params).In base → base.Ns mainGlobals mg →
          FnG l.prog w (K w.params) mg base CX0 k fa fd [x] (sp (K w.params)))
    (hsp : ∀ (K : PySem.W.Frag) (H : Hp) (a : Addr) (ns : List Int), ns.length ≤ n → Only H →
      SqL K H a (ns.map V.int) → sp K [.ref a] H (fun v _ => v = .bl true) fun _ _ _ => False) :
    PySem.W.WalkO q loose XP YP l.row.toRowW d [] (fun f vs => PySem.call f vs) := by
  refine Att.attach_call hn hdf ?_
  intro w s₀ s₁ mg mb fa o pm cd doc a vs ns G Y ho hd hcd hmg hobj hints hlen hg
  have KX := hY w _ Y
  obtain ⟨fd, hb, hF⟩ := F w mg fa _ KX G.T.g hmg
  exact law_callG KX G.T.g G.T.b G.T.builtins G.T.nolimit hg hobj hints (Nat.le_trans hlen hn2) hr hF hb
    (fun H hO hS => hsp _ H a ns hlen hO hS)
end Q
set_option Elab.async false
set_option linter.all false
set_option maxRecDepth 100000
set_option maxHeartbeats 4000000
namespace Q
open PySem PySem.Spec PyProof.Rows L2

/-! ### exceptions as values -/
/-- an exception of the class C at a, its own dict at d; raised or not -/
def exv (a C : Addr) (d : Option Addr) : HO :=
  .ext fun h => ∃ oe : Obj, h.get? a = some oe ∧ Zc (.ref C) d oe ∧ ∃ vs, oe.data = .fields vs
theorem exv_ok {P : Program} {w : World} {H : Hp} {h : Heap} {a C : Addr} {d : Option Addr} {oe : Obj}
    (e : h.get? a = some oe) (z : Zc (.ref C) d oe) (f : ∃ vs, oe.data = .fields vs) :
    ObjOk P w H h a (exv a C d) :=
  ⟨⟨oe, e, z, f⟩, ⟨oe, e⟩, fun _ _ ⟨o, q, r⟩ k => ⟨o, k o q, r⟩⟩
/-- the object -/
def ErrO (H : Hp) (a C : Addr) (d : Option Addr) : Prop := H a = some (exo a C d) ∨ H a = some (exv a C d)
/-- its dict -/
def ErrD (H : Hp) (d : Addr) (fs : List (Str × V)) : Prop := H d = some (exd d fs) ∨ H d = some (.xd fs)
/-- an exception of C with these attributes -/
def ErrAt (H : Hp) (a C : Addr) (fs : List (Str × V)) : Prop := ∃ d, ErrO H a C (some d) ∧ ErrD H d fs

section
variable {X : Cx} {pins : List (Addr × Obj)} {σ : L2.St} {H : Hp} {s : Shared} {a C d : Addr}
theorem ErrO.get {d : Option Addr} (I : Inv X pins σ H s) (e : ErrO H a C d) :
    ∃ oe : Obj, s.heap.get? a = some oe ∧ Zc (.ref C) d oe ∧ ∃ vs, oe.data = .fields vs := by
  rcases e with e | e
  · obtain ⟨t1, q⟩ := exo_at I.hok e
    exact ⟨_, q, ⟨rfl, rfl⟩, _, rfl⟩
  · exact (I.hok a _ e).1
theorem ErrD.get {fs : List (Str × V)} (I : Inv X pins σ H s) (e : ErrD H d fs) :
    ∃ mA, s.heap.Ns1 d mA ∧ ∀ f, RelO (fs.lookup f) (mA f) := by
  rcases e with e | e
  · exact exd_at I.hok e
  · exact I.hok d _ e
end

/-- isinstance asks an exception's class rightly, whatever its own dict -/
theorem kitx_err {K : PySem.W.Frag} {x D : Addr} {ox : Obj} {od : Option Obj} (c : ExcC K D) :
    PySem.W.KitX K (.ref x) (.ref D) (fun h => PySem.W.InstAt h x ox D od) := by
  have c1 := PySem.W.handS_kitx_exc (x := x) (ox := ox) c.hg c.hk c.hs c.hd c.ha c.hn c.ht c.hm
  refine ⟨fun _ _ _ I => I.type, ?_, ?_, ?_⟩
  · intro M h KX _
    obtain ⟨cdD, hcD, _⟩ := PySem.W.any_some c.hd
    unfold PySem.W.clsIn at hcD
    split at hcD
    · rename_i ho
      intro A' Q' E' s' k q
      unfold isType loadHead
      exact wpAny_bind (wpAny_loadPart (k _ _ (KX _ _ ho)) (wpAny_pure q))
    · cases hcD
  · intro h tp dd its n sl KX htp
    refine beq_eq_false_iff_ne.mpr fun q => ?_
    cases q
    obtain ⟨cdD, hcD, _⟩ := PySem.W.any_some c.hd
    unfold PySem.W.clsIn at hcD
    split at hcD
    · rename_i ho
      cases (KX _ _ ho).symm.trans htp
    · cases hcD
  · intro prog w A E Q s KX I h
    have isC : (PySem.W.clsIn K D).isSome = true := by
      obtain ⟨cd, hc, _⟩ := PySem.W.any_some c.hd
      rw [hc]
      rfl
    have hf : PySem.W.findObj K D od "__class__" =
        some (.bind (.builtin "getset_descriptor.__get__") (.builtin "object.__class__")) := by
      cases od with
      | none => exact PySem.W.findObj_dataN isC c.ha c.hn c.ht
      | some od => exact PySem.W.findObj_data isC c.ha c.hn c.ht
    obtain ⟨hp, g, d, t, os⟩ := s
    have L0 := I.type (M := model prog w)
    have LA := PySem.W.looks_findIn (M := model prog w) KX c.hg
    have LB := PySem.W.looks_findIn (M := model prog w) KX c.hk
    have LC := PySem.W.looks_find (M := model prog w) KX I hf
    have sub : PySem.W.Looks (model prog w) hp (isInstance (.ref x) (.type "BaseException")) true :=
      L0.andThen (PySem.W.looks_subIn KX c.hs)
    have hx0 : (false && onTheHeap (Value.builtin "BaseException.__getattribute__")) = false := rfl
    have hx2 : (Value.builtin "BaseException.__getattribute__" ==
        Value.builtin "object.__getattribute__") = false := by decide +kernel
    unfold getAttr? getAttrBy? getAttrBy
    refine wpAny_bind (wpAny_mkText (wpAny_bind (wpAny_attempt (wpAny_holding (wpAny_bind
      (L0.at (wpAny_bind (LA.at ?_))))))))
    refine PySem.W.KFB.if_not (by rw [hx2]; exact Bool.and_false _) ?_
    unfold getAttrByItsOwn hookBefore
    refine wpAny_bind ?_
    rw [if_pos (show onTheHeap (Value.ref D) = true from rfl)]
    refine LB.at (wpAny_bind (wpAny_attempt (wpAny_holding ?_)))
    unfold callGetattribute
    rw [hx0, if_neg Bool.false_ne_true]
    unfold boundAndCalled
    rw [PySem.F.excAttr_ValueError.ga.bind (.ref x)]
    refine wpAny_bind (wpAny_pure (wpAny_call (codeAny_call_builtin PySem.F.excAttr_ValueError.ga.plain
      PySem.F.entry_bexc_ga ?_)))
    refine @PySem.W.check_slot (model prog w) _ _ ⟨hp, g, d, t + 1, os⟩
      "BaseException.__getattribute__" "BaseException" "__getattribute__" (.ref x)
      [.str "__class__" t] [] _ (by decide +kernel) (by decide +kernel) sub
      (PySem.F.args_bexc_ga (.ref x) (.str "__class__" t)) ?_
    unfold Builtin.«object.__getattribute__»
    refine wpAny_bind (wpAny_of_eq (a := ((Value.ref x : Value), [Value.str "__class__" t]))
      (by first | rfl | (simp only [slotArgs]; rfl)) ?_)
    refine wpAny_bind (wpAny_pure (wpAny_bind (L0.at (wpAny_bind (LC.at (wpAny_bind (wpAny_holding
      (wpAny_call (PySem.W.class_get (s := ⟨hp, g, d, t + 1, os⟩) (ox := ox) (od := od) KX I c.hm ?_)))))))))
    refine wpAny_pure ?_
    show wpAny _ _ (handedOut (.ref D)) _ _ _
    rw [PySem.W.handedOut_of (v := .ref D) rfl]
    first
      | exact wpAny_pure (wpAny_pure h)
      | exact wpAny_pure h
      | exact wpAny_pure (wpAny_bind (wpAny_pure (wpAny_pure h)))
end Q
set_option Elab.async false
set_option linter.all false
set_option maxRecDepth 100000
set_option maxHeartbeats 4000000
namespace Q
open PySem PySem.Spec PyProof.Rows L2

/-- an exception of C, with a dict of its own or none -/
def ErrI (H : Hp) (a C : Addr) : Prop := ErrO H a C none ∨ ∃ fs, ErrAt H a C fs
theorem ErrAt.i {H : Hp} {a C : Addr} {fs : List (Str × V)} (e : ErrAt H a C fs) : ErrI H a C := .inr ⟨_, e⟩
theorem ErrO.mono {H H' : Hp} {a C : Addr} {d : Option Addr} (s : Same H H') (e : ErrO H a C d) : ErrO H' a C d :=
  e.imp (s _ _) (s _ _)
theorem ErrD.mono {H H' : Hp} {d : Addr} {fs : List (Str × V)} (s : Same H H') (e : ErrD H d fs) : ErrD H' d fs :=
  e.imp (s _ _) (s _ _)
theorem ErrAt.mono {H H' : Hp} {a C : Addr} {fs : List (Str × V)} (s : Same H H') (e : ErrAt H a C fs) :
    ErrAt H' a C fs := let ⟨d, o, q⟩ := e; ⟨d, o.mono s, q.mono s⟩
theorem ErrI.mono {H H' : Hp} {a C : Addr} (s : Same H H') (e : ErrI H a C) : ErrI H' a C :=
  e.imp (fun z => z.mono s) fun ⟨fs, z⟩ => ⟨fs, z.mono s⟩

section
variable {X : Cx} {pins : List (Addr × Obj)} {σ : L2.St} {H : Hp} {s : Shared} {a C : Addr}
theorem ErrI.inst (I : Inv X pins σ H s) (e : ErrI H a C) : ∃ oe od, PySem.W.InstAt s.heap a oe C od := by
  have nc : ∀ oe : Obj, (∃ vs, oe.data = .fields vs) → PySem.W.notCls oe = true := fun oe ⟨vs, hv⟩ => by
    unfold PySem.W.notCls
    rw [hv]
  rcases e with e | ⟨fs, d, e, ed⟩
  · obtain ⟨oe, ho, hz, hv⟩ := e.get I
    exact ⟨oe, none, ho, hz.1, nc oe hv, by rw [hz.2]; trivial⟩
  · obtain ⟨oe, ho, hz, hv⟩ := e.get I
    obtain ⟨mA, hn, _⟩ := ed.get I
    obtain ⟨od, hd, _⟩ := lookIn_ns hn
    exact ⟨oe, some od, ho, hz.1, nc oe hv, by rw [hz.2]; exact hd⟩
end

section
variable {X : Cx}
/-- isinstance of an exception -/
def rIsE (K : PySem.W.Frag) : List V → Hp → VK → Prop := fun xs H Q =>
  ∃ (a C : Addr) (c : V) (u : Value) (b : Bool), xs = [.ref a, c] ∧ ClsV c u ∧
    ErrI H a C ∧ ExcC K C ∧ PySem.W.kitOne K (.ref C) u = some b ∧ Q (.bl b) H
theorem call_isE : CallR X (.builtin "isinstance") (rIsE X.K) := by
  intro pins s σ H xs us Q I r h
  obtain ⟨a, C, c, u, b, rfl, k, eo, ec, e, q⟩ := h
  obtain ⟨u1, u2, rfl, r1, r2⟩ := vals2 r
  cases k.eq r2
  obtain rfl : u1 = Value.ref a := r1
  obtain ⟨oe, od, J⟩ := eo.inst I
  exact PySem.W.kia_one (kitx_err (ox := oe) (od := od) ec) I.kIn J e (fun z => nomatch z)
    (fun tk => ⟨.bl b, H, I.tok tk, rfl, q⟩)
/-- of any value -/
def rIsA (K : PySem.W.Frag) : List V → Hp → VK → Prop := fun xs H Q => rIsi K xs H Q ∨ rIsE K xs H Q
theorem call_isA : CallR X (.builtin "isinstance") (rIsA X.K) := by
  intro pins s σ H xs us Q I r h
  cases h with
  | inl h => exact call_isi pins s σ H xs us Q I r h
  | inr h => exact call_isE pins s σ H xs us Q I r h

/-- e.f of an exception -/
def tErrF (K : PySem.W.Frag) (f : Str) (te : TE) : TE := fun σ H Q => te σ H fun x H1 =>
  ∃ (a C : Addr) (fs : List (Str × V)) (v : V), x = .ref a ∧ ErrAt H1 a C fs ∧ ExcC K C ∧
    PySem.W.findIn K (.ref C) f = some none ∧ fs.lookup f = some v ∧ Q v H1
theorem pe_errf {e : Expr} {te : TE} {f : Str} {pos : Pos} (he : PE X e te)
    (hb : attributeBase e f X.env (eval e X.env) = eval e X.env := by rfl) :
    PE X (.Attribute e f pos) (tErrF X.K f te) := by
  constructor
  intro pins s σ H Q I h
  refine attr_of hb (thn (he.run pins s σ H _ I h) ?_)
  rintro u s1 ⟨x, H1, I1, rx, a, C, fs, v, rfl, ⟨d, eo, ed⟩, ec, hno, l, q⟩
  obtain rfl : u = Value.ref a := rx
  obtain ⟨oe, ho, hz, vs, hv⟩ := eo.get I1
  obtain ⟨mA, hns, hr⟩ := ed.get I1
  obtain ⟨od, hod, hl⟩ := lookIn_ns hns
  have hrf := hr f
  rw [l] at hrf
  obtain ⟨u, hu, ru⟩ := RelO.some_of hrf
  have J : PySem.W.InstAt s1.heap a oe C (some od) :=
    ⟨ho, hz.1, by unfold PySem.W.notCls; rw [hv], by rw [hz.2]; exact hod⟩
  have hf : PySem.W.findObj X.K C (some od) f = some (.value u) :=
    PySem.W.findObj_own ec.hd hno rfl (by rw [hl, hu])
  exact HandSPX.exc_get I1.kIn J ec.hg ec.hk ec.hs hf (handed_of ru) ⟨v, H1, I1.tok _, ru, q⟩

/-- C(e, ..), an own exception class with its own __init__, as a value -/
def tMkV (C : Addr) (sp : Sp) (dvs : List V) (ta : TA) : TE := fun σ H Q => ta σ H fun vs H1 =>
  vs.length ≤ 1000 ∧ ∀ a, H1 a = none → sp (.ref a :: (vs ++ dvs)) (upd H1 a (exo a C none))
    (fun v H2 => v = .non ∧ Q (.ref a) H2) (fun _ _ _ => False)
theorem pe_mkv {CX : CXT} {x : Str} {C fI : Addr} {k : Nat} {fd : FuncData} {ps : List Str} {sp : Sp}
    {ds : List Value} {dvs : List V} {e : Expr} {es : List Expr} {ta : TA} {p pos : Pos}
    (T : OexC X.K C) (iC : PySem.W.findIn X.K (.ref C) "__init__" = some (some (.ref fI)))
    (tI : PySem.W.typeIn X.K (.ref fI) = some (.type "function"))
    (F : FnOk X.prog X.w X.K X.mg X.base CX k fI fd ps sp) (hr : Room (k + 1) X.A)
    (hb : Binds X.K fd ps ds) (hd : Vals dvs ds) (hx : Passes CX X (fun _ _ _ => False))
    (hg : Gl X x) (hm : X.mg x = some (.ref C)) (ha : PA X (e :: es) ta)
    (hdb : (x == ("__debug__" : Str)) = false := by decide)
    (he : starEach (e :: es) X.env = (false, eval e X.env) :: starEach es X.env := by rfl)
    (hpl : (backTo pos (starEach es X.env)).any (·.1) = false := by rfl) :
    PE X (.Call (.Name x p) (e :: es) [] pos) (tMkV C sp dvs ta) := by
  constructor
  intro pins s σ H Q I h
  obtain ⟨nm, q, N, bs, bm, sn, sub, ab, col, dd, k0, k1, k2, k3, k5, hC, hbm⟩ := T.cls
  refine wpAny_Call_Name_kw (ld_glob I hg hm ?_ hdb)
  refine PySem.W.callWith_K (h₀ := X.base) I.ok.mod.kin T.kC ?_ he hpl
  refine thn (ha.run pos pins s σ H _ I h) ?_
  rintro us s1 ⟨vs, H1, I1, r1, hz, q1⟩
  refine ⟨I1.kIn, ?_⟩
  show wpAny _ _ (call (.ref C) us) _ _ _
  obtain ⟨hp, g, dr, tk, os⟩ := s1
  let a := hp.objs.size + 1
  let h2 : Heap := (hp.push (PySem.W.kdv_tup us)).push (PySem.HandSPX.excO C hp.objs.size)
  have hn : H1 a = none := I1.hok.fresh (Nat.le_succ _)
  have kk : ∀ b o, hp.get? b = some o → h2.get? b = some o := fun b o e =>
    Heap.get?_push_of_some _ (Heap.get?_push_of_some _ e)
  have hget : h2.get? a = some (PySem.HandSPX.excO C hp.objs.size) := by
    show ((hp.push _).push _).get? (hp.objs.size + 1) = _
    heap_get
  have I2 : Inv X pins σ (upd H1 a (exo a C none)) ⟨h2, g, dr, tk, os⟩ :=
    I1.laid (t' := tk) (a := a) (o := exo a C none) (h' := h2) kk (Nat.le_succ _) (exo_ok hget)
  have r2 : Vals (V.ref a :: (vs ++ dvs)) (Value.ref a :: (us ++ ds)) := .cons rfl (r1.append hd)
  have hq := q1 a hn
  have hl : (Value.ref a :: us ++ ds).length = ps.length := r2.length.symm.trans (F.len _ _ _ _ hq)
  have hus : us.length ≤ sizeLine := by
    rw [← Paired.length r1, sizeLine_eq]
    omega
  have run := F.run _ X.stack _ _ ⟨Value.ref a :: us, []⟩ (Value.ref a :: (us ++ ds)) _ _
    (fun _ _ _ => False) (hr.make C us []) (I2.env0.make C us [])
    (hb _ (Value.ref a :: us) I2.kIn hl) r2 hq
  refine wpAny_call (PySem.HandSPX.call_own PySem.F.excBase_ValueError
    (fun Y => PySem.HandSPX.refsVE_contains Y bm hbm) (I1.kIn _ _ hC)
    (PySem.W.looks_findIn I1.kIn iC) (fun self => PySem.W.bind_fn I1.kIn self tI) hus
    (codeAny_mono run ?_))
  intro r s' hq'
  match r, hq' with
  | .error er, hq' => exact hx pins σ _ _ er s' I2 hq'
  | .ok (.ret u), hq' =>
    obtain ⟨v, H2, J, rv, ev, q2⟩ := I2.after hq'
    subst ev
    exact ⟨rv, .ref a, H2, J, rfl, q2⟩
/-- C(), a class without its own __init__ -/
def tMk0 (C : Addr) : TE := fun _ H Q => ∀ a, H a = none → Q (.ref a) (upd H a (exv a C none))
theorem pe_mk0 {C : Addr} {bmB : List Value} {B newId initId : String} {x : Str} {p pos : Pos}
    (F : ExcBaseFacts B newId initId bmB) (q : PySem.W.excIn X.K C bmB newId = true)
    (gC : X.mg x = some (.ref C)) (kC : PySem.W.keepIn X.K (.ref C) = true) (hg : Gl X x)
    (hdb : (x == ("__debug__" : Str)) = false := by decide) :
    PE X (.Call (.Name x p) [] [] pos) (tMk0 C) := by
  constructor
  intro pins s σ H Q I h
  refine wpAny_Call_Name_kw (ld_glob I hg gC ?_ hdb)
  refine PySem.W.callWith_K0 I.kIn kC ?_
  show wpAny _ _ (call (.ref C) []) _ _ _
  obtain ⟨bm, N, nm, qn, bs, hdct, sn, sub, ab, col, dd, k0, k1, k2, k3, k5, mN, hC, hN, hni, T⟩ :=
    exc_obj I.kIn q
  refine wpAny_call_exc_subT F T hC hN hni ?_ (Nat.zero_le _)
  intro h' a hm
  have hn : H a = none := I.hok.gone hm.new
  obtain ⟨t, ht, _, _⟩ := hm.there
  exact ⟨.ref a, upd H a (exv a C none), I.laidN hm.keeps hm.new hn
    (exv_ok ht ⟨rfl, rfl⟩ ⟨_, rfl⟩), rfl, h a hn⟩
end
end Q
set_option Elab.async false
set_option linter.all false
set_option maxRecDepth 100000
set_option maxHeartbeats 4000000
namespace Q
open PySem PySem.Spec PyProof.Rows L2

/-! ### data in the heap, with dicts, and how repr writes it -/
mutual
inductive Rk (h : Heap) : Value → PyData → Prop
  | none : Rk h .none .none
  | bool (b : Bool) : Rk h (.bool b) (.bool b)
  | int (i : Int) (t : Tok) : Rk h (.int i t) (.int i)
  | str (x : Str) (t : Tok) : Rk h (.str x t) (.str x)
  | list {a : Addr} {o : Obj} {vs : Array Value} {n : Nat} {xs : List PyData} : h.get? a = some o →
      o.cls = .type "list" → o.data = .seq vs n → RkAll h vs.toList xs → Rk h (.ref a) (.list xs)
  | tuple {a : Addr} {o : Obj} {vs : Array Value} {n : Nat} {xs : List PyData} : h.get? a = some o →
      o.cls = .type "tuple" → o.data = .seq vs n → RkAll h vs.toList xs → Rk h (.ref a) (.tuple xs)
  | dict {a : Addr} {o : Obj} {es : Array DictEntry} {n : Nat} {kvs : List (PyData × PyData)} :
      h.get? a = some o → o.cls = .type "dict" → o.data = .dict es n → (a == sysModules) = false →
      RkAll h (es.toList.map (·.key)) (kvs.map (·.1)) → RkAll h (es.toList.map (·.val)) (kvs.map (·.2)) →
      Rk h (.ref a) (.dict kvs)
inductive RkAll (h : Heap) : List Value → List PyData → Prop
  | nil : RkAll h [] []
  | cons {v : Value} {vs : List Value} {d : PyData} {ds : List PyData} : Rk h v d → RkAll h vs ds →
      RkAll h (v :: vs) (d :: ds)
end
mutual
theorem Rk.reads {h : Heap} : ∀ {v : Value} {d : PyData}, Rk h v d → ∃ as, Reads h v d as
  | _, _, .none => ⟨_, .none⟩
  | _, _, .bool b => ⟨_, .bool b⟩
  | _, _, .int i t => ⟨_, .int i t⟩
  | _, _, .str x t => ⟨_, .str x t⟩
  | _, _, .list h1 h2 h3 h4 => let ⟨_, r⟩ := RkAll.reads h4; ⟨_, .list h1 h2 h3 r⟩
  | _, _, .tuple h1 h2 h3 h4 => let ⟨_, r⟩ := RkAll.reads h4; ⟨_, .tuple h1 h2 h3 r⟩
  | _, _, .dict h1 h2 h3 _ h4 h5 =>
    let ⟨_, r⟩ := RkAll.reads h4
    let ⟨_, q⟩ := RkAll.reads h5
    ⟨_, .dict h1 h2 h3 r q⟩
theorem RkAll.reads {h : Heap} : ∀ {v : List Value} {d : List PyData}, RkAll h v d → ∃ as, ReadsAll h v d as
  | _, _, .nil => ⟨_, .nil⟩
  | _, _, .cons a b =>
    let ⟨_, r⟩ := Rk.reads a
    let ⟨_, q⟩ := RkAll.reads b
    ⟨_, .cons r q⟩
end

section
variable {prog : Program} {w : World} {h₀ : Heap}
abbrev LenOk (x : Str) : Prop := x.length ≤ sizeLine
theorem lt_depth {n m : Nat} (e : m = n + 1) : n < m := by omega
mutual
theorem rk_shown : ∀ {v : Value} {d : PyData}, Rk h₀ v d → d.showable = true → LenOk d.shown →
    ∃ bs, ReadAtMost h₀ d.depth bs ∧ ReprK prog w bs h₀ d.depth v d.shown
  | _, _, .none, _, _ => ⟨[], nofun, by simp only [PyData.shown]; exact .of_is ReprIs.none _ _ _⟩
  | _, _, .bool b, _, _ => ⟨[], nofun, by simp only [PyData.shown]; exact .of_is (ReprIs.bool b) _ _ _⟩
  | _, _, .int i t, hs, _ => by
    have z : i.natAbs.log2 < 1920 := by simpa [PyData.showable] using hs
    exact ⟨[], nofun, by simp only [PyData.shown]; exact .of_is (ReprIs.int t z) _ _ _⟩
  | _, _, .str x t, _, hz => by
    simp only [PyData.shown] at hz ⊢
    exact ⟨[], nofun, .of_is (ReprIs.str x t hz) _ _ _⟩
  | _, _, .list (a := a) (vs := vs) (xs := xs) h1 h2 h3 h4, hs, hz => by
    have r : Rk h₀ (.ref a) (.list xs) := .list h1 h2 h3 h4
    obtain ⟨as, r⟩ := r.reads
    simp only [PyData.shown, PyData.showable] at hz hs
    obtain ⟨bs, hb, hk⟩ := rk_all h4 hs (fun t m => Nat.le_trans (listText_mem_le m) hz)
    have hna : a ∉ bs := not_mem_of_deeper r (lt_depth (by simp only [PyData.depth])) hb
    refine ⟨a :: bs, ReadAtMost.cons r (by simp only [PyData.depth]; omega) hb, ?_⟩
    simp only [PyData.depth, PyData.shown]
    obtain ⟨l⟩ := vs
    match l, h3, h4, hk with
    | [], h3, h4, _ =>
      cases (show RkAll h₀ [] xs from h4)
      simp only [PyData.shownAll, listText_nil]
      exact ReprK.listEmpty h1 h2 h3
    | x :: l, h3, h4, hk =>
      exact ReprK.list h1 h2 h3 hna (by simpa using hk.length_eq) (fun i y e => hk.item i y (by simpa using e))
  | _, _, .tuple (a := a) (xs := xs) h1 h2 h3 h4, hs, hz => by
    have r : Rk h₀ (.ref a) (.tuple xs) := .tuple h1 h2 h3 h4
    obtain ⟨as, r⟩ := r.reads
    simp only [PyData.shown, PyData.showable] at hz hs
    obtain ⟨bs, hb, hk⟩ := rk_all h4 hs (fun t m => Nat.le_trans (tupleText_mem_le m) hz)
    have hna : a ∉ bs := not_mem_of_deeper r (lt_depth (by simp only [PyData.depth])) hb
    refine ⟨a :: bs, ReadAtMost.cons r (by simp only [PyData.depth]; omega) hb, ?_⟩
    simp only [PyData.depth, PyData.shown]
    exact ReprK.tuple h1 h2 h3 hna hk
  | _, _, .dict (a := a) (es := es) (kvs := kvs) h1 h2 h3 hm h4 h5, hs, hz => by
    have r : Rk h₀ (.ref a) (.dict kvs) := .dict h1 h2 h3 hm h4 h5
    obtain ⟨as, r⟩ := r.reads
    simp only [PyData.shown, PyData.showable] at hz hs
    obtain ⟨s1, s2⟩ := PyData.showableKv_split kvs hs
    have le : ∀ p ∈ PyData.shownKv kvs, p.length ≤ sizeLine := fun p m => Nat.le_trans (dictText_mem_le m) hz
    obtain ⟨b1, hb1, k1⟩ := rk_all h4 s1 (fun t m =>
      let ⟨p, hp, hl⟩ := PyData.shownKv_key_le kvs t m; Nat.le_trans hl (le p hp))
    obtain ⟨b2, hb2, k2⟩ := rk_all h5 s2 (fun t m =>
      let ⟨p, hp, hl⟩ := PyData.shownKv_val_le kvs t m; Nat.le_trans hl (le p hp))
    have hb := (hb1.mono (PyData.depthAll_keys_le kvs)).append (hb2.mono (PyData.depthAll_vals_le kvs))
    have hna : a ∉ b1 ++ b2 := not_mem_of_deeper r (lt_depth (by simp only [PyData.depth])) hb
    refine ⟨a :: (b1 ++ b2), ReadAtMost.cons r (by simp only [PyData.depth]; omega) hb, ?_⟩
    simp only [PyData.depth, PyData.shown, PyData.shownKv_eq]
    have e1 := k1.more_le (fun b hb => List.mem_append_left b2 hb) (PyData.depthAll_keys_le kvs)
    have e2 := k2.more_le (fun b hb => List.mem_append_right b1 hb) (PyData.depthAll_vals_le kvs)
    exact ReprK.dict h1 h2 h3 hm hna (ReprEntriesK.of_two es.toList _ _ e1 e2)
theorem rk_all : ∀ {vs : List Value} {ds : List PyData}, RkAll h₀ vs ds → PyData.showableAll ds = true →
    (∀ t ∈ PyData.shownAll ds, LenOk t) → ∃ bs, ReadAtMost h₀ (PyData.depthAll ds) bs ∧
      ReprAllK prog w bs h₀ (PyData.depthAll ds) vs (PyData.shownAll ds)
  | _, _, .nil, _, _ => ⟨[], nofun, by simp only [PyData.shownAll]; exact .nil⟩
  | _, _, .cons (d := d) (ds := ds) r rs, hs, hz => by
    simp only [PyData.showableAll, Bool.and_eq_true] at hs
    simp only [PyData.shownAll] at hz ⊢
    obtain ⟨b1, hb1, k1⟩ := rk_shown r hs.1 (hz _ (List.mem_cons_self ..))
    obtain ⟨b2, hb2, k2⟩ := rk_all rs hs.2 (fun t m => hz t (List.mem_cons_of_mem _ m))
    simp only [PyData.depthAll]
    refine ⟨b1 ++ b2, (hb1.mono (Nat.le_max_left _ _)).append (hb2.mono (Nat.le_max_right _ _)), ?_⟩
    have e1 := (k1.more fun b hb => List.mem_append_left b2 hb).level_le (Nat.le_max_left d.depth (PyData.depthAll ds))
    exact .cons e1 (k2.more_le (fun b hb => List.mem_append_right b1 hb) (Nat.le_max_right _ _))
end

/-- repr(v) of data, no display under way -/
theorem repr_rk {A : Around} {E : Value → Shared → Prop} {s : Shared} {Q : Value → Shared → Prop} {v : Value}
    {d : PyData} (r : Rk s.heap v d) (hs : d.showable = true) (hz : LenOk d.shown) (hg : A.guards = some [])
    (hu : A.units + (d.depth + 1) < cLine)
    (hQ : ∀ h' u tk, (∀ b o, s.heap.get? b = some o → h'.get? b = some o) →
      Q (.str d.shown u) { s with heap := h', toks := tk }) :
    wpAny (model prog w) A (call (.builtin "repr") [v]) Q E s := by
  have same : ∀ u tk, Q (.str d.shown u) { s with toks := tk } := fun u tk => hQ s.heap u tk fun _ _ e => e
  have in1 : A.in1.guards = some [] := hg
  have un1 : ∀ n, A.units + (n + 1 + 1) < cLine → A.in1.units + (n + 1) < cLine := fun n z => by
    show A.units + 1 + (n + 1) < cLine
    omega
  cases r with
  | none =>
    simp only [PyData.shown] at same
    exact PySem.P.repr_of_none (same _ _)
  | bool b =>
    simp only [PyData.shown] at same
    exact PySem.P.repr_of_bool (same _ _)
  | int i t =>
    simp only [PyData.shown] at same
    exact PySem.P.repr_of_int (by simpa [PyData.showable] using hs) (same _ _)
  | str x t =>
    simp only [PyData.shown] at same hz
    exact PySem.P.repr_of_str (same _ _) hz
  | list h1 h2 h3 h4 =>
    rename_i a o vs n xs
    simp only [PyData.shown, PyData.showable, PyData.depth] at hz hs hu hQ same
    obtain ⟨as, rr⟩ := (Rk.list h1 h2 h3 h4).reads
    obtain ⟨bs, hb, hk⟩ := rk_all (prog := prog) (w := w) h4 hs (fun t m => Nat.le_trans (listText_mem_le m) hz)
    have hna : a ∉ bs := not_mem_of_deeper rr (lt_depth (by simp only [PyData.depth])) hb
    refine call_repr_slot (by omega) ⟨o, h1, h2⟩ PySem.F.slot_list_repr.toG ?_
    obtain ⟨l⟩ := vs
    match l, h3, h4, hk with
    | [], h3, h4, _ =>
      cases (show RkAll s.heap [] xs from h4)
      simp only [PyData.shownAll, listText_nil] at same
      exact call_list_repr_empty ⟨o, h1, h2⟩ h1 h3 ⟨_, _, rfl, same _ _⟩
    | x :: l, h3, h4, hk =>
      exact call_list_reprK h1 h2 h3 hna (by simpa using hk.length_eq)
        (fun i y e => hk.item i y (by simpa using e)) in1 (fun b _ => Clear.nil b) (un1 _ hu) (fun _ _ e => e)
        (fun h' u tk k => ⟨_, _, rfl, hQ h' u tk k⟩) hz
  | tuple h1 h2 h3 h4 =>
    rename_i a o vs n xs
    simp only [PyData.shown, PyData.showable, PyData.depth] at hz hs hu hQ same
    obtain ⟨as, rr⟩ := (Rk.tuple h1 h2 h3 h4).reads
    obtain ⟨bs, hb, hk⟩ := rk_all (prog := prog) (w := w) h4 hs (fun t m => Nat.le_trans (tupleText_mem_le m) hz)
    have hna : a ∉ bs := not_mem_of_deeper rr (lt_depth (by simp only [PyData.depth])) hb
    refine call_repr_slot (by omega) ⟨o, h1, h2⟩ PySem.F.slot_tuple_repr ?_
    exact call_tuple_reprK h1 h2 h3 hna hk in1 (fun b _ => Clear.nil b) (un1 _ hu) (fun _ _ e => e)
      (fun h' u tk k => ⟨_, _, rfl, hQ h' u tk k⟩) hz
  | dict h1 h2 h3 hm h4 h5 =>
    rename_i a o es n kvs
    simp only [PyData.shown, PyData.showable, PyData.depth] at hz hs hu hQ same
    obtain ⟨as, rr⟩ := (Rk.dict h1 h2 h3 hm h4 h5).reads
    obtain ⟨s1, s2⟩ := PyData.showableKv_split kvs hs
    have le : ∀ p ∈ PyData.shownKv kvs, p.length ≤ sizeLine := fun p m => Nat.le_trans (dictText_mem_le m) hz
    obtain ⟨b1, hb1, k1⟩ := rk_all (prog := prog) (w := w) h4 s1 (fun t m =>
      let ⟨p, hp, hl⟩ := PyData.shownKv_key_le kvs t m; Nat.le_trans hl (le p hp))
    obtain ⟨b2, hb2, k2⟩ := rk_all (prog := prog) (w := w) h5 s2 (fun t m =>
      let ⟨p, hp, hl⟩ := PyData.shownKv_val_le kvs t m; Nat.le_trans hl (le p hp))
    have hb := (hb1.mono (PyData.depthAll_keys_le kvs)).append (hb2.mono (PyData.depthAll_vals_le kvs))
    have hna : a ∉ b1 ++ b2 := not_mem_of_deeper rr (lt_depth (by simp only [PyData.depth])) hb
    have e1 := k1.more_le (fun b hb => List.mem_append_left b2 hb) (PyData.depthAll_keys_le kvs)
    have e2 := k2.more_le (fun b hb => List.mem_append_right b1 hb) (PyData.depthAll_vals_le kvs)
    refine call_repr_slot (by omega) ⟨o, h1, h2⟩ PySem.F.slot_dict_repr ?_
    rw [PyData.shownKv_eq] at hz
    simp only [PyData.shownKv_eq] at hQ
    exact call_dict_reprK h1 h2 h3 hm hna (ReprEntriesK.of_two es.toList _ _ e1 e2) in1
      (fun b _ => Clear.nil b) (un1 _ hu) (fun _ _ e => e) (fun h' u tk k => ⟨_, _, rfl, hQ h' u tk k⟩) hz
end

/-! ### the same over the abstract heap -/
def keyD : Key → PyData
  | .inl i => .int i
  | .inr x => .str x
mutual
inductive Dd (K : PySem.W.Frag) (H : Hp) : V → PyData → Prop
  | non : Dd K H .non .none
  | bl (b : Bool) : Dd K H (.bl b) (.bool b)
  | int (i : Int) : Dd K H (.int i) (.int i)
  | str (x : Str) : Dd K H (.str x) (.str x)
  | lst {a : Addr} {xs : List V} {ds : List PyData} : SqL K H a xs → DdAll K H xs ds → Dd K H (.ref a) (.list ds)
  | tup {a : Addr} {xs : List V} {ds : List PyData} : SqT K H a xs → DdAll K H xs ds → Dd K H (.ref a) (.tuple ds)
  | dic {a : Addr} {kvs : List (Key × V)} {ps : List (PyData × PyData)} : H a = some (.dK kvs) →
      ps.map (·.1) = kvs.map (fun p => keyD p.1) → DdAll K H (kvs.map (·.2)) (ps.map (·.2)) → Dd K H (.ref a) (.dict ps)
inductive DdAll (K : PySem.W.Frag) (H : Hp) : List V → List PyData → Prop
  | nil : DdAll K H [] []
  | cons {v : V} {vs : List V} {d : PyData} {ds : List PyData} : Dd K H v d → DdAll K H vs ds →
      DdAll K H (v :: vs) (d :: ds)
end
section
variable {X : Cx} {pins : List (Addr × Obj)} {σ : L2.St} {H : Hp} {s : Shared}
theorem keys_rk {h : Heap} : ∀ {kvs : List (Key × V)} {vs : List (Key × Value)} {es : List DictEntry},
    KV kvs vs → Pairs (mixKind X.prog X.w) es vs → RkAll h (es.map (·.key)) (kvs.map fun p => keyD p.1)
  | _, _, _, .nil, .nil => .nil
  | (k, _) :: _, (k', _) :: _, e :: _, .cons hk r, .cons he _ q => by
    obtain ⟨e1, _⟩ := hk
    dsimp only at e1
    subst e1
    refine .cons ?_ (keys_rk r q)
    rcases keyIs_shape he with ⟨i, t, rfl, e2⟩ | ⟨x, t, rfl, e2⟩
    · show Rk h e.key (.int i)
      rw [e2]; exact .int i t
    · show Rk h e.key (.str x)
      rw [e2]; exact .str x t
theorem vals_of {kvs : List (Key × V)} : ∀ {vs : List (Key × Value)} {es : List DictEntry},
    KV kvs vs → Pairs (mixKind X.prog X.w) es vs → Vals (kvs.map (·.2)) (es.map (·.val)) := by
  induction kvs with
  | nil =>
    intro vs es r q
    cases r
    cases q
    exact .nil
  | cons p kvs ih =>
    intro vs es r q
    cases r with
    | cons hk r =>
      cases q with
      | cons _ hv q => exact .cons (by dsimp only; rw [hv]; exact hk.2) (ih r q)
mutual
theorem Dd.rk (I : Inv X pins σ H s) : ∀ {d : PyData} {v : V} {u : Value}, Dd X.K H v d → RelV v u → Rk s.heap u d
  | .none, _, _, .non, r => by cases r; exact .none
  | .bool b, _, _, .bl _, r => by cases r; exact .bool b
  | .int i, _, _, .int _, r => by obtain ⟨t, rfl⟩ := r; exact .int i t
  | .str x, _, _, .str _, r => by obtain ⟨t, rfl⟩ := r; exact .str x t
  | .list ds, _, _, .lst hs ha, r => by
    cases r
    obtain ⟨its, rv, ⟨o, n, ho, hc, _, hd⟩, _⟩ := I.list hs
    exact .list ho hc hd (DdAll.rk I ha rv)
  | .tuple ds, _, _, .tup hs ha, r => by
    cases r
    obtain ⟨its, rv, ⟨o, ho, hc, n, hd⟩, _⟩ := I.tuple hs
    exact .tuple ho hc hd (DdAll.rk I ha rv)
  | .dict ps, _, _, .dic hs hk ha, r => by
    cases r
    obtain ⟨_, hm, vs, kv, o, es, ep, ho, hx, hd, _, hp, _⟩ := I.hok _ _ hs
    refine .dict ho hx.1 hd hm ?_ ?_
    · rw [hk]
      exact keys_rk (X := X) kv hp
    · exact DdAll.rk I ha (vals_of (X := X) kv hp)
theorem DdAll.rk (I : Inv X pins σ H s) : ∀ {ds : List PyData} {vs : List V} {us : List Value},
    DdAll X.K H vs ds → Vals vs us → RkAll s.heap us ds
  | [], _, _, .nil, r => by cases r; exact .nil
  | _ :: _, _, _, .cons h1 h2, r => by
    cases r with
    | cons r1 r2 => exact .cons (Dd.rk I h1 r1) (DdAll.rk I h2 r2)
end
/-- data stays where nothing tracked is changed -/
theorem SqT.same {K : PySem.W.Frag} {H H' : Hp} {a : Addr} {xs : List V} (s : Same H H') (h : SqT K H a xs) :
    SqT K H' a xs := by
  rcases h with (h | ⟨o, h⟩) | h
  · exact .inl (.inl (s _ _ h))
  · exact .inl (.inr ⟨o, s _ _ h⟩)
  · exact .inr h
mutual
theorem Dd.same {K : PySem.W.Frag} {H H' : Hp} (s : Same H H') : ∀ {d : PyData} {v : V}, Dd K H v d → Dd K H' v d
  | _, _, .non => .non
  | _, _, .bl b => .bl b
  | _, _, .int i => .int i
  | _, _, .str x => .str x
  | _, _, .lst h a => .lst (s.seq h) (DdAll.same s a)
  | _, _, .tup h a => .tup (SqT.same s h) (DdAll.same s a)
  | _, _, .dic h k a => .dic (s _ _ h) k (DdAll.same s a)
theorem DdAll.same {K : PySem.W.Frag} {H H' : Hp} (s : Same H H') : ∀ {d : List PyData} {v : List V},
    DdAll K H v d → DdAll K H' v d
  | _, _, .nil => .nil
  | _, _, .cons a b => .cons (Dd.same s a) (DdAll.same s b)
end
/-- what repr can write here -/
structure Shows (d : PyData) : Prop where
  ok : d.showable = true
  len : d.shown.length ≤ sizeLine
  dp : d.depth ≤ 100
/-- repr(x), x data -/
def rRepr (K : PySem.W.Frag) : List V → Hp → VK → Prop := fun xs H Q =>
  ∃ (x : V) (d : PyData), xs = [x] ∧ Dd K H x d ∧ Shows d ∧ Q (.str d.shown) H
theorem call_repr {k : Nat} (hg : X.A.guards = some []) (hr : Room k X.A) :
    CallR X (.builtin "repr") (rRepr X.K) := by
  intro pins s σ H xs us Q I r h
  obtain ⟨x, d, rfl, hd, ⟨h1, h2, h3⟩, q⟩ := h
  obtain ⟨u, rfl, ru⟩ := vals1 r
  have hu : X.A.units + (d.depth + 1) < cLine := by
    have := hr.un
    omega
  exact repr_rk (hd.rk I ru) h1 h2 hg hu fun h' u tk k => ⟨.str d.shown, H, I.kept k, ⟨u, rfl⟩, q⟩
end
end Q
set_option Elab.async false
set_option linter.all false
set_option maxRecDepth 100000
set_option maxHeartbeats 4000000
namespace Q
open PySem PySem.Spec PyProof.Rows L2

section
variable {X : Cx} {pins : List (Addr × Obj)} {σ : L2.St} {H : Hp} {s : Shared} {a : Addr} {o : HO}
/-- an object of this def's own making, so far untracked, is tracked from here on -/
theorem Inv.track (I : Inv X pins σ H s) (n : H a = none) (n0 : X.s_0.heap.get? a = none)
    (nL : a ≠ X.env.locals) (nC : ∀ x c, X.env.cells.lookup x = some c → c ≠ a)
    (nP : ∀ p ∈ X.pn ++ pins, p.1 ≠ a) (new : ObjOk X.prog X.w (upd H a o) s.heap a o) :
    Inv X pins σ (upd H a o) s := by
  have ne0 : ∀ {b ob}, X.s_0.heap.get? b = some ob → b ≠ a := fun e z => by rw [z, n0] at e; cases e
  have neH : ∀ {b u}, H b = some u → b ≠ a := fun e => ne_of_none e n
  obtain ⟨k1, k2, k3, k4, k5, k6, k7⟩ := I.base
  refine ⟨I.ok, I.os, I.bare, ⟨k1, k2, ?_, k4, ?_, ?_, ?_⟩, I.loc, I.cell, ?_, ?_, ?_, ?_, I.len⟩
  · intro b ob e z hx
    rw [upd_ne (ne0 e)]
    exact k3 b ob e z hx
  · intro b xs e
    rw [upd_ne (neH (k5 b xs e))]
    exact k5 b xs e
  · intro b ob u e
    rw [upd_ne (neH (k6 b ob u e))]
    exact k6 b ob u e
  · intro b ps e
    obtain ⟨more, q⟩ := k7 b ps e
    exact ⟨more, by rw [upd_ne (neH q)]; exact q⟩
  · rw [upd_ne (Ne.symm nL)]
    exact I.free
  · intro x c e
    rw [upd_ne (nC x c e)]
    exact I.freeC x c e
  · intro p hp
    obtain ⟨q1, q2, q3⟩ := I.pin p hp
    exact ⟨q1, by rw [upd_ne (nP p hp)]; exact q2, q3⟩
  · intro b u e
    by_cases z : b = a
    · subst z
      rw [upd_same] at e
      cases e
      exact new
    · rw [upd_ne z] at e
      refine (I.hok b u e).stay (fun _ _ _ q => q) (fun c q => ?_) (fun c xs q => ?_)
      · rw [upd_ne (neH q)]
        exact q
      · rw [upd_ne (neH q)]
        exact q
end

/-- what 'except x as n: ..' wishes, the exception kept behind the suite -/
def wKeep (K : PySem.W.Frag) (c : Value) (i : Nat) (ts : Addr → Value → Option Addr → TS) (Wout : WX)
    (D : Ends) : WX := fun cls d σ H =>
  ∃ b, PySem.W.exmOne K cls c = some b ∧
    (b = true → ∃ C, cls = .ref C ∧ ∀ a, H a = none → ts a cls d
      { nx := fun σ' H' => D.nx (σ'.set i none) (upd H' a (exv a C d)),
        rt := fun v H' => D.rt v (upd H' a (exv a C d)) } (σ.set i (some (.ref a))) H) ∧
    (b = false → Wout cls d σ H)
section
variable {X : Cx} {x n : Str} {c : Value} {i : Nat} {body suite : List Stmt} {b₀ : Stmt}
  {np pos pos' : Pos} {tb : WX → TS} {ts : Addr → Value → Option Addr → TS} {Wout : WX}
theorem ps_try_keep (hs : X.stack = X.env :: X.outer) (hf : X.env.frame = some X.env.locals)
    (hex : X.ex = []) (hN : X.N.Nodup) (hi : X.N[i]? = some n) (hln : X.env.kindOf n = some .local)
    (hc : Names X x c) (tk : Takes X Wout)
    (hb : ∀ (W : WX) (pn : List (Addr × Obj)) (xe : Value → Shared → Prop), Takes (X.tr pn xe) W →
      PassesOwn (model X.prog X.w) X.A X.env xe → PSs (X.tr pn xe) body (tb W))
    (hsu : ∀ (a : Addr) (oe : Obj) (cls : Value) (d : Option Addr) (pn : List (Addr × Obj)),
      Zc cls d oe → (∃ vs, oe.data = .fields vs) → PSs (X.suite a ((a, oe) :: pn)) (b₀ :: suite) (ts a cls d)) :
    PS X (.Try body [.ExceptHandler (some (.Name x np)) (some n) (b₀ :: suite) pos'] [] [] pos)
      (fun D σ H => tb (wKeep X.K c i ts Wout D) D σ H) := by
  constructor
  intro pins s σ H D I h
  have ok := I.ok
  have hfr : X.A.frames = some (X.env :: X.outer) := ok.frames.trans (by rw [hs])
  refine wpAny_Try_except ?_
  have run := (hb (wKeep X.K c i ts Wout D) (X.pn ++ pins)
    (fun e s₁ => wpAny (model X.prog X.w) X.A (noteFrame e X.env)
      (fun _ s₂ => wpAny (model X.prog X.w) X.A (setFlight e none)
        (fun _ s₃ => wpAny (model X.prog X.w) X.A
          (handleBy e X.env [.ExceptHandler (some (.Name x np)) (some n) (b₀ :: suite) pos'])
          (SP X pins D) X.xe s₃) X.xe s₂) X.xe s₁) ?caught PassesOwn.looking).run [] s σ H D (I.toTry _) h
  case caught =>
    rintro u s' ⟨a, B, sI, pins', σ', H', cls, d, rfl, J', nb, up, sky, na, os, ag, b, hb1, hyes, hno⟩
    have J : Inv X pins σ' H' sI := J'.ofTry ok
    rw [show (X.tr (X.pn ++ pins) _).stack = X.env :: X.outer from hs] at sky
    show wpAny (model X.prog X.w) X.A (noteFrame (.ref a) X.env) _ _ _
    refine Sky.land Zc.steady hfr hf sky ?_
    intro h3 fl3 up3
    have J3 : Inv X pins σ' H' { s' with heap := h3 } := J.landed nb fl3.1 (up.trans up3) os ag
    obtain ⟨oe3, vs3, he3, hz3, hd3⟩ := fl3.there
    have nfr : a ∉ frs (X.env :: X.outer) := by
      intro hm
      obtain ⟨_, ob, e', hnf⟩ := fl3.2.2.1.mem hm
      rw [he3] at e'
      cases e'
      exact hnf _ hd3
    have nL : a ≠ X.env.locals := fun z => nfr (List.mem_filterMap.mpr ⟨X.env, List.mem_cons_self, hf.trans (by rw [z])⟩)
    have nF : a ∉ X.fs := by
      intro hm
      obtain ⟨e, he, q⟩ := List.mem_filterMap.mp hm
      exact nfr (List.mem_filterMap.mpr ⟨e, List.mem_cons_of_mem _ he, q⟩)
    -- the exception was not there before
    have nB : B.get? a = none := by
      have z := fl3
      exact z.2.1
    have inI : ∀ {e ob}, sI.heap.get? e = some ob → e ∉ frs (X.env :: X.outer) → e ≠ a := by
      rintro e ob q nq rfl
      have q2 := nb e ob q (by show e ∉ frs X.stack; rw [hs]; exact nq)
      rw [nB] at q2
      cases q2
    have n0 : X.s_0.heap.get? a = none := by
      cases q : X.s_0.heap.get? a with
      | none => rfl
      | some ob =>
        obtain ⟨ob2, q2⟩ := J.base.there a ob q (by rw [hex]; exact List.not_mem_nil)
        exact absurd rfl (inI q2 nfr)
    have nP : ∀ p ∈ X.pn ++ pins, p.1 ≠ a := by
      intro p hp
      obtain ⟨q1, _, q3, q4, _⟩ := J.pin p hp
      refine inI q1 ?_
      intro hm
      obtain ⟨e, he, q⟩ := List.mem_filterMap.mp hm
      rcases List.mem_cons.mp he with z | z
      · rw [z, hf] at q
        exact q3 (Option.some.inj q).symm
      · exact q4 (List.mem_filterMap.mpr ⟨e, z, q⟩)
    have S3 := J3.suite he3 hd3 na nL nF
    refine wpAny_handleBy_cons (codeAny_handlers_test ?_) nofun
    have LT : PySem.W.Looks (model X.prog X.w) h3 (typeOf (.ref a)) cls :=
      fun A Q E s k q => wpAny_typeOf_ref (k _ _ he3) (by rw [hz3.1]; exact q)
    have LM := PySem.W.exm_one (M := model X.prog X.w) (J3.kIn) LT hb1
    have test : ∀ {Q : Value → Shared → Prop} {E : Value → Shared → Prop}, Q c { s' with heap := h3 } →
        wpAny (model X.prog X.w) (X.A.mark (some (.ref a))) (eval (.Name x np) X.env) Q E { s' with heap := h3 } := by
      intro Q E q
      obtain ⟨hg, hdbg, hm⟩ := hc
      rcases hm with hm | ⟨hm, hv, hnn⟩
      · exact ld_glob (X := X.suite a ((a, oe3) :: (X.pn ++ pins))) S3 hg hm q hdbg
      · exact ld_blt (X := X.suite a ((a, oe3) :: (X.pn ++ pins))) S3 hg hm hv q hnn hdbg
    refine test (LM.here ?_)
    cases b with
    | true =>
      obtain ⟨C, ec, hyes⟩ := hyes rfl
      subst ec
      refine codeAny_handlers_suite_as (HandSPX.lands_againZ fl3 ?_)
      intro h4 fl4 up4
      have J4 : Inv X pins σ' H' { s' with heap := h4 } := J.landed nb fl4.1 ((up.trans up3).trans up4) os ag
      obtain ⟨oe4, vs4, he4, hz4, hd4⟩ := fl4.there
      have S4 := J4.suite he4 hd4 na nL nF
      refine store_ok (X := X.suite a ((a, oe4) :: (X.pn ++ pins))) (v := .ref a) S4 hN hi (.inl hln) rfl ?_ (.inr hln)
      intro s5 S5
      have suiteRun := (hsu a oe4 (.ref C) d (X.pn ++ pins) hz4 ⟨_, hd4⟩).run [] s5 _ H' _ S5 (hyes a na)
      refine wpAny_mono suiteRun ?_ (fun _ _ z => False.elim z)
      intro f s6 hsp
      have fin : ∀ {σ6 : L2.St} {H6 : Hp} {Q : Shared → Prop},
          Inv (X.suite a ((a, oe4) :: (X.pn ++ pins))) [] σ6 H6 s6 →
          (∀ s7, Inv X pins (σ6.set i none) (upd H6 a (exv a C d)) s7 → Q s7) →
          wpAny (model X.prog X.w) X.A (do bindName X.env n .none; unbindBehindTheSuite X.env n pos')
            (fun _ s7 => Q s7) X.xe s6 := by
        intro σ6 H6 Q S6 hq
        obtain ⟨g1, g2, _⟩ := S6.pin (a, oe4) (List.mem_append.mpr (.inl List.mem_cons_self))
        have U := S6.unsuite ok
        have nC : ∀ y e, X.env.cells.lookup y = some e → e ≠ a := by
          rintro y e q rfl
          obtain ⟨v, ob, q1, q2⟩ := U.cell y e q
          have g1' : s6.heap.get? e = some oe4 := g1
          rw [q1] at g1'
          cases g1'
          rw [hd4] at q2
          cases q2
        have V := Inv.track (o := exv a C d) U g2 n0 nL nC nP (exv_ok g1 hz4 ⟨_, hd4⟩)
        exact gone_ok V hN hi hln hq
      match f, hsp with
      | .next, ⟨σ6, H6, S6, q6⟩ => exact fin S6 fun s7 J7 => ⟨_, _, J7, q6⟩
      | .brk, ⟨σ6, H6, S6, q6⟩ => exact False.elim q6
      | .cont, ⟨σ6, H6, S6, q6⟩ => exact False.elim q6
      | .ret u, ⟨v6, σ6, H6, S6, r6, q6⟩ => exact fin S6 fun s7 J7 => ⟨_, _, _, J7, r6, q6⟩
    | false =>
      show wpAny _ X.A (handleBy (.ref a) X.env []) _ _ _
      refine wpAny_handleBy_nil ?_
      obtain ⟨k1, k2, k3, oe, vs, TT, oT, ts', he, hz, hd, h1, hr⟩ := id fl3
      unfold PySem.passOn
      refine wpAny_bind (wpAny_field he hd h1 ?_)
      rw [if_neg (show ¬ ((Value.ref TT == Value.none) = true) from by simp)]
      have out : wpAny (model X.prog X.w) X.A (setFlight (.ref a) X.env.frame)
          (fun _ s4 => wpAny (model X.prog X.w) X.A (throw (.ref a) : Sem Flow) (SP X pins D) X.xe s4)
          X.xe { s' with heap := h3 } := by
        rw [hf]
        refine HandSPX.setFlight_upZ fl3 ?_
        intro h4 hh4 up4
        refine wpAny_throw (tk _ _ ?_)
        have sky4 : Sky B X.stack a (Zc cls d) X.env.locals h4 := .inr (.inr (by rw [hs]; exact hh4))
        exact ⟨a, B, sI, pins, σ', H', cls, d, rfl, J, nb, (up.trans up3).trans up4, sky4, na, os, ag, hno rfl⟩
      first
        | exact wpAny_bind (wpAny_pure (wpAny_bind out))
        | exact wpAny_bind out
  refine wpAny_mono run ?_ (fun e s1 he => he)
  intro f s1 hsp
  match f, hsp with
  | .next, ⟨σ', H', J', q⟩ => exact wpAny_execs_nil ⟨σ', H', J'.ofTry ok, q⟩
  | .brk, ⟨σ', H', J', q⟩ => exact ⟨σ', H', J'.ofTry ok, q⟩
  | .cont, ⟨σ', H', J', q⟩ => exact ⟨σ', H', J'.ofTry ok, q⟩
  | .ret u, ⟨v, σ', H', J', r, q⟩ => exact ⟨v, σ', H', J'.ofTry ok, r, q⟩
end
/-- repr(e) -/
theorem pe_repr {X : Cx} {k : Nat} {e : Expr} {te : TE} {p pos : Pos} (hgd : X.A.guards = some [])
    (hr : Room k X.A) (hm : X.mg "repr" = none) (ha : PE X e te) (hg : Gl X "repr" := by rfl)
    (h1 : starEach [e] X.env = (false, eval e X.env) :: starEach [] X.env := by rfl)
    (h2 : (backTo pos (starEach [] X.env)).any (·.1) = false := by rfl) :
    PE X (.Call (.Name "repr" p) [e] [] pos) (tCB (rRepr X.K) (tCons te tNil)) :=
  pe_callB (call_repr hgd hr) hg hm (by decide +kernel) (pa_cons ha pa_nil h1) (by decide) (by decide) h1 h2
end Q
set_option Elab.async false
set_option linter.all false
set_option maxRecDepth 100000
set_option maxHeartbeats 4000000
namespace Q
open PySem PySem.Spec PyProof.Rows L2

/-! sets made from lists, whatever the items are: the shell -/
def noneYet (w : World) : Obj :=
  { cls := .type "set"
    dict := none
    data := .set #[] 0 (.fresh 0 0 (!w.params.followText "set-order")) }
def walker (l : Addr) : Obj :=
  { cls := .type "list_iterator"
    data := .fields #[.ref l, .int 0 0] }
/-- the heap at which the items begin to come -/
def laidTwo (w : World) (h : Heap) (l : Addr) : Heap := (h.push (noneYet w)).push (walker l)

section
variable {P : Program} {w : World} {A : Around} {E : Value → Shared → Prop} {s : Shared}

theorem laid_set (h : Heap) (l : Addr) : (laidTwo w h l).get? h.objs.size = some (noneYet w) :=
  Heap.get?_push_of_some _ (Heap.get?_push_size _ rfl)
theorem laid_old {h : Heap} {l b : Addr} {o : Obj} (e : h.get? b = some o) : (laidTwo w h l).get? b = some o :=
  Heap.get?_push_of_some _ (Heap.get?_push_of_some _ e)

set_option maxRecDepth 100000 in
set_option maxHeartbeats 3200000 in
theorem set_shell {l : Addr} {items : Array Value} {Q : Value → Shared → Prop} (Post : Heap → Prop) (hl : s.heap.IsList l items)
    (loop : codeAny (model P w) A.in1.in1 (.builtin "set.update.loop" ⟨[.ref s.heap.objs.size, .ref (s.heap.push (noneYet w)).objs.size], []⟩)
      (fun r z => r = .ok (.ret .none) ∧ z.gens = s.gens ∧ z.drawn = s.drawn ∧ z.os = s.os ∧ Post z.heap) { s with heap := laidTwo w s.heap l })
    (next : ∀ (h' : Heap) (tk : Nat), Post h' → Q (.ref s.heap.objs.size) { s with heap := h', toks := tk }) :
    wpAny (model P w) A (call (.type "set") [.ref l]) Q E s := by
  obtain ⟨mroHead, mroTail, ofMro⟩ := F.called_set.mro
  have g1 := F.called_set.made
  have g2 := F.called_set.sub
  refine wpAny_call (codeAny_of_tree ?_)
  show wpAny _ _ (callAny (.type "set") _) _ _ _
  refine wpAny_pure ⟨Code.quiet_builtin _ (by decide +kernel), codeAny_builtin F.entry_type_call ?_⟩
  rw [Around.under_plain (weight_type_call_type "set" [.ref l] []) rfl]
  have g3 := F.called_set.notType
  have g4 := F.called_set.canCreate
  have g5 := F.typeCall_set_1 (.ref l)
  repeat (any_goals (first | assumption | wp_step))
  refine codeAny_mono (code_set_led1 (.ref l) (E := E) (Q₁ := fun v z => v = .ref s.heap.objs.size ∧ z = { s with heap := s.heap.push (noneYet w) }) ⟨rfl, rfl⟩) fun r z hz => ?_
  cases r with
  | error e => exact hz
  | ok fl =>
    cases fl with
    | ret v =>
      obtain ⟨rfl, rfl⟩ := hz
      have at1 : (s.heap.push (noneYet w)).get? s.heap.objs.size = some (noneYet w) := Heap.get?_push_size _ rfl
      have isSet : Shared.TypeIs { s with heap := s.heap.push (noneYet w) } (.ref s.heap.objs.size) "set" := ⟨_, at1, rfl⟩
      have g6 := F.called_set.init.lookup
      have g7 := F.called_set.init.bind (.ref s.heap.objs.size)
      repeat (any_goals (first | assumption | wp_step))
      refine codeAny_mono (codeAny_call_builtin (R := wants (fun r z => r = .none ∧ ∃ h' tk, z = { s with heap := h', toks := tk } ∧ Post h') E)
        F.called_set.init.plain F.entry_set_init (check_set_init_1 isSet ?_)) fun r z hz => ?_
      · obtain ⟨⟨lcls, ldict, ldata, lslots⟩, lat, lc, ln, ld⟩ := hl
        simp only at lc ld
        subst lc
        subst ld
        have lat1 : (s.heap.push (noneYet w)).get? l = some { cls := .type "list", dict := ldict, data := .seq items ln, slots := lslots } := Heap.get?_push_of_some _ lat
        have lis1 : (s.heap.push (noneYet w)).IsList l items := ⟨_, lat1, rfl, ln, rfl⟩
        have g8 := F.sub_list_set
        have g9 := F.sub_list_frozenset
        have g10 : (Value.type "list" == Value.type "dict") = false := by decide
        unfold Builtin.«set.__init__» noKeywords Builtin.Frozenset.updateFrom
        generalize hold : pyIter = PI
        wp_walk
        subst hold
        refine wpAny_pyIter_list lis1 ?_
        refine wpAny_bind (wpAny_runValue ?_)
        refine codeAny_mono loop fun r z hz => ?_
        obtain ⟨rfl, e1, e2, e3, hp⟩ := hz
        obtain ⟨zh, zg, zd, zt, zo⟩ := z
        dsimp only at e1 e2 e3 hp
        subst e1; subst e2; subst e3
        show wpAny _ _ _ _ _ _
        refine wpAny_pure ?_
        show wpAny _ _ (ret Value.none) _ _ _
        exact wpAny_pure ⟨rfl, zh, zt, rfl, hp⟩
      · cases r with
        | error e => exact hz
        | ok fl =>
          cases fl with
          | ret v =>
            obtain ⟨rfl, h', tk, rfl, hp⟩ := hz
            repeat (any_goals (first | assumption | wp_step))
            exact next _ _ hp
          | _ => exact hz.elim
    | _ => exact hz.elim
end
end Q
set_option Elab.async false
set_option linter.all false
set_option maxRecDepth 100000
set_option maxHeartbeats 4000000
namespace Q
open PySem PySem.Spec PyProof.Rows L2 PySem.W

/-! sorted(..) of a set whose members read as data -/
theorem each_perm {β : Type} {R : Value → β → Prop} {us vs : List Value} (p : vs.Perm us) : ∀ {bs : List β}, EachIs R us bs → ∃ cs : List β, cs.Perm bs ∧ EachIs R vs cs := by
  induction p with
  | nil => intro bs e; cases e; exact ⟨[], .nil, .nil⟩
  | cons x _ ih =>
    intro bs e
    cases e with
    | cons h t =>
      obtain ⟨cs, q, r⟩ := ih t
      exact ⟨_ :: cs, .cons _ q, .cons h r⟩
  | swap x y l =>
    intro bs e
    cases e with
    | cons h t =>
      cases t with
      | cons h2 t2 => exact ⟨_, .swap _ _ _, .cons h2 (.cons h t2)⟩
  | trans _ _ ih1 ih2 =>
    intro bs e
    obtain ⟨cs, q, r⟩ := ih2 e
    obtain ⟨ds, q2, r2⟩ := ih1 r
    exact ⟨ds, q2.trans q, r2⟩

/-- the set at a: its members are, in some order, the values us -/
def Members (w : World) (h : Heap) (a : Addr) (us : List Value) : Prop :=
  ∃ es ep t, SetAt h a es ep t ∧ (es.toList.map (·.2)).Perm us ∧ t.fits es.size = true ∧ es.size < scanBound ∧ Ris t.place.toList ∧
    (w.params.followText "set-order" = true ∨ t.led = true)
theorem Members.at {w : World} {h h' : Heap} {a : Addr} {us : List Value} (m : Members w h a us) (k : ∀ o, h.get? a = some o → h'.get? a = some o) : Members w h' a us := by
  obtain ⟨es, ep, t, sa, r⟩ := m
  exact ⟨es, ep, t, sa.at k, r⟩
theorem Members.ob {w : World} {h : Heap} {a : Addr} {us : List Value} (m : Members w h a us) : ∃ o, h.get? a = some o := by
  obtain ⟨es, ep, t, ⟨o, e, _⟩, _⟩ := m
  exact ⟨o, e⟩

section
variable {P : Program} {w : World} {A : Around} {E : Value → Shared → Prop} {s : Shared}
theorem sorted_members {β : Type} {R : Value → β → Prop} {enc : β → PyData} {a : Addr} {us : List Value} {bs : List β} {Q : Value → Shared → Prop}
    (m : Members w s.heap a us) (hh : A.handled = none) (e : EachIs (fun v b => R v b ∧ Reads s.heap v (enc b) []) us bs)
    (hal : ∀ cs : List β, cs.Perm bs → AllAlike (cs.map enc)) (hk : ∀ cs : List β, cs.Perm bs → Sortable (cs.map enc))
    (hu : ∀ b, b ∈ bs → A.units + 2 + (enc b).depth < cLine)
    (next : ∀ z p (out : Array Value) (c : Nat) (cs : List β), (∀ b o, s.heap.get? b = some o → z.heap.get? b = some o) → z.gens = s.gens → z.os = s.os → s.heap.objs.size ≤ p →
      z.heap.get? p = some (seqObj "list" out c) → cs.Perm bs → EachIs R out.toList (cs.mergeSort (dataLe false enc)) → Q (.ref p) z) :
    wpAny (model P w) A (call (.builtin "sorted") [.ref a]) Q E s := by
  obtain ⟨es, ep, t, sa, pm, hf, hb, hr, hl⟩ := m
  have lu : us.length = bs.length := e.length
  have le : us.length < scanBound := by
    rw [← pm.length_eq, List.length_map, Array.length_toList]
    exact hb
  refine Calls.call_function_entry kind_sorted plain_sorted entry_sorted (args_sorted1 _) ?_
  unfold Builtin.«sorted»
  refine wpAny_bind (m := checkCount "sorted" 1 1 _) (wpAny_pure ?_)
  refine wpAny_bind (collect_set (A := A.in1) hh sa hf hb hr hl fun s1 vs k1 hz g1 o1 q1 => ?_)
  have pv : vs.Perm us := q1.trans pm
  obtain ⟨cs, pc, ec⟩ := each_perm pv e
  have lv : vs.length = us.length := pv.length_eq
  have big : scanBound ≤ sizeLine := Nat.le_of_lt_succ (by rw [sizeLine_eq]; decide)
  refine wpAny_bind (wpAny_newList ?_ (by omega))
  have fresh : (s1.heap.push (seqObj "list" vs.toArray 0)).get? s1.heap.objs.size = some (seqObj "list" vs.toArray 0) := Heap.get?_push_size _ rfl
  have kept : ∀ b o, s.heap.get? b = some o → (s1.heap.push (seqObj "list" vs.toArray 0)).get? b = some o := fun b o q => Heap.get?_push_of_some _ (k1 b o q)
  refine wpAny_bind (wpAny_holding (list_sort_data (A := A.in1) (s := { s1 with heap := s1.heap.push (seqObj "list" vs.toArray 0) }) (vs := vs) (bs := cs) (enc := enc) (R := R) fresh
    (ec.mono fun _ _ q => q.1) (ec.mono fun _ _ q => ⟨[], PyProof.Rows.Reads.keeps kept q.2, by simp⟩) (hal cs pc) (hk cs pc) ?_ (fun b hb => ?_) fun out lo eo => ?_))
  · rw [pc.length_eq]
    omega
  · have q := hu b (pc.mem_iff.mp hb)
    show (A.units + 1) + 1 + (enc b).depth < cLine
    omega
  · obtain ⟨c, hc⟩ := sortedHeap_at (vs := vs) (out := out.toArray) fresh
    refine wpAny_pure ⟨_, rfl, next _ s1.heap.objs.size out.toArray c cs (fun b o q => ?_) g1 o1 hz hc pc (by simpa using eo)⟩
    have q2 := k1 b o q
    have lt := Heap.lt_size q2
    show (sortedHeap (s1.heap.push (seqObj "list" vs.toArray 0)) s1.heap.objs.size vs out.toArray).get? b = some o
    rw [sortedHeap_old (Nat.ne_of_lt lt) (by rw [size_push']; exact Nat.lt_succ_of_lt lt)]
    exact Heap.get?_push_of_some _ q2
end
end Q
set_option Elab.async false
set_option linter.all false
set_option maxRecDepth 100000
set_option maxHeartbeats 4000000
namespace Q
open PySem PySem.Spec PyProof.Rows L2

/-! sets of tuples whose items are texts and whole numbers; only new members come -/
theorem range_back {α : Type} : ∀ l : List α, (List.range l.length).filterMap (fun i => l[i]?) = l
  | [] => rfl
  | x :: l => by
    have ih := range_back l
    rw [List.length_cons, List.range_succ_eq_map, List.filterMap_cons_some (b := x) (by rfl), List.filterMap_map]
    congr 1
theorem reorder {α : Type} (es : Array α) (order : Array Nat) (f : α → Int) (p : order.toList.Perm (List.range es.size)) :
    ((order.filterMap (es[·]?)).toList).Perm es.toList ∧ (order.filterMap (es[·]?)).toList.map f = order.toList.map fun i => (es.map f).getD i 0 := by
  have e0 : (order.filterMap (es[·]?)).toList = order.toList.filterMap fun i => es.toList[i]? := by simp
  rw [e0]
  constructor
  · have q := p.filterMap fun i => es.toList[i]?
    have q2 := range_back es.toList
    rw [Array.length_toList] at q2
    rw [q2] at q
    exact q
  · have inside : ∀ i ∈ order.toList, i < es.size := fun i hi => List.mem_range.mp (p.mem_iff.mp hi)
    clear p e0
    generalize order.toList = l at inside
    induction l with
    | nil => rfl
    | cons i l ih =>
      have hi : i < es.size := inside i List.mem_cons_self
      have e1 : es.toList[i]? = some es[i] := by simp [hi]
      rw [List.filterMap_cons_some (f := fun i => es.toList[i]?) e1, List.map_cons, List.map_cons, ih fun j hj => inside j (List.mem_cons_of_mem _ hj)]
      congr 1
      simp [Array.getD_eq_getD_getElem?, hi]

abbrev tkh (P : Program) (w : World) (k : List Key) : Int := tupleKeyHash (mixKind P w) k
abbrev TupAt (P : Program) (w : World) (h : Heap) (k : List Key) (b : Addr) : Prop := IsTupleKey (mixKind P w) h k b
abbrev spot (m : Nat) (x : Int) (c : Nat) : SetTable.Probe := nth m (runAt m (SetTable.bits x % (m + 1)) (SetTable.bits x)) c

theorem TupAt.mono {P : Program} {w : World} {h h' : Heap} {k : List Key} {b : Addr} (x : TupAt P w h k b) (kp : ∀ o, h.get? b = some o → h'.get? b = some o) : TupAt P w h' k b := by
  obtain ⟨o, its, n, q, r⟩ := x
  exact ⟨o, its, n, kp o q, r⟩
theorem TupAt.notSet {P : Program} {w : World} {h : Heap} {k : List Key} {a b : Addr} {o : Obj} {es : Array (Int × Value)} {ep : Nat} {t : SetTable} (x : TupAt P w h k b) (q : h.get? a = some o) (d : o.data = .set es ep t) : b ≠ a := by
  rintro rfl
  obtain ⟨o2, its, n, q2, _, d2, _⟩ := x
  rw [q] at q2
  cases q2
  rw [d] at d2
  cases d2

/-- the set at a with its table; the members are tuples that stand in the heap -/
structure Bag (P : Program) (w : World) (h : Heap) (a : Addr) (es : Array (Int × Value)) (ep : Nat) (t : SetTable) : Prop where
  ob : ∃ o, h.get? a = some o ∧ o.ExactSet ∧ o.data = .set es ep t
  tab : TabOk t (es.toList.map (·.1))
  el : ∀ e ∈ es.toList, ∃ b k, e = (tkh P w k, Value.ref b) ∧ TupAt P w h k b
  led : w.params.followText "set-order" = true ∨ t.led = true
  room : es.size * 5 < t.mask * 3
  few : es.size < 64

section
variable {P : Program} {w : World} {A : Around} {E : Value → Shared → Prop} {s : Shared} {a : Addr} {es : Array (Int × Value)} {ep : Nat} {t : SetTable}

theorem tab_fits (T : TabOk t (es.toList.map (·.1))) (hr : es.size ≤ t.mask) : t.fits es.size = true := by
  have h1 := T.sz
  rw [List.length_map, Array.length_toList] at h1
  unfold SetTable.fits SetTable.fill
  rw [T.dm, Bool.and_eq_true, beq_iff_eq, decide_eq_true_eq]
  refine ⟨h1, ?_⟩
  show t.place.size + 0 ≤ t.mask
  omega
theorem Bag.fits (R : Bag P w s.heap a es ep t) : t.fits es.size = true := tab_fits R.tab (by have := R.room; omega)

/-! what the model asks of the items -/
theorem key_class (n : Nat) {k : Key} {v : Value} (h : (mixKind P w).is k v = true) : ofAClassStatement n v = pure false := by
  rcases keyIs_shape h with ⟨i, u, rfl, rfl⟩ | ⟨x, u, rfl, rfl⟩ <;> cases n <;> rfl
theorem items_shape {ks : List Key} {vs : List Value} (h : ItemsAre (mixKind P w) ks vs) : ∀ v ∈ vs, ∃ k, (mixKind P w).is k v = true := by
  induction h with
  | nil => intro v hv; cases hv
  | cons h1 _ ih =>
    intro v hv
    rcases List.mem_cons.mp hv with rfl | hv
    · exact ⟨_, h1⟩
    · exact ih v hv
theorem key_hashBy (n : Nat) {k : Key} {v : Value} (h : (mixKind P w).is k v = true) : ∃ b, hashByValue n v = pure b := by
  rcases keyIs_shape h with ⟨i, u, rfl, rfl⟩ | ⟨x, u, rfl, rfl⟩
  · exact ⟨true, by cases n <;> rfl⟩
  · exact ⟨false, by cases n <;> rfl⟩

theorem tup_class {k : List Key} {b : Addr} {Q : Bool → Shared → Prop} (x : TupAt P w s.heap k b) (h : Q false s) : wpAny (model P w) A (ofAClassStatement 8 (.ref b)) Q E s := by
  have ty := x.typeIs
  obtain ⟨o, its, n, q, _, d, r⟩ := x
  unfold ofAClassStatement
  refine wpAny_bind (wpAny_typeOf ty ?_)
  dsimp only
  simp only [show (("tuple" : String) == "tuple") = true by decide, if_true, Bool.not_true, Bool.false_eq_true, if_false]
  try refine wpAny_bind (wpAny_pure ?_)
  try simp only [Bool.not_true, Bool.false_eq_true, if_false]
  show wpAny _ _ (seqItems? (.ref b) >>= _) _ _ s
  refine wpAny_bind (wpAny_seqItems q d ?_)
  dsimp only
  refine wpAny_bind ?_
  show wpAny _ _ (forIn its _ _) _ _ s
  rw [← Array.forIn_toList]
  refine wpAny_forIn_list _ (fun left r z => r.1 = none ∧ z = s ∧ ∀ v ∈ left, ∃ k, (mixKind P w).is k v = true) _ ?_ ?_ _ _ ⟨rfl, rfl, items_shape r⟩
  · rintro v left r z ⟨_, rfl, all⟩
    obtain ⟨k1, h1⟩ := all v List.mem_cons_self
    rw [key_class _ h1]
    refine wpAny_bind (wpAny_pure ?_)
    simp only [Bool.false_eq_true, if_false]
    exact wpAny_pure ⟨rfl, rfl, fun u hu => all u (List.mem_cons_of_mem _ hu)⟩
  · rintro ⟨r1, r2⟩ z ⟨hr, rfl, _⟩
    simp only at hr
    subst hr
    exact wpAny_pure h
theorem tup_hashBy {k : List Key} {b : Addr} {Q : Bool → Shared → Prop} (x : TupAt P w s.heap k b) (h : ∀ y, Q y s) : wpAny (model P w) A (hashByValue 8 (.ref b)) Q E s := by
  have ty := x.typeIs
  obtain ⟨o, its, n, q, _, d, r⟩ := x
  unfold hashByValue
  refine wpAny_bind (wpAny_specialOf ty F.slot_tuple_hash.lookup ?_)
  show wpAny _ _ (seqItems? (.ref b) >>= _) _ _ s
  refine wpAny_bind (wpAny_seqItems q d ?_)
  refine wpAny_bind ?_
  show wpAny _ _ (forIn its _ _) _ _ s
  rw [← Array.forIn_toList]
  refine wpAny_forIn_list _ (fun left r z => z = s ∧ (∀ v ∈ left, ∃ k, (mixKind P w).is k v = true)) _ ?_ ?_ _ _ ⟨rfl, items_shape r⟩
  · rintro v left r z ⟨rfl, all⟩
    obtain ⟨k1, h1⟩ := all v List.mem_cons_self
    obtain ⟨y, hy⟩ := key_hashBy (P := P) (w := w) 7 h1
    rw [hy]
    refine wpAny_bind (wpAny_pure ?_)
    cases y
    · simp only [Bool.not_false, if_true]
      exact wpAny_pure (by dsimp only; exact wpAny_pure (h _))
    · simp only [Bool.not_true, Bool.false_eq_true, if_false]
      exact wpAny_pure ⟨rfl, fun u hu => all u (List.mem_cons_of_mem _ hu)⟩
  · rintro ⟨r1, r2⟩ z ⟨rfl, _⟩
    cases r1
    · exact wpAny_pure (h _)
    · exact wpAny_pure (h _)
theorem tup_seen {k : List Key} {b : Addr} {Q : Bool → Shared → Prop} (x : TupAt P w s.heap k b) {ys : List Value} (hy : ∀ y ∈ ys, ∃ c k2, y = Value.ref c ∧ TupAt P w s.heap k2 c) (h : Q false s) :
    wpAny (model P w) A (searchCouldBeSeen (.ref b) ys) Q E s := by
  unfold searchCouldBeSeen
  refine wpAny_bind ?_
  refine wpAny_forIn_list _ (fun left r z => r.1 = none ∧ z = s ∧ ∀ y ∈ left, ∃ c k2, y = Value.ref c ∧ TupAt P w s.heap k2 c) _ ?_ ?_ _ _ ⟨rfl, rfl, hy⟩
  · rintro v left r z ⟨_, rfl, all⟩
    obtain ⟨c, k2, rfl, xc⟩ := all v List.mem_cons_self
    have all2 : ∀ y ∈ left, ∃ c k2, y = Value.ref c ∧ TupAt P w z.heap k2 c := fun u hu => all u (List.mem_cons_of_mem _ hu)
    dsimp only
    by_cases same : (b == c || (carriedByValue (.ref b) && carriedByValue (.ref c))) = true
    · exact wp_if_pos same (wpAny_pure ⟨rfl, rfl, all2⟩)
    · refine wp_if_neg same (wpAny_bind (wpAny_eqIsQuiet_tuple x ?_))
      simp only [Bool.not_true, Bool.false_eq_true, if_false]
      refine wpAny_bind (wpAny_eqIsQuiet_tuple xc ?_)
      simp only [Bool.not_true, Bool.false_eq_true, if_false]
      refine wpAny_bind (tup_class x ?_)
      simp only [Bool.false_eq_true, if_false]
      refine wpAny_bind (tup_class xc ?_)
      simp only [Bool.false_eq_true, if_false]
      exact wpAny_pure ⟨rfl, rfl, all2⟩
  · rintro ⟨r1, r2⟩ z ⟨hr, rfl, _⟩
    simp only at hr
    subst hr
    exact wpAny_pure h
end
end Q
set_option Elab.async false
set_option linter.all false
set_option maxRecDepth 100000
set_option maxHeartbeats 4000000
namespace Q
open PySem PySem.Spec PyProof.Rows L2
section
variable {P : Program} {w : World} {A : Around} {E : Value → Shared → Prop} {s : Shared} {a : Addr} {es : Array (Int × Value)} {ep : Nat} {t : SetTable}

theorem spot_dummy (m : Nat) (x : Int) (c : Nat) : (spot m x c).dummy = none := by
  have main : ∀ (n : Nat) (q : SetTable.Probe), q.dummy = none → (nth m q n).dummy = none := by
    intro n
    induction n with
    | zero => exact fun q h => h
    | succ n ih =>
      refine fun q h => ih (adv m q) ?_
      unfold adv
      split
      · exact h
      · exact h
  exact main c _ rfl
theorem spot_shift (m : Nat) (x : Int) (c d : Nat) : nth m (spot m x c) d = spot m x (c + d) := (nth_add m c _ d).symm

/-- a key that is not there: the search ends at the first empty slot of its way -/
theorem search_new (R : Bag P w s.heap a es ep t) {x : Addr} {k : List Key} (hx : TupAt P w s.heap k x) (hu : A.units < cLine)
    (new : ∀ e ∈ es.toList, ∀ b k2, e = (tkh P w k2, Value.ref b) → TupAt P w s.heap k2 b → k2 ≠ k) {K : Nat} (hK1 : K < 10 * SetTable.turns t.mask)
    (hK2 : (spot t.mask (tkh P w k) K).j ∉ t.place.toList) (hK3 : ∀ c, c < K → (spot t.mask (tkh P w k) c).j ∈ t.place.toList)
    {Q : SetFound → Shared → Prop} (next : Q (.free (spot t.mask (tkh P w k) K).j false) s) :
    ∀ (f c : Nat) (stand : Option SetTable.Probe), stand.getD (t.probeStart (tkh P w k)) = spot t.mask (tkh P w k) c → c ≤ K → K - c < f →
      wpAny (model P w) A (setSearchFrom a (.ref x) (tkh P w k) true f stand) Q E s := by
  obtain ⟨o, ho, hex, hd⟩ := R.ob
  intro f
  induction f with
  | zero => exact fun c stand _ _ z => absurd z (Nat.not_lt_zero _)
  | succ f ih =>
    intro c stand st hc hf
    rw [setSearchFrom_succ]
    refine wpAny_bind (wpAny_setState_of ho hd R.fits ?_)
    dsimp only
    refine wp_if_neg (by unfold SetTable.gaveWay; rw [mask_odd R.tab.mok]; decide) ?_
    try refine wpAny_bind (wpAny_pure ?_)
    have spec := go_spec t R.tab.ris R.tab.dm (fun i => (es[i]?.map (·.1)).getD 0) (tkh P w k) (10 * SetTable.turns t.mask) (K - c) (spot t.mask (tkh P w k) c) (spot_dummy _ _ _) (by omega)
      (fun d hd => by rw [spot_shift]; exact hK3 _ (by omega)) (by rw [spot_shift, Nat.add_sub_cancel' hc]; exact hK2)
    rcases spec with ⟨d, i, hd1, hi, hh, _, pr⟩ | ⟨_, pr⟩
    · rw [spot_shift] at hi
      rw [spot_shift, spot_shift] at pr
      have pr2 : t.probe (fun i => (es[i]?.map (·.1)).getD 0) (tkh P w k) (stand.getD (t.probeStart (tkh P w k))) = some (.candidate (spot t.mask (tkh P w k) (c + d)).j i (spot t.mask (tkh P w k) (c + (d + 1)))) := by
        rw [st]
        exact pr
      rw [pr2]
      dsimp only
      have il : i < es.size := by
        have q1 := (List.getElem?_eq_some_iff.mp hi).1
        have q2 := R.tab.sz
        rw [List.length_map, Array.length_toList] at q2
        rw [Array.length_toList] at q1
        omega
      have ei : es[i]? = some es[i] := Array.getElem?_eq_getElem il
      have em : es[i] ∈ es.toList := Array.getElem_mem_toList il
      obtain ⟨b, k2, e2, xb⟩ := R.el _ em
      have ne : k2 ≠ k := new _ em b k2 e2 xb
      rw [e2] at ei
      have onward : wpAny (model P w) A (searchRest a (.ref x) (tkh P w k) true f es t (spot t.mask (tkh P w k) (c + d)).j i (spot t.mask (tkh P w k) (c + (d + 1)))) Q E s := by
        unfold searchRest
        rw [ei]
        dsimp only
        refine wpAny_bind (wpAny_holding (wpAny_eqBool_tuple hu xb hx ?_))
        refine wpAny_bind (wpAny_setState_of ho hd R.fits ?_)
        dsimp only
        refine wp_if_neg (by simp [ne]) ?_
        try refine wpAny_bind (wpAny_pure ?_)
        rw [sameMem]
        dsimp only
        simp only [if_true, slot_live R.tab.ris hi, ei]
        refine wpAny_bind (wpAny_isSame_ref_self (wpAny_bind (wpAny_pure ?_)))
        simp only [if_true]
        refine wp_if_neg (by simp [ne]) ?_
        exact ih (c + (d + 1)) _ rfl (by omega) (by omega)
      by_cases hl : t.led = true
      · refine wp_if_neg (by simp [hl]) ?_
        try refine wpAny_bind (wpAny_pure ?_)
        exact onward
      · refine wp_if_pos (by simp [hl]) ?_
        refine wpAny_bind (tup_seen hx (fun y hy => ?_) ?_)
        · obtain ⟨e, he, ee⟩ := List.mem_map.mp hy
          have inE : e ∈ es.toList := by
            have z : e ∈ es ∧ e.1 = tkh P w k := by simpa using he
            simpa using z.1
          obtain ⟨b2, k3, e3, x3⟩ := R.el e inE
          exact ⟨b2, k3, by rw [← ee, e3], x3⟩
        · refine wp_if_neg (by decide) ?_
          try refine wpAny_bind (wpAny_pure ?_)
          exact onward
    · rw [spot_shift, Nat.add_sub_cancel' hc] at pr
      have pr2 : t.probe (fun i => (es[i]?.map (·.1)).getD 0) (tkh P w k) (stand.getD (t.probeStart (tkh P w k))) = some (.empty (spot t.mask (tkh P w k) K).j none) := by
        rw [st]
        exact pr
      rw [pr2]
      dsimp only
      exact wpAny_pure next

/-- the table grows -/
theorem relay_bag {o : Obj} (ho : s.heap.get? a = some o) (hex : o.ExactSet) (hd : o.data = .set es ep t) (T : TabOk t (es.toList.map (·.1))) (fit : es.size ≤ t.mask)
    (el : ∀ e ∈ es.toList, ∃ b k, e = (tkh P w k, Value.ref b) ∧ TupAt P w s.heap k b) (ld : w.params.followText "set-order" = true ∨ t.led = true) (few : es.size < 64) {n M : Nat}
    (hn1 : SetTable.sizeAbove n - 1 = M) (hM : MaskOk M) (hn2 : SetTable.sizeAbove n ≤ 128) (hn3 : es.size * 5 < M * 3) {Q : Unit → Shared → Prop}
    (next : ∀ h' es2 ep2 t2, Heap.SameBut a s.heap h' → Bag P w h' a es2 ep2 t2 → es2.toList.Perm es.toList → Q () { s with heap := h' }) : wpAny (model P w) A (setRelay a n) Q E s := by
  obtain ⟨t2, order, e, po, T2, m2, l2, _, _⟩ := relaid_ok t (hs := es.map (·.1)) (wanted := n) hn1 hM (by rw [Array.size_map]; omega)
  rw [Array.size_map] at po
  obtain ⟨r1, r2⟩ := reorder es order (·.1) po
  rw [← r2] at T2
  have z2 : (order.filterMap (es[·]?)).size = es.size := by
    have q := r1.length_eq
    rw [Array.length_toList, Array.length_toList] at q
    exact q
  rw [setRelay_eq]
  refine wpAny_bind (wpAny_setState_of ho hd (tab_fits T fit) ?_)
  dsimp only
  refine wp_if_neg (by rw [sizeLine_eq]; omega) ?_
  try refine wpAny_bind (wpAny_pure ?_)
  rw [e]
  dsimp only
  refine wpAny_bind ?_
  refine wp_if_neg (by rw [z2]; simp) ?_
  try refine wpAny_bind (wpAny_pure ?_)
  refine wpAny_pure ?_
  dsimp only
  refine wpAny_storeSet_of ho hd ?_ (by rw [z2, sizeLine_eq]; omega)
  have sb : Heap.SameBut a s.heap (s.heap.update a (Obj.putSet (order.filterMap (es[·]?)) t2)) := Heap.SameBut.update ..
  refine next _ (order.filterMap (es[·]?)) (ep + 1) t2 sb ⟨⟨_, store_at ho hd, ⟨hex.1, hex.2.1, hex.2.2⟩, rfl⟩, T2, fun e1 he => ?_, by rw [l2]; exact ld, by rw [z2, m2]; exact hn3, by rw [z2]; exact few⟩ r1
  obtain ⟨b, k, e3, x3⟩ := el e1 (r1.mem_iff.mp he)
  exact ⟨b, k, e3, x3.mono fun o2 q => (sb.2 b (x3.notSet ho hd)).trans q⟩

theorem tab_plain {hs : List Int} (T : TabOk t hs) : TabOk { t with plain := false } hs := ⟨T.ris, T.dm, T.sz, T.mok, T.bd, T.reach⟩

/-- a new tuple comes in -/
theorem add_new (R : Bag P w s.heap a es ep t) {x : Addr} {k : List Key} (hx : TupAt P w s.heap k x) (hu : A.units < cLine)
    (new : ∀ e ∈ es.toList, ∀ b k2, e = (tkh P w k2, Value.ref b) → TupAt P w s.heap k2 b → k2 ≠ k) (few : es.size + 1 < 64) {Q : Bool → Shared → Prop}
    (next : ∀ h' es2 ep2 t2, Heap.SameBut a s.heap h' → Bag P w h' a es2 ep2 t2 → es2.toList.Perm ((tkh P w k, Value.ref x) :: es.toList) → Q true { s with heap := h' }) :
    wpAny (model P w) A (setAddHashed a (.ref x) (tkh P w k)) Q E s := by
  obtain ⟨o, ho, hex, hd⟩ := R.ob
  have room := R.room
  have lh : (es.toList.map (·.1)).length = es.size := by rw [List.length_map, Array.length_toList]
  obtain ⟨K, hK1, hK2, hK3⟩ := R.tab.first (by rw [lh]; omega) (tkh P w k)
  have hK4 : K < 100000 := by
    have q : 10 * SetTable.turns t.mask ≤ 1420 := by
      unfold SetTable.turns
      rcases R.tab.mok with e | e | e <;> omega
    omega
  unfold setAddHashed
  refine wpAny_holding ?_
  rw [show (100000 : Nat) = 99999 + 1 from rfl, setAddHashedIn_succ]
  refine wpAny_bind (wpAny_setState_of ho hd R.fits ?_)
  dsimp only
  refine wp_if_neg (by simp [byScan, Value.scannable]) ?_
  try refine wpAny_bind (wpAny_pure ?_)
  unfold setSearch
  refine wpAny_bind (search_new R hx hu new hK1 hK2 hK3 ?_ 100000 0 none rfl (Nat.zero_le _) (by omega))
  dsimp only
  refine wpAny_bind (wpAny_setState_of ho hd R.fits ?_)
  dsimp only
  obtain ⟨q1, q2, q3, q4, q5, q6, q7, q8, q9⟩ := R.tab.put hK2 hK3
  rw [lh] at q2 q9
  generalize hput : t.put (spot t.mask (tkh P w k) K).j = pt at q1 q3 q4 q5 q6 q7 q8 q9 ⊢
  obtain ⟨t1, p⟩ := pt
  dsimp only at q1 q3 q4 q5 q6 q7 q8 q9 ⊢
  subst q1
  have goal2 : ∀ t2 : SetTable, t2 = t1 ∨ t2 = { t1 with plain := false } → wpAny (model P w) A (do
      storeSet a (SetTable.insertAt es (SetTable.below t.place (spot t.mask (tkh P w k) K).j) (tkh P w k, Value.ref x)) t2
      if (!false && t2.tooFull) = true then setRelay a (SetTable.grown (es.size + 1))
      return true) Q E s := fun t2 ht2 => by
    have T2 : TabOk t2 ((es.toList.map (·.1)).take (SetTable.below t.place (spot t.mask (tkh P w k) K).j) ++ tkh P w k :: (es.toList.map (·.1)).drop (SetTable.below t.place (spot t.mask (tkh P w k) K).j)) := by
      rcases ht2 with rfl | rfl
      · exact q3
      · exact tab_plain q3
    have m2 : t2.mask = t.mask := by rcases ht2 with rfl | rfl <;> exact q4
    have l2 : t2.led = t.led := by rcases ht2 with rfl | rfl <;> exact q5
    have f2 : t2.fill = es.size + 1 := by rcases ht2 with rfl | rfl <;> exact q9
    clear q3 q4 q5 q6 q7 q8 q9 ht2 hput
    generalize SetTable.below t.place (spot t.mask (tkh P w k) K).j = p at q2 T2 ⊢
    have i1 : (SetTable.insertAt es p (tkh P w k, Value.ref x)).toList = es.toList.take p ++ (tkh P w k, Value.ref x) :: es.toList.drop p := SetTable.toList_insertAt ..
    have pm : (SetTable.insertAt es p (tkh P w k, Value.ref x)).toList.Perm ((tkh P w k, Value.ref x) :: es.toList) := by
      rw [i1]
      exact put_perm _ _ _
    rw [← List.map_take, ← List.map_drop, ← List.map_cons (f := fun e : Int × Value => e.1) (a := (tkh P w k, Value.ref x)), ← List.map_append, ← i1] at T2
    generalize SetTable.insertAt es p (tkh P w k, Value.ref x) = es1 at pm T2 ⊢
    have z1 : es1.size = es.size + 1 := by
      have q := pm.length_eq
      rw [List.length_cons, Array.length_toList, Array.length_toList] at q
      exact q
    refine wpAny_bind (wpAny_storeSet_of ho hd ?_ (by rw [z1, sizeLine_eq]; omega))
    have sb : Heap.SameBut a s.heap (s.heap.update a (Obj.putSet es1 t2)) := Heap.SameBut.update ..
    have ho1 := store_at (es' := es1) (t' := t2) ho hd
    generalize s.heap.update a (Obj.putSet es1 t2) = h1 at sb ho1 ⊢
    have el1 : ∀ e ∈ es1.toList, ∃ b k, e = (tkh P w k, Value.ref b) ∧ TupAt P w h1 k b := fun e he => by
      rcases List.mem_cons.mp (pm.mem_iff.mp he) with q | q
      · exact ⟨x, k, q, hx.mono fun o2 z => (sb.2 x (hx.notSet ho hd)).trans z⟩
      · obtain ⟨b, k3, e3, x3⟩ := R.el e q
        exact ⟨b, k3, e3, x3.mono fun o2 z => (sb.2 b (x3.notSet ho hd)).trans z⟩
    have ld1 : w.params.followText "set-order" = true ∨ t2.led = true := by rw [l2]; exact R.led
    have full : t2.tooFull = decide ((es.size + 1) * 5 ≥ t.mask * 3) := by
      unfold SetTable.tooFull
      rw [f2, m2]
    by_cases hf : t2.tooFull = true
    · have big : (es.size + 1) * 5 ≥ t.mask * 3 := by
        rw [full, decide_eq_true_eq] at hf
        exact hf
      first
        | (refine wpAny_bind ?_; refine wp_if_pos (by simp [hf]) ?_)
        | (refine wp_if_pos (by simp [hf]) ?_; refine wpAny_bind ?_)
      have two : (t.mask = 7 ∧ es.size = 4) ∨ (t.mask = 31 ∧ es.size = 18) := by
        rcases R.tab.mok with e | e | e <;> rw [e] at big room <;> first | (exact .inl ⟨e, by omega⟩) | (exact .inr ⟨e, by omega⟩) | (exfalso; omega)
      have grow : ∀ M, SetTable.sizeAbove (SetTable.grown (es.size + 1)) - 1 = M → MaskOk M → SetTable.sizeAbove (SetTable.grown (es.size + 1)) ≤ 128 → (es.size + 1) * 5 < M * 3 →
          wpAny (model P w) A (setRelay a (SetTable.grown (es.size + 1))) (fun _ z => wpAny (model P w) A (pure true) Q E z) E { s with heap := h1 } := fun M c1 c2 c3 c4 => by
        refine relay_bag (s := { s with heap := h1 }) ho1 ⟨hex.1, hex.2.1, hex.2.2⟩ rfl T2 (by rw [m2, z1]; rcases two with ⟨e, e2⟩ | ⟨e, e2⟩ <;> omega) el1 ld1 (by rw [z1]; exact few) c1 c2 c3 (by rw [z1]; exact c4) ?_
        intro h2 es2 ep2 t3 sb2 R2 pm2
        exact wpAny_pure (next h2 es2 ep2 t3 (sb.trans sb2) R2 (pm2.trans pm))
      rcases two with ⟨_, e2⟩ | ⟨_, e2⟩
      · exact grow 31 (by rw [e2, size_20]) (.inr (.inl rfl)) (by rw [e2, size_20]; decide) (by omega)
      · exact grow 127 (by rw [e2, size_76]) (.inr (.inr rfl)) (by rw [e2, size_76]; decide) (by omega)
    · first
        | refine wp_if_neg (by simp [hf]) ?_
        | (refine wpAny_bind ?_; refine wp_if_neg (by simp [hf]) ?_; refine wpAny_pure ?_)
      refine wpAny_pure (next h1 es1 (ep + 1) t2 sb ⟨⟨_, ho1, ⟨hex.1, hex.2.1, hex.2.2⟩, rfl⟩, T2, el1, ld1, ?_, by rw [z1]; exact few⟩ pm)
      rw [full, decide_eq_true_eq] at hf
      rw [z1, m2]
      omega
  by_cases hp : t1.plain = true
  · first
      | (refine wpAny_bind ?_; refine wp_if_pos hp ?_; refine tup_hashBy hx fun y => ?_)
      | refine wp_if_pos hp (wpAny_bind (tup_hashBy hx fun y => ?_))
    cases y
    · exact goal2 _ (.inr rfl)
    · exact goal2 _ (.inl rfl)
  · first
      | (refine wpAny_bind ?_; refine wp_if_neg hp ?_; refine wpAny_pure ?_)
      | refine wp_if_neg hp (wpAny_bind (wpAny_pure ?_))
      | refine wp_if_neg hp ?_
    exact goal2 _ (.inl rfl)
end
end Q
set_option Elab.async false
set_option linter.all false
set_option maxRecDepth 100000
set_option maxHeartbeats 4000000
namespace Q
open PySem PySem.Spec PyProof.Rows L2
section
variable {P : Program} {w : World} {A : Around} {E : Value → Shared → Prop} {s : Shared}

/-- the loop that fills a set; J: what holds behind i items -/
theorem fill_loop {I : Addr} {fp wr : List Addr} {G : Array GenState → Array GenState → Prop} {n : Nat} {Pv : Nat → Value → Prop} {St : Nat → Shared → Prop} {R : Result → Shared → Prop}
    (W : WalksS P w A.in1 I fp wr G n Pv St) (S : Addr) (apart : S ∉ fp) (J : Nat → Heap → Prop)
    (moves : ∀ i h h', J i h → (∀ b o, b ∉ wr → h.get? b = some o → h'.get? b = some o) → J i h')
    (step : ∀ (E : Value → Shared → Prop) (i : Nat) (v : Value) (z : Shared) (Q : Bool → Shared → Prop), i < n → Pv i v → J i z.heap →
      (∀ b h' tk, z.toks ≤ tk → Heap.SameBut S z.heap h' → J (i + 1) h' → Q b { z with heap := h', toks := tk }) → wpAny (model P w) A.in1 (setAdd S v) Q E z) :
    ∀ (k i : Nat) (z : Shared), n - i = k → i ≤ n → St i z → J i z.heap → (∀ z', Moved (S :: wr) G z z' → J n z'.heap → R (.ok (.ret .none)) z') →
      codeAny (model P w) A (.builtin "set.update.loop" ⟨[.ref S, .ref I], []⟩) R z := by
  have wide : ∀ b ∈ wr, b ∈ S :: wr := fun _ q => List.mem_cons_of_mem _ q
  intro k
  induction k with
  | zero =>
    intro i z ek hi st j fin
    have ei : i = n := by omega
    subst ei
    refine codeAny_builtin F.entry_set_update_loop ?_
    rw [Around.under_plainId F.plain_set_update_loop _]
    show wpAny _ A.in1 (pyNext (.ref I) >>= _) _ _ z
    refine wpAny_bind (W.done z _ _ st fun z1 mv => ?_)
    show wpAny _ A.in1 (ret Value.none) _ _ z1
    exact wpAny_pure (fin z1 (mv.mono wide) (moves _ _ _ j fun b o nb q => mv.heap b o nb q))
  | succ k ih =>
    intro i z ek hi st j fin
    have lt : i < n := by omega
    refine codeAny_builtin F.entry_set_update_loop ?_
    rw [Around.under_plainId F.plain_set_update_loop _]
    show wpAny _ A.in1 (pyNext (.ref I) >>= _) _ _ z
    refine wpAny_bind (W.item i z _ _ lt st fun v z1 pv st1 mv => ?_)
    have j1 := moves _ _ _ j fun b o nb q => mv.heap b o nb q
    show wpAny _ A.in1 (holding [v] (setAdd S v) >>= _) _ _ z1
    refine wpAny_bind (wpAny_holding ?_)
    refine step _ i v z1 _ lt pv j1 fun b h' tk le sb j2 => ?_
    refine wpAny_pure ⟨plainId_quiet F.plain_set_update_loop _, ih (i + 1) _ (by omega) lt (W.frame _ z1 _ _ st1 le fun c hc o q => ?_) j2 fun z2 mv2 j3 => ?_⟩
    · rw [sb.2 c fun e : c = S => apart (by rw [← e]; exact hc)]
      exact q
    · refine fin z2 (Moved.trans W.gtrans ((mv.mono wide).then_heap le fun c o hc q => ?_) mv2) j3
      rw [sb.2 c fun e : c = S => hc (by rw [e]; exact List.mem_cons_self)]
      exact q

/-- a set of a list, by what each item's coming in does -/
theorem set_filled {l : Addr} {items : Array Value} {Q : Value → Shared → Prop} (J : Nat → Heap → Prop) (hh : A.handled = none) (hl : s.heap.IsList l items)
    (begin_ : J 0 (laidTwo w s.heap l))
    (moves : ∀ i h h', J i h → (∀ b o, b ≠ (s.heap.push (noneYet w)).objs.size → h.get? b = some o → h'.get? b = some o) → J i h')
    (step : ∀ (E : Value → Shared → Prop) (i : Nat) (v : Value) (z : Shared) (Q : Bool → Shared → Prop), i < items.size → items[i]? = some v → J i z.heap →
      (∀ b h' tk, z.toks ≤ tk → Heap.SameBut s.heap.objs.size z.heap h' → J (i + 1) h' → Q b { z with heap := h', toks := tk }) → wpAny (model P w) A.in1.in1.in1 (setAdd s.heap.objs.size v) Q E z)
    (next : ∀ (h' : Heap) (tk : Nat), (∀ b o, s.heap.get? b = some o → h'.get? b = some o) → J items.size h' → Q (.ref s.heap.objs.size) { s with heap := h', toks := tk }) :
    wpAny (model P w) A (call (.type "set") [.ref l]) Q E s := by
  obtain ⟨o, ho, hc, n, hd⟩ := id hl
  have ll : l < s.heap.objs.size := Heap.lt_size ho
  have z1 : (s.heap.push (noneYet w)).objs.size = s.heap.objs.size + 1 := Heap.size_push ..
  have lis1 : (s.heap.push (noneYet w)).IsList l items := ⟨o, Heap.get?_push_of_some _ ho, hc, n, hd⟩
  have h3 : A.in1.in1.in1.handled = none := by simp [hh]
  have nI : l ≠ (s.heap.push (noneYet w)).objs.size := by rw [z1]; exact Nat.ne_of_lt (Nat.lt_succ_of_lt ll)
  have apart : s.heap.objs.size ∉ [(s.heap.push (noneYet w)).objs.size, l] := by
    rw [z1]
    simp only [List.mem_cons, List.mem_singleton, List.not_mem_nil, or_false, not_or]
    exact ⟨Nat.ne_of_lt (Nat.lt_succ_self _), Nat.ne_of_gt ll⟩
  refine set_shell (fun h' => J items.size h' ∧ ∀ b o, s.heap.get? b = some o → h'.get? b = some o) hl ?_ fun h' tk q => next h' tk q.2 q.1
  refine fill_loop (A := A.in1.in1) (n := items.size) (Walks.list h3 (s.heap.push (noneYet w)).objs.size l nI items).toS s.heap.objs.size apart J
    (fun i h h' j k => moves i h h' j fun b o nb q => k b o (by simpa using nb) q) (fun E i v z Q lt pv j k => step E i v z Q lt pv j k)
    (items.size - 0) 0 _ rfl (Nat.zero_le _) ⟨⟨_, Heap.get?_push_size _ rfl, rfl, rfl⟩, lis1.push _⟩ begin_ fun z' mv j => ⟨rfl, mv.gens, mv.drawn, mv.os, j, fun b o q => ?_⟩
  have lb : b < s.heap.objs.size := Heap.lt_size q
  refine mv.heap b o ?_ (laid_old q)
  rw [z1]
  simp only [List.mem_cons, List.mem_singleton, List.not_mem_nil, or_false, not_or]
  exact ⟨Nat.ne_of_lt lb, Nat.ne_of_lt (Nat.lt_succ_of_lt lb)⟩
end
end Q
set_option Elab.async false
set_option linter.all false
set_option maxRecDepth 100000
set_option maxHeartbeats 4000000
namespace Q
open PySem PySem.Spec PyProof.Rows L2 PySem.Froz
section
variable {P : Program} {w : World} {A : Around} {E : Value → Shared → Prop} {s : Shared}

theorem addTx_more {D : SD} {x : Int} {v : Value} (r : Ris D.2.2.place.toList) :
    Ris (addTx x v D).2.2.place.toList ∧ (addTx x v D).2.2.led = D.2.2.led ∧ (addTx x v D).1.toList.Perm ((x, v) :: D.1.toList) := by
  have r1 := layNew_ris D.2.2 D.1 x v r
  have l1 := layNew_led D.2.2 D.1 x v
  have p1 := layNew_perm D.2.2 D.1 x v
  rw [Array.toList_push] at p1
  have p2 := p1.trans (List.perm_append_singleton _ _)
  unfold addTx tailTx
  generalize hT : (if (layNew D.2.2 D.1 x v).2.1.plain = true then { (layNew D.2.2 D.1 x v).2.1 with plain := false } else (layNew D.2.2 D.1 x v).2.1) = T
  have rT : Ris T.place.toList := by rw [← hT]; split <;> exact r1
  have lT : T.led = D.2.2.led := by rw [← hT]; split <;> exact l1
  split
  · exact ⟨relayAll_ris _ _ _, (relayAll_led _ _ _).trans lT, (relayAll_perm _ _ _).trans p2⟩
  · exact ⟨rT, lT, p2⟩

/-- behind i texts -/
def TxtJ (P : Program) (w : World) (S : Addr) (items : List Value) (ys : List Str) (i : Nat) (h : Heap) : Prop :=
  ∃ D : SD, h.get? S = some (sObj "set" D) ∧ TxOk P w D (ys.take i).reverse ∧ Ris D.2.2.place.toList ∧ (w.params.followText "set-order" = true ∨ D.2.2.led = true) ∧
    (D.1.toList.map (·.2)).Perm (items.take i)

theorem strs_get {vs : List Value} {ys : List Str} (r : StrsAre vs ys) : ∀ {i : Nat} {v : Value}, vs[i]? = some v → ∃ y t, ys[i]? = some y ∧ v = .str y t := by
  induction r with
  | nil => intro i v h; simp at h
  | cons y t _ ih =>
    intro i v h
    cases i with
    | zero =>
      simp at h
      exact ⟨y, t, rfl, h.symm⟩
    | succ i =>
      simp only [List.getElem?_cons_succ] at h ⊢
      exact ih h
theorem not_taken {ys : List Str} (nd : ys.Nodup) {i : Nat} {y : Str} (h : ys[i]? = some y) : y ∉ (ys.take i).reverse := by
  rw [List.mem_reverse]
  intro hm
  obtain ⟨j, hj, e⟩ := List.getElem_of_mem hm
  rw [List.length_take] at hj
  rw [List.getElem_take] at e
  obtain ⟨hi, ei⟩ := List.getElem?_eq_some_iff.mp h
  exact List.pairwise_iff_getElem.mp nd j i (by omega) hi (by omega) (by rw [e, ei])

theorem set_texts {l : Addr} {items : Array Value} {ys : List Str} {Q : Value → Shared → Prop} (hh : A.handled = none) (hl : s.heap.IsList l items) (r : StrsAre items.toList ys) (nd : ys.Nodup) (few : ys.length < 4000)
    (next : ∀ (h' : Heap) (tk : Nat), (∀ b o, s.heap.get? b = some o → h'.get? b = some o) → Members w h' s.heap.objs.size items.toList → Q (.ref s.heap.objs.size) { s with heap := h', toks := tk }) :
    wpAny (model P w) A (call (.type "set") [.ref l]) Q E s := by
  have ly : items.size = ys.length := by rw [← StrsAre.len_eq r, Array.length_toList]
  refine set_filled (TxtJ P w s.heap.objs.size items.toList ys) hh hl ?_ (fun i h h' j k => ?_) (fun E i v z Q lt pv j k => ?_) fun h' tk kp j => ?_
  · refine ⟨(#[], 0, .fresh 0 0 (!w.params.followText "set-order")), laid_set _ _, TxOk.nil (by rfl), List.Pairwise.nil, ?_, .nil⟩
    show _ ∨ (!w.params.followText "set-order") = true
    cases w.params.followText "set-order"
    · exact .inr rfl
    · exact .inl rfl
  · obtain ⟨D, e, rest⟩ := j
    refine ⟨D, k _ _ ?_ e, rest⟩
    rw [Heap.size_push]
    exact Nat.ne_of_lt (Nat.lt_succ_self _)
  · obtain ⟨D, e, tx, ri, ld, pm⟩ := j
    obtain ⟨y, t, ey, rfl⟩ := strs_get r (i := i) (v := v) (by rw [Array.getElem?_toList]; exact pv)
    unfold setAdd
    refine wpAny_holding ?_
    refine wpAny_bind ((PySem.strKind P w).pyHash (k := y) (is_str y t) ?_)
    have fresh := not_taken nd ey
    have lt2 : (ys.take i).reverse.length + 1 < scanBound := by
      rw [List.length_reverse, List.length_take]
      show _ < 4096
      omega
    refine add_x (s := { z with toks := z.toks + 1 }) e tx fresh lt2 (k true _ _ (Nat.le_succ _) (Heap.SameBut.update ..) ?_)
    obtain ⟨m1, m2, m3⟩ := addTx_more (x := hashStr w y) (v := .str y t) ri
    refine ⟨addTx (hashStr w y) (.str y t) D, get_upd _ e rfl, ?_, m1, by rw [m2]; exact ld, ?_⟩
    · have q := add_ok t tx (k := y)
      have e2 : (ys.take (i + 1)).reverse = y :: (ys.take i).reverse := by
        rw [List.take_add_one, ey]
        simp
      rw [e2]
      exact q
    · have e3 : items.toList.take (i + 1) = items.toList.take i ++ [.str y t] := by
        rw [List.take_add_one, Array.getElem?_toList, pv]
        rfl
      rw [e3]
      exact ((m3.map (·.2)).trans (List.Perm.cons _ pm)).trans (List.perm_append_singleton _ _).symm
  · obtain ⟨D, e, tx, ri, ld, pm⟩ := j
    have el : items.toList.take items.size = items.toList := List.take_of_length_le (by rw [Array.length_toList]; exact Nat.le_refl _)
    rw [el] at pm
    refine next h' tk kp ⟨D.1, D.2.1, D.2.2, ⟨_, e, rfl, rfl⟩, pm, tx.fit, ?_, ri, ld⟩
    have q := tx.sz
    rw [List.length_reverse, List.length_take] at q
    show _ < 4096
    omega

/-- behind i tuples -/
def TupJ (P : Program) (w : World) (S : Addr) (h0 : Heap) (ks : List (Addr × List Key)) (i : Nat) (h : Heap) : Prop :=
  (∀ b o, h0.get? b = some o → h.get? b = some o) ∧ ∃ es ep t, Bag P w h S es ep t ∧ es.toList.Perm ((ks.take i).map fun p => (tkh P w p.2, Value.ref p.1))

theorem set_tups {l : Addr} {items : Array Value} {ks : List (Addr × List Key)} {Q : Value → Shared → Prop} (hh : A.handled = none) (hu : A.units + 3 < cLine) (hl : s.heap.IsList l items)
    (it : items.toList = ks.map fun p => Value.ref p.1) (tp : ∀ p ∈ ks, TupAt P w s.heap p.2 p.1) (nd : (ks.map (·.2)).Nodup) (few : ks.length < 64)
    (next : ∀ (h' : Heap) (tk : Nat), (∀ b o, s.heap.get? b = some o → h'.get? b = some o) → Members w h' s.heap.objs.size items.toList → Q (.ref s.heap.objs.size) { s with heap := h', toks := tk }) :
    wpAny (model P w) A (call (.type "set") [.ref l]) Q E s := by
  have lk : items.size = ks.length := by rw [← Array.length_toList, it, List.length_map]
  have none_ : ∀ b, s.heap.objs.size ≤ b → ∀ c o, s.heap.get? c = some o → c ≠ b := fun b hb c o q e => by
    have lt := Heap.lt_size q
    rw [e] at lt
    exact absurd (Nat.lt_of_lt_of_le lt hb) (Nat.lt_irrefl _)
  refine set_filled (TupJ P w s.heap.objs.size s.heap ks) hh hl ?_ (fun i h h' j k => ?_) (fun E i v z Q lt pv j k => ?_) fun h' tk kp j => ?_
  · refine ⟨fun b o q => laid_old q, #[], 0, .fresh 0 0 (!w.params.followText "set-order"), ⟨⟨_, laid_set _ _, ⟨rfl, rfl, rfl⟩, rfl⟩, ?_, fun e he => (by cases he), ?_, ?_, ?_⟩, .nil⟩
    · exact ⟨List.Pairwise.nil, rfl, rfl, .inl rfl, fun x hx => (by cases hx), fun i x j hi => (by simp at hi)⟩
    · show _ ∨ (!w.params.followText "set-order") = true
      cases w.params.followText "set-order"
      · exact .inr rfl
      · exact .inl rfl
    · show 0 * 5 < 7 * 3
      decide
    · show 0 < 64
      decide
  · obtain ⟨old, es, ep, t, B, pm⟩ := j
    have kb : ∀ b o, s.heap.get? b = some o → h'.get? b = some o := fun b o q => k b o (none_ _ (by rw [Heap.size_push]; exact Nat.le_succ _) b o q) (old b o q)
    obtain ⟨o, ho, rest⟩ := B.ob
    refine ⟨kb, es, ep, t, ⟨⟨o, k _ _ ?_ ho, rest⟩, B.tab, fun e he => ?_, B.led, B.room, B.few⟩, pm⟩
    · rw [Heap.size_push]
      exact Nat.ne_of_lt (Nat.lt_succ_self _)
    · obtain ⟨p, hp, ep⟩ := List.mem_map.mp (pm.mem_iff.mp he)
      exact ⟨p.1, p.2, ep.symm, (tp p (List.mem_of_mem_take hp)).mono fun o q => kb _ o q⟩
  · obtain ⟨old, es, ep, t, B, pm⟩ := j
    have sz : es.size = i := by
      have q := pm.length_eq
      rw [List.length_map, List.length_take, Array.length_toList] at q
      omega
    have hi : i < ks.length := by omega
    have ev : v = .ref ks[i].1 := by
      have q : items.toList[i]? = some v := by rw [Array.getElem?_toList]; exact pv
      rw [it, List.getElem?_map, List.getElem?_eq_getElem hi] at q
      exact (Option.some.inj q).symm
    have eg : ks[i]? = some ks[i] := List.getElem?_eq_getElem hi
    have hm : ks[i] ∈ ks := List.getElem_mem hi
    generalize ks[i] = p at ev eg hm
    subst ev
    have xp : TupAt P w z.heap p.2 p.1 := (tp p hm).mono fun o q => old _ o q
    unfold setAdd
    refine wpAny_holding ?_
    have hu3 : A.in1.in1.in1.in1.units ≤ A.units + 4 := Nat.le_refl _
    refine wpAny_bind (wpAny_pyHash_tuple (by show A.units + 3 < cLine; exact hu) xp ?_)
    refine add_new (s := { z with toks := z.toks + (p.2.length + 1) }) B xp (by show A.units + 3 < cLine; exact hu) (fun e he b k2 ee xb => ?_) (by omega) fun h' es2 ep2 t2 sb B2 pm2 => ?_
    · obtain ⟨p2, hp2, e2⟩ := List.mem_map.mp (pm.mem_iff.mp he)
      rw [ee] at e2
      injection e2 with _ e3
      injection e3 with e3
      have x2 : TupAt P w z.heap p2.2 p2.1 := (tp p2 (List.mem_of_mem_take hp2)).mono fun o q => old _ o q
      rw [e3] at x2
      have ek : k2 = p2.2 := xb.inj x2
      rw [ek]
      intro same
      obtain ⟨j, hj, ej⟩ := List.getElem_of_mem hp2
      rw [List.length_take] at hj
      rw [List.getElem_take] at ej
      have e4 : ks[i] = p := by
        rw [List.getElem?_eq_getElem hi] at eg
        exact Option.some.inj eg
      exact List.pairwise_iff_getElem.mp nd j i (by rw [List.length_map]; omega) (by rw [List.length_map]; omega) (by omega) (by simp [ej, e4, same])
    · refine k true h' _ (Nat.le_add_right _ _) sb ⟨fun b o q => ?_, es2, ep2, t2, B2, ?_⟩
      · rw [sb.2 b (none_ _ (Nat.le_refl _) b o q)]
        exact old b o q
      · have e3 : ks.take (i + 1) = ks.take i ++ [p] := by
          rw [List.take_add_one, eg]
          rfl
        rw [e3, List.map_append]
        exact (pm2.trans (List.Perm.cons _ pm)).trans (List.perm_append_singleton _ _).symm
  · obtain ⟨old, es, ep, t, B, pm⟩ := j
    have el : ks.take items.size = ks := List.take_of_length_le (by omega)
    rw [el] at pm
    obtain ⟨o, ho, hx, hd⟩ := B.ob
    refine next h' tk kp ⟨es, ep, t, ⟨o, ho, hx.1, hd⟩, ?_, tab_fits B.tab (by have := B.room; omega), ?_, B.tab.ris, B.led⟩
    · have q := pm.map (·.2)
      rw [List.map_map] at q
      rw [it]
      exact q
    · have q := B.few
      show _ < 4096
      omega
end
end Q
set_option Elab.async false
set_option linter.all false
set_option maxRecDepth 100000
set_option maxHeartbeats 4000000
namespace Q
open PySem PySem.Spec PyProof.Rows L2 PySem.W

/-! the order of texts and of tuples of texts and numbers -/
abbrev tLe (x y : Str) : Prop := x.cps.toList ≤ y.cps.toList
abbrev tLt (x y : Str) : Prop := x.cps.toList < y.cps.toList
theorem str_ext {x y : Str} (h : x.cps.toList = y.cps.toList) : x = y := by
  cases x
  cases y
  congr
  exact Array.ext' h
theorem tLe_lt {x y : Str} (h : tLe x y) (ne : x ≠ y) : tLt x y := by
  rcases Classical.em (tLt x y) with q | q
  · exact q
  · exact absurd (str_ext (List.le_antisymm h (List.not_lt.mp q))) ne

def kD : Key → PyData
  | .inl i => .int i
  | .inr x => .str x
def kLt : Key → Key → Bool
  | .inl i, .inl j => decide (i < j)
  | .inr x, .inr y => decide (tLt x y)
  | _, _ => false
def ksLt : List Key → List Key → Bool
  | a :: as, b :: bs => if a = b then ksLt as bs else kLt a b
  | _, _ => false
abbrev shape (ks : List Key) : List Bool := ks.map Sum.isLeft

theorem kD_alike : ∀ {a b : Key}, a.isLeft = b.isLeft → alike (kD a) (kD b) = true
  | .inl _, .inl _, _ => by simp [kD, alike]
  | .inr _, .inr _, _ => by simp [kD, alike]
theorem kD_eqv : ∀ {a b : Key}, a.isLeft = b.isLeft → (PyData.eqv (kD a) (kD b) = true ↔ a = b)
  | .inl i, .inl j, _ => by simp [kD, PyData.eqv]
  | .inr x, .inr y, _ => by simp [kD, PyData.eqv]
theorem kD_lt : ∀ {a b : Key}, a.isLeft = b.isLeft → dataLt (kD a) (kD b) = kLt a b
  | .inl i, .inl j, _ => by simp only [kD, kLt]; exact dataLt_int i j
  | .inr x, .inr y, _ => by simp only [kD, kLt]; exact dataLt_str x y
theorem alikeAll_keys : ∀ {ks ls : List Key}, shape ks = shape ls → alikeAll (ks.map kD) (ls.map kD) = true
  | [], [], _ => by simp [alikeAll]
  | a :: ks, b :: ls, h => by
    simp only [shape, List.map_cons, List.cons.injEq] at h
    simp only [List.map_cons]
    rw [alikeAll, alikeAll_keys h.2, kD_alike h.1]
    rfl
theorem tup_lt : ∀ {ks ls : List Key}, shape ks = shape ls → dataLt (.tuple (ks.map kD)) (.tuple (ls.map kD)) = ksLt ks ls := by
  have main : ∀ {ks ls : List Key}, shape ks = shape ls → lexLt itemOrd (keyToksAll (ks.map kD)) (keyToksAll (ls.map kD)) = ksLt ks ls := by
    intro ks
    induction ks with
    | nil =>
      intro ls h
      cases ls with
      | nil => exact lex_irrefl _
      | cons b ls => cases h
    | cons a ks ih =>
      intro ls h
      cases ls with
      | nil => cases h
      | cons b ls =>
        simp only [shape, List.map_cons, List.cons.injEq] at h
        rw [List.map_cons, List.map_cons, dataLt_cons (kD_alike h.1), ih h.2, kD_lt h.1]
        unfold ksLt
        by_cases e : a = b
        · rw [if_pos ((kD_eqv h.1).2 e), if_pos e]
          cases ks <;> cases ls <;> rfl
        · rw [if_neg (fun q => e ((kD_eqv h.1).1 q)), if_neg e]
  intro ks ls h
  rw [dataLt_tuple]
  exact main h
theorem kLt_total : ∀ {a b : Key}, a.isLeft = b.isLeft → a ≠ b → kLt b a = false → kLt a b = true
  | .inl i, .inl j, _, ne, h => by
    simp only [kLt, decide_eq_false_iff_not, decide_eq_true_eq] at h ⊢
    have : i ≠ j := fun e => ne (by rw [e])
    omega
  | .inr x, .inr y, _, ne, h => by
    simp only [kLt, decide_eq_false_iff_not, decide_eq_true_eq] at h ⊢
    exact tLe_lt (List.not_lt.mp h) fun e => ne (by rw [e])
theorem ksLt_total : ∀ {ks ls : List Key}, shape ks = shape ls → ks ≠ ls → ksLt ls ks = false → ksLt ks ls = true
  | [], [], _, ne, _ => absurd rfl ne
  | a :: ks, b :: ls, h, ne, q => by
    simp only [shape, List.map_cons, List.cons.injEq] at h
    unfold ksLt at q ⊢
    by_cases e : a = b
    · subst e
      rw [if_pos rfl] at q ⊢
      exact ksLt_total h.2 (fun z => ne (by rw [z])) q
    · rw [if_neg (Ne.symm e)] at q
      rw [if_neg e]
      exact kLt_total h.1 e q
theorem depth_keys : ∀ ks : List Key, PyData.depthAll (ks.map kD) = 0
  | [] => by simp [PyData.depthAll]
  | .inl i :: ks => by
    rw [List.map_cons, PyData.depthAll, depth_keys ks]
    simp [kD, PyData.depth]
  | .inr x :: ks => by
    rw [List.map_cons, PyData.depthAll, depth_keys ks]
    simp [kD, PyData.depth]

/-! as rules -/
def SetM (w : World) (a : Addr) (us : List Value) : HO := .ext fun h => Members w h a us
section
variable {X : Cx} {pins : List (Addr × Obj)} {σ : L2.St} {H : Hp} {s : Shared}
theorem setM_new {P : Program} {w : World} {H : Hp} {h : Heap} {a : Addr} {us : List Value} (m : Members w h a us) : ObjOk P w H h a (SetM w a us) := ⟨m, m.ob, fun _ _ p k => Members.at p k⟩

/-- set(xs), xs a list of unlike texts -/
def rSetTx (K : PySem.W.Frag) (w : World) : List V → Hp → VK → Prop := fun xs H Q => ∃ (l : Addr) (ys : List Str), xs = [V.ref l] ∧ SqL K H l (ys.map V.str) ∧ ys.Nodup ∧ ys.length < 4000 ∧
  ∀ a us, Vals (ys.map V.str) us → H a = none → Q (.ref a) (upd H a (SetM w a us))
theorem cr_setTx (hc : X.calm = true) : CallR X (.type "set") (rSetTx X.K X.w) := by
  intro pins s σ H xs us Q I r h
  obtain ⟨l, ys, rfl, hl, nd, few, q⟩ := h
  rw [Vals.ref1 r]
  obtain ⟨its, rv, pl, _⟩ := I.list hl
  refine set_texts (P := X.prog) (w := X.w) (items := its.toArray) (I.ok.hd hc) pl.isList (strsAre_of rv) nd few fun h' tk kp m => ?_
  exact ⟨.ref s.heap.objs.size, _, I.laid (t' := tk) kp (Nat.le_refl _) (setM_new m), rfl, q _ _ rv (I.hok.fresh (Nat.le_refl _))⟩

/-- set(xs), xs a list of unlike tuples of texts and numbers -/
def rSetTu (K : PySem.W.Frag) (w : World) : List V → Hp → VK → Prop := fun xs H Q => ∃ (l : Addr) (ks : List (Addr × List Key)), xs = [V.ref l] ∧ SqL K H l (ks.map fun p => V.ref p.1) ∧
  (∀ p ∈ ks, SqT K H p.1 (p.2.map kV)) ∧ (ks.map (·.2)).Nodup ∧ ks.length < 64 ∧ ∀ a, H a = none → Q (.ref a) (upd H a (SetM w a (ks.map fun p => Value.ref p.1)))
theorem items_keys {P : Program} {w : World} : ∀ {k : List Key} {us : List Value}, Vals (k.map kV) us → ItemsAre (mixKind P w) k us
  | [], _, .nil => .nil
  | .inl i :: k, _, .cons r t => by
    obtain ⟨tk, rfl⟩ := r
    exact .cons (mixKind_int P w i tk) (items_keys t)
  | .inr x :: k, _, .cons r t => by
    obtain ⟨tk, rfl⟩ := r
    exact .cons (mixKind_str P w x tk) (items_keys t)
theorem vals_rows : ∀ {ks : List (Addr × List Key)} {us : List Value}, Vals (ks.map fun p => V.ref p.1) us → us = ks.map fun p => Value.ref p.1
  | [], _, .nil => rfl
  | _ :: ks, _, .cons r t => by
    cases r
    rw [vals_rows t, List.map_cons]
theorem rows_vals : ∀ (ks : List (Addr × List Key)), Vals (ks.map fun p => V.ref p.1) (ks.map fun p => Value.ref p.1)
  | [] => .nil
  | _ :: ks => .cons rfl (rows_vals ks)
theorem tupAt_of (I : Inv X pins σ H s) {b : Addr} {k : List Key} (h : SqT X.K H b (k.map kV)) : TupAt X.prog X.w s.heap k b := by
  obtain ⟨its, r, ⟨o, ho, hc, n, hd⟩, _⟩ := I.tuple h
  exact ⟨o, its.toArray, n, ho, hc, hd, by simpa using items_keys r⟩
theorem cr_setTu (hc : X.calm = true) (hu : X.A.units + 3 < cLine) : CallR X (.type "set") (rSetTu X.K X.w) := by
  intro pins s σ H xs us Q I r h
  obtain ⟨l, ks, rfl, hl, hk, nd, few, q⟩ := h
  rw [Vals.ref1 r]
  obtain ⟨its, rv, pl, _⟩ := I.list hl
  have ei := vals_rows rv
  refine set_tups (P := X.prog) (w := X.w) (items := its.toArray) (ks := ks) (I.ok.hd hc) hu pl.isList (by simpa using ei) (fun p hp => tupAt_of I (hk p hp)) nd few fun h' tk kp m => ?_
  rw [List.toList_toArray, ei] at m
  exact ⟨.ref s.heap.objs.size, _, I.laid (t' := tk) kp (Nat.le_refl _) (setM_new m), rfl, q _ (I.hok.fresh (Nat.le_refl _))⟩

theorem back_same {s z : Shared} (o : z.os = s.os) : z = { s with heap := z.heap, gens := z.gens, drawn := z.drawn, toks := z.toks } := by
  cases z
  cases s
  cases o
  rfl
theorem laid_list (I : Inv X pins σ H s) {z : Shared} {p : Addr} {xs : List V} {out : Array Value} {c : Nat} (kp : ∀ b o, s.heap.get? b = some o → z.heap.get? b = some o) (g : z.gens = s.gens) (o : z.os = s.os) (le : s.heap.objs.size ≤ p)
    (e : z.heap.get? p = some (seqObj "list" out c)) (r : Vals xs out.toList) (few : xs.length ≤ sizeLine) : Inv X pins σ (upd H p (.lst xs)) z := by
  rw [back_same o]
  exact I.call (ch := []) (Un.laid kp le (I.hok.fresh le)) (I.hok.laid kp le ⟨few, out.toList, c, r, e⟩) (by rw [g]; exact I.bare) fun _ q => nomatch q

theorem each_txt {us : List Value} : ∀ {ys : List Str}, Vals (ys.map V.str) us → EachIs (fun v y => (∃ t, v = Value.str y t) ∧ Reads s.heap v (PyData.str y) []) us ys := by
  induction us with
  | nil =>
    intro ys r
    cases ys with
    | nil => exact .nil
    | cons _ _ => cases r
  | cons u us ih =>
    intro ys r
    cases ys with
    | nil => cases r
    | cons y ys =>
      cases r with
      | cons r1 r2 =>
        obtain ⟨t, rfl⟩ := r1
        exact .cons ⟨⟨t, rfl⟩, .str y t⟩ (ih r2)
theorem txt_each {us : List Value} {ys : List Str} (e : EachIs (fun v y => ∃ t, v = Value.str y t) us ys) : Vals (ys.map V.str) us := by
  induction e with
  | nil => exact .nil
  | cons h _ ih =>
    obtain ⟨t, rfl⟩ := h
    exact .cons ⟨t, rfl⟩ ih

/-- sorted(a set of texts) -/
def rSortTx (w : World) : List V → Hp → VK → Prop := fun xs H Q => ∃ (a : Addr) (us : List Value) (ys : List Str), xs = [V.ref a] ∧ H a = some (SetM w a us) ∧ Vals (ys.map V.str) us ∧ ys.Nodup ∧ ys.length < 4000 ∧
  ∀ (p : Addr) (zs : List Str), zs.Perm ys → zs.Pairwise tLt → H p = none → Q (.ref p) (upd H p (.lst (zs.map V.str)))
theorem cr_sortTx (hc : X.calm = true) (hu : X.A.units + 2 < cLine) : CallR X (.builtin "sorted") (rSortTx X.w) := by
  intro pins s σ H xs us0 Q I r h
  obtain ⟨a, us, ys, rfl, ha, rv, nd, few, q⟩ := h
  rw [Vals.ref1 r]
  have m : Members X.w s.heap a us := (I.hok a _ ha).1
  refine sorted_members (P := X.prog) (enc := PyData.str) m (I.ok.hd hc) (each_txt rv) (fun cs _ => AllAlike.of fun _ _ => by simp [alike]) (fun cs _ => Sortable.others fun _ => ⟨by simp, by simp⟩) (fun b _ => by simpa [PyData.depth] using hu)
    fun z p out c cs kp g o le e pc eo => ?_
  have pz : (cs.mergeSort (dataLe false PyData.str)).Perm ys := (List.mergeSort_perm cs _).trans pc
  have pw : (cs.mergeSort (dataLe false PyData.str)).Pairwise tLt := by
    have w1 := sort_pairwise (sortLe_total (listOrd itemOrd) false fun b : Str => keyToks (PyData.str b)) cs
    have nd2 := pz.nodup_iff.mpr nd
    refine (List.Pairwise.and w1 nd2).imp fun {x y} h => ?_
    have e1 : dataLe false (fun b : Str => PyData.str b) x y = true := h.1
    rw [dataLe_str] at e1
    exact tLe_lt (of_decide_eq_true e1) h.2
  have few2 : ((cs.mergeSort (dataLe false PyData.str)).map V.str).length ≤ sizeLine := by
    rw [List.length_map, pz.length_eq, sizeLine_eq]
    omega
  exact ⟨.ref p, _, laid_list I kp g o le e (txt_each eo) few2, rfl, q p _ pz pw (I.hok.fresh le)⟩

theorem reads_keys {h : Heap} {P : Program} {w : World} {k : List Key} {us : List Value} (r : ItemsAre (mixKind P w) k us) : ReadsAll h us (k.map kD) [] := by
  induction r with
  | nil => exact .nil
  | @cons k0 v ks vs h1 _ ih =>
    rcases keyIs_shape h1 with ⟨i, t, rfl, rfl⟩ | ⟨x, t, rfl, rfl⟩
    · exact .cons (as := []) (.int i t) ih
    · exact .cons (as := []) (.str x t) ih
theorem TupAt.reads {P : Program} {w : World} {h : Heap} {k : List Key} {b : Addr} (x : TupAt P w h k b) : Reads h (.ref b) (.tuple (k.map kD)) [] := by
  obtain ⟨o, its, n, q, c, d, r⟩ := x
  exact .tuple q c d (reads_keys r)
theorem each_rows {P : Program} {w : World} {h : Heap} : ∀ {ks : List (Addr × List Key)}, (∀ p ∈ ks, TupAt P w h p.2 p.1) →
    EachIs (fun v p => v = Value.ref p.1 ∧ Reads h v (.tuple (p.2.map kD)) []) (ks.map fun p => Value.ref p.1) ks
  | [], _ => .nil
  | p :: ks, x => .cons ⟨rfl, (x p List.mem_cons_self).reads⟩ (each_rows fun q hq => x q (List.mem_cons_of_mem _ hq))
theorem rows_each {us : List Value} {ks : List (Addr × List Key)} (e : EachIs (fun v p => v = Value.ref p.1) us ks) : us = ks.map fun p => Value.ref p.1 := by
  induction e with
  | nil => rfl
  | cons h _ ih => rw [h, ih, List.map_cons]

/-- sorted(a set of tuples of texts and numbers, all of one shape) -/
def rSortTu (K : PySem.W.Frag) (w : World) : List V → Hp → VK → Prop := fun xs H Q => ∃ (a : Addr) (ks : List (Addr × List Key)) (sh : List Bool), xs = [V.ref a] ∧ H a = some (SetM w a (ks.map fun p => Value.ref p.1)) ∧
  (∀ p ∈ ks, SqT K H p.1 (p.2.map kV)) ∧ (∀ p ∈ ks, shape p.2 = sh) ∧ sh ≠ [] ∧ (ks.map (·.2)).Nodup ∧ ks.length < 4000 ∧
  ∀ (p : Addr) (zs : List (Addr × List Key)), zs.Perm ks → zs.Pairwise (fun x y => ksLt x.2 y.2 = true) → H p = none → Q (.ref p) (upd H p (.lst (zs.map fun q => V.ref q.1)))
theorem cr_sortTu (hc : X.calm = true) (hu : X.A.units + 3 < cLine) : CallR X (.builtin "sorted") (rSortTu X.K X.w) := by
  intro pins s σ H xs us0 Q I r h
  obtain ⟨a, ks, sh, rfl, ha, hk, hs, ne, nd, few, q⟩ := h
  rw [Vals.ref1 r]
  have m : Members X.w s.heap a (ks.map fun p => Value.ref p.1) := (I.hok a _ ha).1
  refine sorted_members (P := X.prog) (R := fun v p => v = Value.ref p.1) (enc := fun p : Addr × List Key => PyData.tuple (p.2.map kD)) m (I.ok.hd hc) (each_rows fun p hp => tupAt_of I (hk p hp)) (fun cs pc => ?_) (fun cs pc => ?_) (fun b _ => ?_)
    fun z p out c cs kp g o le e pc eo => ?_
  · intro d hd d' hd'
    obtain ⟨p, hp, rfl⟩ := List.mem_map.mp hd
    obtain ⟨p', hp', rfl⟩ := List.mem_map.mp hd'
    have e : shape p.2 = shape p'.2 := (hs p (pc.mem_iff.mp hp)).trans (hs p' (pc.mem_iff.mp hp')).symm
    simpa [alike] using alikeAll_keys e
  · refine .inl fun d hd => ?_
    obtain ⟨p, hp, rfl⟩ := List.mem_map.mp hd
    have e := hs p (pc.mem_iff.mp hp)
    cases hq : p.2 with
    | nil =>
      rw [hq] at e
      exact absurd e.symm ne
    | cons k0 r0 => exact ⟨_, _, by rw [List.map_cons]⟩
  · have e : (PyData.tuple (b.2.map kD)).depth ≤ 1 := by
      simp [PyData.depth, depth_keys]
    show X.A.units + 2 + (PyData.tuple (b.2.map kD)).depth < cLine
    omega
  · have pz : (cs.mergeSort (dataLe false fun p : Addr × List Key => PyData.tuple (p.2.map kD))).Perm ks := (List.mergeSort_perm cs _).trans pc
    have pw : (cs.mergeSort (dataLe false fun p : Addr × List Key => PyData.tuple (p.2.map kD))).Pairwise fun x y => ksLt x.2 y.2 = true := by
      have w1 := sort_pairwise (sortLe_total (listOrd itemOrd) false fun p : Addr × List Key => keyToks (PyData.tuple (p.2.map kD))) cs
      have nd2 : ((cs.mergeSort (dataLe false fun p : Addr × List Key => PyData.tuple (p.2.map kD))).map (·.2)).Nodup := (pz.map (·.2)).nodup_iff.mpr nd
      have nd3 := List.pairwise_map.mp nd2
      refine List.Pairwise.imp_of_mem (fun {x y} hx hy h => ?_) (List.Pairwise.and w1 nd3)
      have se : shape x.2 = shape y.2 := (hs x (pz.mem_iff.mp hx)).trans (hs y (pz.mem_iff.mp hy)).symm
      have e1 : (!dataLt (.tuple (y.2.map kD)) (.tuple (x.2.map kD))) = true := h.1
      rw [tup_lt se.symm, Bool.not_eq_true'] at e1
      exact ksLt_total se h.2 e1
    generalize cs.mergeSort (dataLe false fun p : Addr × List Key => PyData.tuple (p.2.map kD)) = zs at pz pw eo
    have few2 : (zs.map fun q => V.ref q.1).length ≤ sizeLine := by
      rw [List.length_map, pz.length_eq, sizeLine_eq]
      omega
    have rv : Vals (zs.map fun q => V.ref q.1) out.toList := by
      rw [rows_each eo]
      exact rows_vals zs
    exact ⟨.ref p, _, laid_list I kp g o le e rv few2, rfl, q p zs pz pw (I.hok.fresh le)⟩
end
end Q
set_option Elab.async false
set_option linter.all false
set_option maxRecDepth 100000
set_option maxHeartbeats 4000000
namespace Q
open PySem PySem.Spec PyProof.Rows L2 PySem.W

/-! enumerate over a tuple -/
theorem enum_meets {l : Addr} {items : Array Value} :
    Meets (Builtin.«enumerate.__new__» ⟨[.type "enumerate", .ref l], []⟩) (fun _ R z => z.heap.IsTuple l items ∧
      R (.ok (.ret (.ref (z.heap.push { cls := .type "tuple_iterator", data := .fields #[.ref l, .int 0 0] }).objs.size)))
        { z with heap := (z.heap.push { cls := .type "tuple_iterator", data := .fields #[.ref l, .int 0 0] }).push { cls := .type "enumerate", data := .fields #[.none, .bool false, .ref z.heap.objs.size, rawInt 0, .none, .none] } }) :=
  .of_wp fun prog w A R z h => by
    obtain ⟨zh, zg, zd, zt, zo⟩ := z
    obtain ⟨isT, h⟩ := h
    have sub := sub_enumerate
    have begins : ∀ {A' : Around} {E : Value → Shared → Prop} {Q : Value → Shared → Prop}, Q (.ref zh.objs.size) ⟨zh.push { cls := .type "tuple_iterator", data := .fields #[.ref l, .int 0 0] }, zg, zd, zt, zo⟩ →
        wpAny (model prog w) A' (pyIter (.ref l)) Q E ⟨zh, zg, zd, zt, zo⟩ := fun q => (begins_tuple l items).iter prog w _ _ ⟨zh, zg, zd, zt, zo⟩ _ isT q
    wp_walk using begins
    refine wpAny_stack_any fun st => wpAny_pure ?_
    split
    · rename_i c _ _ _ _ _
      cases (c == Value.type "enumerate") <;> (wp_walk using begins; exact ⟨_, rfl, h⟩)
    · wp_walk using begins
      exact ⟨_, rfl, h⟩
section
variable {prog : Program} {w : World} {A : Around} {E : Value → Shared → Prop} {s : Shared}
theorem enum_made {l : Addr} {items : Array Value} {Q : Value → Shared → Prop} (isT : s.heap.IsTuple l items)
    (next : ∀ h', IsEnum h' (s.heap.objs.size + 1) s.heap.objs.size 0 .none → h'.IsTupleIter s.heap.objs.size l 0 → (∀ b o, s.heap.get? b = some o → h'.get? b = some o) →
      Q (.ref (s.heap.objs.size + 1)) { s with heap := h' }) : wpAny (model prog w) A (call (.type "enumerate") [.ref l]) Q E s := by
  refine callType_new F.called_enumerate (by decide) (F.typeCall_enumerate_1 _) (F.newCall_enumerate_1 _) (fun o => F.args_object_init_2 o _) F.entry_enumerate_new enum_meets ⟨isT, ?_⟩
  have z1 : (s.heap.push { cls := .type "tuple_iterator", data := .fields #[.ref l, .int 0 0] }).objs.size = s.heap.objs.size + 1 := Heap.size_push ..
  show _ ∧ _
  rw [z1]
  have ie : IsEnum ((s.heap.push { cls := .type "tuple_iterator", data := .fields #[.ref l, .int 0 0] }).push { cls := .type "enumerate", data := .fields #[.none, .bool false, .ref s.heap.objs.size, rawInt 0, .none, .none] }) (s.heap.objs.size + 1) s.heap.objs.size 0 .none := by
    have q := Heap.get?_push_size (s.heap.push { cls := .type "tuple_iterator", data := .fields #[.ref l, .int 0 0] }) (o := { cls := .type "enumerate", data := .fields #[.none, .bool false, .ref s.heap.objs.size, rawInt 0, .none, .none] }) rfl
    rw [z1] at q
    exact q
  exact ⟨⟨_, ie, rfl⟩, next _ ie ⟨{ cls := .type "tuple_iterator", data := .fields #[.ref l, .int 0 0] }, Heap.get?_push_of_some _ (Heap.get?_push_size _ rfl), rfl, rfl⟩ fun b o q => Heap.get?_push_of_some _ (Heap.get?_push_of_some _ q)⟩
end

/-- the tuple's items, each in a new pair with its place -/
def ItT (K : PySem.W.Frag) (a : Addr) (xs : List V) : It where
  go := fun i H => SqT K H a xs ∧ i < xs.length
  yld := fun i H v H' => ∃ T x, v = .ref T ∧ H T = none ∧ H' = upd H T (.tup [.int (i : Nat), x]) ∧ xs[i]? = some x
  stop := fun i H => SqT K H a xs ∧ i = xs.length
theorem turn_enumT {P : Program} {w : World} {K : PySem.W.Frag} {elts : List Expr} {kk : Nat} {tpos : Pos} (a e it : Addr) (xs : List V) :
    Turn P w K (.Tuple elts kk tpos) (ItT K a xs) [e, it] e (fun i h => (∃ old, IsEnum h e it ((i : Nat) : Int) old) ∧ h.IsTupleIter it a i ∧ e ≠ it ∧ a ≠ it ∧ a ≠ e) where
  mem := List.mem_cons_self
  obj := fun i h st b hb => by
    obtain ⟨⟨old, ie⟩, ⟨o, q, _, d⟩, _⟩ := st
    rcases List.mem_cons.mp hb with z | z
    · rw [z]
      exact ⟨_, ie, fun v y => nomatch y⟩
    · rw [List.mem_singleton.mp z]
      exact ⟨o, q, fun v y => by rw [d] at y; cases y⟩
  keep := fun i h h' st k => by
    obtain ⟨⟨old, ie⟩, ⟨o, q, r⟩, ne⟩ := st
    exact ⟨⟨old, k e (by simp) _ ie⟩, ⟨o, k it (by simp) o q, r⟩, ne⟩
  item := by
    intro X e1 e2 e3 hc i pins s σ H E I hf st hg
    subst e1 e2 e3
    obtain ⟨⟨old, ie⟩, ti, ne, ne2, ne3⟩ := st
    obtain ⟨hx, lt⟩ := hg
    obtain ⟨its, rv, isT, _⟩ := I.tuple hx
    have le : e < s.heap.objs.size := Heap.lt_size ie
    have lit : it < s.heap.objs.size := by
      obtain ⟨_, q, _⟩ := ti
      exact Heap.lt_size q
    have lz : its.toArray.size = xs.length := by
      rw [List.size_toArray]
      exact rv.length.symm
    have hh : X.A.in1.handled = none := I.ok.hd hc
    refine wpAny_pyNext_enum_itemD (Draws.tuple hh it a ne2 its.toArray) ie ⟨ti, isT⟩ (by rw [lz]; exact lt) ne (by
      simp only [List.mem_cons, List.not_mem_nil, or_false, not_or]
      exact ⟨ne, fun z => ne3 z.symm⟩) fun u h' tk pu io st2 hT hsz hk => ?_
    obtain ⟨ti2, isT2⟩ := st2
    obtain ⟨x, hx2, ru⟩ : ∃ x, xs[i]? = some x ∧ RelV x u := by
      have hxi : xs[i]? = some xs[i] := List.getElem?_eq_getElem lt
      obtain ⟨u2, hu2, ru2⟩ := rv.get hxi
      have e4 : u2 = u := by
        have q : its[i]? = some u := by simpa using pu
        rw [hu2] at q
        exact Option.some.inj q
      rw [e4] at ru2
      exact ⟨_, hxi, ru2⟩
    refine ⟨_, rfl, wpAny_letOwnedTupleGo_enum (s := { s with heap := h', toks := tk + 1 }) io fun h'' ie2 sb => ?_⟩
    have hT2 : h''.get? s.heap.objs.size = some { cls := .type "tuple", data := .seq #[.int i tk, u] } := (sb.2 _ (Nat.ne_of_gt le)).trans hT
    have new : ObjOk X.prog X.w (upd H s.heap.objs.size (.tup [.int (i : Nat), x])) h'' s.heap.objs.size (.tup [.int (i : Nat), x]) :=
      ⟨by show 2 ≤ sizeLine; decide, [.int i tk, u], .cons ⟨_, rfl⟩ (.cons ru .nil), ⟨_, hT2, rfl, _, rfl⟩⟩
    have I1 : Inv X pins σ (upd H s.heap.objs.size (.tup [.int (i : Nat), x])) { s with heap := h'', toks := tk + 1 } :=
      I.turnedNew (ch := [e, it]) (fun b o nb q => (sb.2 b fun z => nb (by simp [z])).trans (hk b o (fun z => nb (by simp [z])) (fun z => nb (by simp [z])) q)) hf (Nat.le_refl _) new
    refine ⟨.ref s.heap.objs.size, _, I1, rfl, ⟨_, x, rfl, I.hok.fresh (Nat.le_refl _), rfl, hx2⟩, ⟨⟨u, ?_⟩, ?_, ne, ne2, ne3⟩, fun b hb => ?_⟩
    · have e1 : ((i + 1 : Nat) : Int) = (i : Int) + 1 := by omega
      rw [e1]
      exact ie2
    · obtain ⟨o, q, r⟩ := ti2
      exact ⟨o, (sb.2 it (Ne.symm ne)).trans q, r⟩
    · have lb : b < s.heap.objs.size := by
        rcases List.mem_cons.mp hb with z | z
        · rw [z]; exact le
        · rw [List.mem_singleton.mp z]; exact lit
      rw [upd_ne (Nat.ne_of_lt lb)]
      exact (hf b hb).1
  done := by
    intro X e1 e2 e3 hc i pins s σ H E I hf st hg
    subst e1 e2 e3
    obtain ⟨⟨old, ie⟩, ti, ne, ne2, ne3⟩ := st
    obtain ⟨hx, rfl⟩ := hg
    obtain ⟨its, rv, isT, _⟩ := I.tuple hx
    have hh : X.A.in1.handled = none := I.ok.hd hc
    have lz : its.toArray.size = xs.length := by
      rw [List.size_toArray]
      exact rv.length.symm
    obtain ⟨f0, f1, f2, f3, f4, f5⟩ := hf it (by simp)
    rw [← lz] at ti
    exact wpAny_pyNext_enum_endD (Draws.tuple hh it a ne2 its.toArray) ie ⟨ti, isT⟩ fun h' eb => ⟨rfl, I.turned (t' := s.toks) (fun b o hb q => eb b o hb q) f0 f1 f3 f4 f5⟩
  self := fun A i s Q E st h => by
    obtain ⟨⟨_, ie⟩, _⟩ := st
    exact wpAny_pyIter_enum ie h
def iEnumT (K : PySem.W.Frag) (ta : TA) : TI := fun σ H R => ta σ H fun vs H1 => ∃ a xs, vs = [.ref a] ∧ SqT K H1 a xs ∧ R (ItT K a xs) H1
theorem pi_enumT {X : Cx} {e : Expr} {ta : TA} {p pos tpos : Pos} {elts : List Expr} {kk : Nat} (hg : Gl X "enumerate") (hm : X.mg "enumerate" = none) (ha : PA X [e] ta) (hs : starEach [e] X.env = [(false, eval e X.env)] := by rfl) :
    PI X (.Tuple elts kk tpos) (.Call (.Name "enumerate" p) [e] [] pos) (iEnumT X.K ta) := by
  refine ⟨fun pins s σ H R I h => ?_⟩
  refine Call_ (ld_blt I hg hm boot_enumerate (PyProof.Rows.callWith_type1 (thn (ha.run pos pins s σ H _ I h) fun us s1 ⟨vs, H1, I1, r1, q1⟩ => ?_) hs rfl))
  obtain ⟨a, xs, rfl, hx, q⟩ := q1
  rw [Vals.ref1 r1]
  obtain ⟨its, rv, isT, _⟩ := I1.tuple hx
  have la : a < s1.heap.objs.size := by
    obtain ⟨o, ho, _⟩ := isT
    exact Heap.lt_size ho
  refine enum_made isT fun h' ie ti k => wpAny_pyIter_enum ie ?_
  have I2 : Inv X pins σ H1 { s1 with heap := h' } := I1.kept (t' := s1.toks) k
  refine ⟨s1.heap.objs.size + 1, [s1.heap.objs.size + 1, s1.heap.objs.size], _, _, H1, rfl, I2, turn_enumT a (s1.heap.objs.size + 1) s1.heap.objs.size xs,
    ⟨⟨.none, ie⟩, ti, Nat.succ_ne_self _, Nat.ne_of_lt la, Nat.ne_of_lt (Nat.lt_succ_of_lt la)⟩, fun b hb => ?_, q⟩
  have le : s1.heap.objs.size ≤ b := by
    rcases List.mem_cons.mp hb with z | z
    · rw [z]; exact Nat.le_succ _
    · rw [List.mem_singleton.mp z]; exact Nat.le_refl _
  exact I1.fpOk le (I1.hok.fresh le)
end Q
set_option Elab.async false
set_option linter.all false
set_option maxRecDepth 100000
set_option maxHeartbeats 4000000
namespace Q
open PySem PySem.Spec PyProof.Rows L2 PySem.W
section
variable {X : Cx}
/-- x < y of two tuples of texts and whole numbers, of one shape -/
def rLtK (K : PySem.W.Frag) : R2 := fun x y H Q => ∃ (a b : Addr) (ks ls : List Key), x = V.ref a ∧ y = V.ref b ∧ SqT K H a (ks.map kV) ∧ SqT K H b (ls.map kV) ∧ shape ks = shape ls ∧ Q (.bl (ksLt ks ls)) H
theorem op_ltK (hu : X.A.units + 1 < cLine) : OpR X (compareOp .Lt) (rLtK X.K) := by
  intro pins s σ H x y v u Q I rx ry h
  obtain ⟨a, b, ks, ls, rfl, rfl, ha, hb, sh, q⟩ := h
  cases rx
  cases ry
  have ra := (tupAt_of I ha).reads
  have rb := (tupAt_of I hb).reads
  have da : (PyData.tuple (ks.map kD)).depth = 1 := by rw [PyData.depth, depth_keys]
  refine lt_data ra rb (by simpa [alike] using alikeAll_keys sh) (by simp) (by
    have m := Nat.min_le_left (PyData.tuple (ks.map kD)).depth (PyData.tuple (ls.map kD)).depth
    omega) ?_
  rw [tup_lt sh]
  exact ⟨.bl (ksLt ks ls), H, I, rfl, q⟩
end
end Q
set_option Elab.async false
set_option linter.all false
set_option maxRecDepth 100000
set_option maxHeartbeats 4000000
namespace Q
open PySem PySem.Spec PyProof.Rows L2 PySem.W
section
variable {X : Cx}
/-- raise C(), a class of the program without its own __init__ -/
theorem pmk_own0 {C : Addr} {bmB : List Value} {B newId initId : String} {x : Str} {p pos : Pos} (F : ExcBaseFacts B newId initId bmB) (q : excIn X.K C bmB newId = true)
    (gC : X.mg x = some (.ref C)) (kC : keepIn X.K (.ref C) = true) (r : Raises X (.ref C)) (hg : Gl X x) (hdb : (x == ("__debug__" : Str)) = false := by decide) :
    PMk X (.Call (.Name x p) [] [] pos) (fun _ H Q => Q (.ref C) none H) := by
  intro pins s σ H Q I h
  refine wpAny_Call_Name_kw (ld_glob I hg gC ?_ hdb)
  refine PySem.W.callWith_K0 I.kIn kC ?_
  show wpAny _ _ (call (.ref C) []) _ _ _
  obtain ⟨bm, N, nm, qn, bs, hdct, sn, sub, ab, col, dd, k0, k1, k2, k3, k5, mN, hC, hN, hni, T⟩ := exc_obj I.kIn q
  refine wpAny_call_exc_subT F T hC hN hni (fun h' e hm => ?_) (Nat.zero_le _)
  exact mk_of I hm r h (I.hok.gone hm.new)
/-- sorted(xs), xs a list of unlike tuples of texts and whole numbers, of one shape -/
def rSortTuL (K : PySem.W.Frag) : List V → Hp → VK → Prop := fun xs H Q => ∃ (a : Addr) (ks : List (Addr × List Key)) (sh : List Bool), xs = [V.ref a] ∧ SqL K H a (ks.map fun p => V.ref p.1) ∧
  (∀ p ∈ ks, SqT K H p.1 (p.2.map kV)) ∧ (∀ p ∈ ks, shape p.2 = sh) ∧ sh ≠ [] ∧ (ks.map (·.2)).Nodup ∧ ks.length < 4000 ∧
  ∀ (p : Addr) (zs : List (Addr × List Key)), zs.Perm ks → zs.Pairwise (fun x y => ksLt x.2 y.2 = true) → H p = none → Q (.ref p) (upd H p (.lst (zs.map fun q => V.ref q.1)))
theorem cr_sortTuL (hu : X.A.units + 3 < cLine) : CallR X (.builtin "sorted") (rSortTuL X.K) := by
  intro pins s σ H xs us0 Q I r h
  obtain ⟨a, ks, sh, rfl, ha, hk, hs, ne, nd, few, q⟩ := h
  rw [Vals.ref1 r]
  obtain ⟨its, rv, pl, _⟩ := I.list ha
  have ei := vals_rows rv
  have er := each_rows (P := X.prog) (w := X.w) (h := s.heap) fun p hp => tupAt_of I (hk p hp)
  refine sorted_data (vs := its) (R := fun v p => v = Value.ref p.1) (bs := ks) (enc := fun p : Addr × List Key => PyData.tuple (p.2.map kD)) pl.isList (by rw [ei]; exact er.mono fun _ _ z => z.1) (by rw [ei]; exact er.mono fun _ _ z => ⟨_, z.2⟩) ?_ ?_ ?_ ?_ ?_
  · intro d hd d' hd'
    obtain ⟨p, hp, rfl⟩ := List.mem_map.mp hd
    obtain ⟨p', hp', rfl⟩ := List.mem_map.mp hd'
    have e : shape p.2 = shape p'.2 := (hs p hp).trans (hs p' hp').symm
    simpa [alike] using alikeAll_keys e
  · refine .inl fun d hd => ?_
    obtain ⟨p, hp, rfl⟩ := List.mem_map.mp hd
    have e := hs p hp
    cases hq : p.2 with
    | nil =>
      rw [hq] at e
      exact absurd e.symm ne
    | cons k0 r0 => exact ⟨_, _, by rw [List.map_cons]⟩
  · rw [sizeLine_eq]
    omega
  · intro b hb
    have e : (PyData.tuple (b.2.map kD)).depth ≤ 1 := by
      simp [PyData.depth, depth_keys]
    show X.A.units + 2 + (PyData.tuple (b.2.map kD)).depth < cLine
    omega
  · intro out lo eo
    have pz : (ks.mergeSort (dataLe false fun p : Addr × List Key => PyData.tuple (p.2.map kD))).Perm ks := List.mergeSort_perm ks _
    have pw : (ks.mergeSort (dataLe false fun p : Addr × List Key => PyData.tuple (p.2.map kD))).Pairwise fun x y => ksLt x.2 y.2 = true := by
      have w1 := sort_pairwise (sortLe_total (listOrd itemOrd) false fun p : Addr × List Key => keyToks (PyData.tuple (p.2.map kD))) ks
      have nd2 : ((ks.mergeSort (dataLe false fun p : Addr × List Key => PyData.tuple (p.2.map kD))).map (·.2)).Nodup := (pz.map (·.2)).nodup_iff.mpr nd
      have nd3 := List.pairwise_map.mp nd2
      refine List.Pairwise.imp_of_mem (fun {x y} hx hy h => ?_) (List.Pairwise.and w1 nd3)
      have se : shape x.2 = shape y.2 := (hs x (pz.mem_iff.mp hx)).trans (hs y (pz.mem_iff.mp hy)).symm
      have e1 : (!dataLt (.tuple (y.2.map kD)) (.tuple (x.2.map kD))) = true := h.1
      rw [tup_lt se.symm, Bool.not_eq_true'] at e1
      exact ksLt_total se h.2 e1
    generalize ks.mergeSort (dataLe false fun p : Addr × List Key => PyData.tuple (p.2.map kD)) = zs at pz pw eo
    have few2 : (zs.map fun q => V.ref q.1).length ≤ sizeLine := by
      rw [List.length_map, pz.length_eq, sizeLine_eq]
      omega
    obtain ⟨c, hc⟩ := sortedAll_at s.heap its (List.toArray out)
    have rv2 : Vals (zs.map fun q => V.ref q.1) (List.toArray out).toList := by
      rw [List.toList_toArray, rows_each eo]
      exact rows_vals zs
    have le : s.heap.objs.size ≤ s.heap.objs.size + 1 := Nat.le_succ _
    exact ⟨.ref (s.heap.objs.size + 1), _, laid_list I (c := c) (fun _ _ => sortedAll_old) rfl rfl le hc rv2 few2, rfl, q _ zs pz pw (I.hok.fresh le)⟩
end
end Q
set_option Elab.async false
set_option linter.all false
set_option maxRecDepth 100000
set_option maxHeartbeats 4000000
/-! The end of a law whose defs make lambdas, over FnG. -/
namespace Q
open PySem PySem.Spec PyProof.Rows L2 LamX

/-- an empty table of code objects -/
abbrev emptyTab : Obj := { cls := .none, data := .fields #[] }
section
variable {P : Program} {w : World} {K : PySem.W.Frag} {mg mb : Str → Option Value} {k : Nat}
  {fa a : Addr} {fd : FuncData} {x : Str} {sp : Sp} {s₁ : Shared} {vs : List Value} {ns : List Int} {c1 P1 c2 P2 : Addr}
/-- what may be tracked at the start: the script as it stands, the two tables -/
def OnlyT (P1 P2 : Addr) (H : Hp) : Prop := ∀ b, H b = none ∨ (b = P1 ∨ b = P2) ∨ ∃ o xs, H b = some (.frz o (.lst xs))
structure Two (s₁ : Shared) (K : PySem.W.Frag) (c1 P1 c2 P2 : Addr) : Prop where
  e1 : s₁.heap.get? P1 = some emptyTab
  e2 : s₁.heap.get? P2 = some emptyTab
  n1 : K.lookup P1 = none
  n2 : K.lookup P2 = none
  h1 : PySem.W.CodeHd s₁.heap c1 P1
  h2 : PySem.W.CodeHd s₁.heap c2 P2
theorem law_coreT (KX : K.In s₁.heap) (hns : s₁.heap.Ns mainGlobals mg) (hb : s₁.heap.Ns builtinsNs mb)
    (hbb : ∀ x : Str, x ≠ "__name__" → mb x = bootBuiltins x) (hlim : s₁.heap.NoLimit) (hg : s₁.gens = #[])
    (tw : Two s₁ K c1 P1 c2 P2)
    (hbm : ∃ (bm : Addr) (ob : Obj), mg "__builtins__" = some (.ref bm) ∧ bm ≠ builtinsNs ∧ s₁.heap.get? bm = some ob ∧
      ob.cls = .type "module" ∧ ob.dict = some builtinsNs ∧ ob.data = .plain)
    (ha : s₁.heap.get? a = some { cls := .type "list", data := .seq vs.toArray }) (hr : Room k callerA)
    (F : ∀ base : Heap, K.In base → base.Ns mainGlobals mg → TabB base mg c1 P1 → TabB base mg c2 P2 → FnG P w K mg base CX0 k fa fd [x] sp)
    (hbind : ∀ (s : Shared) (u : Value), BindsTo s fd ⟨[u], []⟩ [(x, u)])
    (H : Hp) (hO : OnlyT P1 P2 H) (hH1 : H P1 = some (.tbl #[])) (hH2 : H P2 = some (.tbl #[]))
    (hS : sp [.ref a] H (fun v _ => v = .bl true) fun _ _ _ => False)
    (hok : HOk P w H s₁.heap) (hA : ∀ b, H b ≠ none → b = a ∨ b = P1 ∨ b = P2) (hK : H a ≠ none → K.lookup a = none) :
    codeAny (model P w) callerA (.call (.ref fa) ⟨[.ref a], []⟩) (LawEnd s₁) s₁ := by
  -- an object that is neither the script nor a table is not tracked
  have off : ∀ {b : Addr} {o : Obj}, s₁.heap.get? b = some o → (∀ us n, o.data ≠ .seq us n) → o.data ≠ .fields #[] → H b = none := by
    intro b o e d1 d2
    cases q : H b with
    | none => rfl
    | some u =>
      rcases hA b (by rw [q]; exact nofun) with z | z | z
      · rw [z, ha] at e
        cases e
        exact absurd rfl (d1 _ _)
      · rw [z, tw.e1] at e
        cases e
        exact absurd rfl d2
      · rw [z, tw.e2] at e
        cases e
        exact absurd rfl d2
  have ns_free : ∀ {b m}, s₁.heap.Ns b m → (hidT s₁.heap H).Ns b m := by
    rintro b m ⟨o, es, ep, e, d, r⟩
    exact ⟨o, es, ep, hidT_get e (off e (fun us n z => by rw [d] at z; cases z) (fun z => by rw [d] at z; cases z)), d, r⟩
  have kin : K.In (hidT s₁.heap H) := fun b o e => by
    refine hidT_get (KX b o e) ?_
    cases q : H b with
    | none => rfl
    | some u =>
      rcases hA b (by rw [q]; exact nofun) with z | z | z
      · subst z
        rw [hK (by rw [q]; exact nofun)] at e
        cases e
      · rw [z, tw.n1] at e
        cases e
      · rw [z, tw.n2] at e
        cases e
  obtain ⟨mc, l1, l2⟩ := hlim
  have md : Mod K mg (hidT s₁.heap H) :=
    { kin := kin, glob := ns_free hns, blt := ⟨mb, ns_free hb, hbb⟩, nolimit := ⟨mc, ns_free l1, l2⟩ }
  have e0 : Env0 P w K mg (hidT s₁.heap H) callerA [] s₁ H :=
    ⟨rfl, md, fun b o e => of_hidT e, Nat.le_of_eq (hidT_size _ _), trivial,
      fun b z => absurd (show b ∈ ([] : List Addr) from z) List.not_mem_nil, hok, .of_eq hg⟩
  have tabOf : ∀ {c T : Addr}, PySem.W.CodeHd s₁.heap c T → s₁.heap.get? T = some emptyTab → TabB (hidT s₁.heap H) mg c T := by
    intro c T hd eT
    obtain ⟨o, us, fl, tf, fg, tg, iF, tx, tt, q1, q2, q3, q4, q5⟩ := hd
    obtain ⟨bm, ob, y1, y2, y3, y4, y5, y6⟩ := hbm
    refine ⟨⟨o, us, fl, tf, fg, tg, iF, tx, tt, hidT_get q1 (off q1 ?_ ?_), q2, q3, q4, q5⟩, ⟨bm, ob, y1, y2, ?_, ?_, hidT_get y3 (off y3 ?_ ?_), y4, y5, y6⟩, ?_⟩
    · intro us' n z
      rw [q3] at z
      cases z
    · intro z
      rw [q3] at z
      cases z
      cases q4
    · rintro rfl
      obtain ⟨o', es, ep, e, d, _⟩ := hns
      rw [e] at y3
      cases y3
      rw [d] at y6
      cases y6
    · rintro rfl
      rw [eT] at y3
      cases y3
      cases y6
    · intro us' n z
      rw [y6] at z
      cases z
    · intro z
      rw [y6] at z
      cases z
    · rintro rfl
      obtain ⟨o', es, ep, e, d, _⟩ := hns
      rw [eT] at e
      cases e
      cases d
  have run := (F _ kin (ns_free hns) (tabOf tw.h1 tw.e1) (tabOf tw.h2 tw.e2)).go callerA [] s₁ H ⟨[.ref a], []⟩ [.ref a] [.ref a] _ _ rfl hr e0
    (hbind s₁ (.ref a)) (.cons rfl .nil) hS
  refine codeAny_mono run ?_
  intro r s' h
  match r, h with
  | .error e, h => exact False.elim h
  | .ok (.ret u), ⟨v, H', os, bare, un, hok', r', q⟩ =>
    subst q
    obtain rfl : u = Value.bool true := r'
    have grown : ∀ {T : Addr}, H T = some (.tbl #[]) → ∃ more : Array Value, s'.heap.get? T = some { cls := .none, data := .fields more } := by
      intro T hT
      obtain ⟨more, z⟩ := un.tbls T #[] hT
      exact ⟨_, hok' T _ z⟩
    have rest : ∀ b o, b ≠ P1 → b ≠ P2 → s₁.heap.get? b = some o → s'.heap.get? b = some o := by
      intro b o z1 z2 e
      cases q : H b with
      | none => exact un.keep b o e q (fun z => absurd (show b ∈ ([] : List Addr) from z) List.not_mem_nil) List.not_mem_nil
      | some u =>
        rcases hO b with z | (z | z) | ⟨ob, xs, z⟩
        · rw [q] at z; cases z
        · exact absurd z z1
        · exact absurd z z2
        · have y2 := (hok' b _ (un.frzs b ob _ z)).1
          have y1 := (hok b _ z).1
          rw [e] at y1
          cases y1
          exact y2
    refine ⟨rfl, ⟨fun b o e => ?_, fun b o e => ?_⟩, os, bare⟩
    · by_cases z1 : b = P1
      · subst z1
        obtain ⟨more, hm⟩ := grown hH1
        rw [tw.e1] at e
        cases e
        exact .inr (.inl ⟨(tw.h1.tab tw.e1).isCodeTable, rfl, #[], more, rfl, by rw [hm, Array.empty_append]⟩)
      · by_cases z2 : b = P2
        · subst z2
          obtain ⟨more, hm⟩ := grown hH2
          rw [tw.e2] at e
          cases e
          exact .inr (.inl ⟨(tw.h2.tab tw.e2).isCodeTable, rfl, #[], more, rfl, by rw [hm, Array.empty_append]⟩)
        · exact .inl (rest b o z1 z2 e)
    · by_cases z1 : b = P1
      · subst z1
        exact let ⟨_, hm⟩ := grown hH1; ⟨_, hm⟩
      · by_cases z2 : b = P2
        · subst z2
          exact let ⟨_, hm⟩ := grown hH2; ⟨_, hm⟩
        · exact ⟨o, rest b o z1 z2 e⟩
theorem law_callTG (KX : K.In s₁.heap) (hns : s₁.heap.Ns mainGlobals mg) (hb : s₁.heap.Ns builtinsNs mb)
    (hbb : ∀ x : Str, x ≠ "__name__" → mb x = bootBuiltins x) (hlim : s₁.heap.NoLimit) (hg : s₁.gens = #[])
    (tw : Two s₁ K c1 P1 c2 P2)
    (hbm : ∃ (bm : Addr) (ob : Obj), mg "__builtins__" = some (.ref bm) ∧ bm ≠ builtinsNs ∧ s₁.heap.get? bm = some ob ∧
      ob.cls = .type "module" ∧ ob.dict = some builtinsNs ∧ ob.data = .plain)
    (ha : s₁.heap.get? a = some { cls := .type "list", data := .seq vs.toArray }) (hi : IntsAre vs ns)
    (hl : ns.length ≤ sizeLine) (hr : Room k callerA)
    (F : ∀ base : Heap, K.In base → base.Ns mainGlobals mg → TabB base mg c1 P1 → TabB base mg c2 P2 → FnG P w K mg base CX0 k fa fd [x] sp)
    (hbind : ∀ (s : Shared) (u : Value), BindsTo s fd ⟨[u], []⟩ [(x, u)])
    (hsp : ∀ H : Hp, H P1 = some (.tbl #[]) → H P2 = some (.tbl #[]) → SqL K H a (ns.map V.int) →
      sp [.ref a] H (fun v _ => v = .bl true) fun _ _ _ => False) :
    codeAny (model P w) callerA (.call (.ref fa) ⟨[.ref a], []⟩) (LawEnd s₁) s₁ := by
  have rv := vals_ints hi
  have lenV := hi.length
  have aT : ∀ {T : Addr}, s₁.heap.get? T = some emptyTab → T ≠ a := fun {T} e z => by
    rw [z, ha] at e
    cases e
  have tblOk : ∀ {H : Hp} {T : Addr}, s₁.heap.get? T = some emptyTab → ObjOk P w H s₁.heap T (.tbl #[]) := fun {H T} e => e
  cases hk : K.lookup a with
  | some o =>
    have e := KX a o hk
    rw [ha] at e
    cases e
    let H : Hp := fun b => if b = P1 ∨ b = P2 then some (.tbl #[]) else none
    have on : ∀ b, b = P1 ∨ b = P2 → H b = some (.tbl #[]) := fun b z => if_pos z
    have off : ∀ b, ¬ (b = P1 ∨ b = P2) → H b = none := fun b z => if_neg z
    have hS : SqL K H a (ns.map V.int) := by
      refine .inr ⟨_, vs.toArray, _, hk, rfl, rfl, rfl, ?_, by simpa using rv⟩
      rw [List.size_toArray, lenV]
      exact hl
    have nA : ¬ (a = P1 ∨ a = P2) := fun z => z.elim (fun z => aT tw.e1 z.symm) (fun z => aT tw.e2 z.symm)
    refine law_coreT KX hns hb hbb hlim hg tw hbm ha hr F hbind H (fun b => ?_) (on _ (.inl rfl)) (on _ (.inr rfl)) (hsp H (on _ (.inl rfl)) (on _ (.inr rfl)) hS) (fun b u z => ?_) (fun b z => ?_) (fun z => absurd (off a nA) z)
    · by_cases z : b = P1 ∨ b = P2
      · exact .inr (.inl z)
      · exact .inl (off b z)
    · by_cases y : b = P1 ∨ b = P2
      · rw [on b y] at z
        cases z
        rcases y with rfl | rfl
        · exact tblOk tw.e1
        · exact tblOk tw.e2
      · rw [off b y] at z
        cases z
    · by_cases y : b = P1 ∨ b = P2
      · exact .inr y
      · exact absurd (off b y) z
  | none =>
    let ob : Obj := { cls := .type "list", data := .seq vs.toArray }
    let H : Hp := fun b => if b = a then some (.frz ob (.lst (ns.map V.int))) else if b = P1 ∨ b = P2 then some (.tbl #[]) else none
    have at_a : H a = some (.frz ob (.lst (ns.map V.int))) := if_pos rfl
    have on : ∀ b, b ≠ a → b = P1 ∨ b = P2 → H b = some (.tbl #[]) := fun b n z => (if_neg n).trans (if_pos z)
    have off : ∀ b, b ≠ a → ¬ (b = P1 ∨ b = P2) → H b = none := fun b n z => (if_neg n).trans (if_neg z)
    have h1 : H P1 = some (.tbl #[]) := on _ (aT tw.e1) (.inl rfl)
    have h2 : H P2 = some (.tbl #[]) := on _ (aT tw.e2) (.inr rfl)
    refine law_coreT KX hns hb hbb hlim hg tw hbm ha hr F hbind H (fun b => ?_) h1 h2 (hsp H h1 h2 (.inl (.inr ⟨ob, at_a⟩))) (fun b u z => ?_) (fun b z => ?_) (fun _ => hk)
    · by_cases n : b = a
      · subst n
        exact .inr (.inr ⟨_, _, at_a⟩)
      · by_cases z : b = P1 ∨ b = P2
        · exact .inr (.inl z)
        · exact .inl (off b n z)
    · by_cases n : b = a
      · subst n
        rw [at_a] at z
        cases z
        exact ⟨ha, by rw [List.length_map]; exact hl, vs, _, rv, ha⟩
      · by_cases y : b = P1 ∨ b = P2
        · rw [on b n y] at z
          cases z
          rcases y with rfl | rfl
          · exact tblOk tw.e1
          · exact tblOk tw.e2
        · rw [off b n y] at z
          cases z
    · by_cases n : b = a
      · exact .inl n
      · by_cases y : b = P1 ∨ b = P2
        · exact .inr y
        · exact absurd (off b n y) z
end
/-- a def of the program, its code object and that one's table, as the written part tells them -/
def OneTab (K : PySem.W.Frag) (mg : Str → Option Value) (n : Str) (c T : Addr) : Prop :=
  ∃ (f : Addr) (o : Obj) (fd : FuncData), mg n = some (.ref f) ∧ K.lookup f = some o ∧ o.data = .func fd ∧ fd.code = .ref c ∧
    PySem.W.codeHdIn K c T = true ∧ K.lookup T = none
/-- the goal that the head leaves, from the law's promise; the defs n1 and n2 make lambdas -/
theorem walkTG {l : PySem.W.OpenLaw} {n k : Nat} {q : Program} {loose : List Str}
    {XP : (Str → Option Value) → Heap → Prop} {YP : World → Heap → Prop} {d : DefRec}
    {K : Params → PySem.W.Frag} {sp : Addr → Addr → PySem.W.Frag → Sp} {x n1 n2 : Str} (hn : l.most = some n)
    (hn2 : n ≤ sizeLine) (hdf : d.params.defaults = []) (hr : Room k callerA)
    (r1 : ((recsOf q).any fun e => e.name == n1) = true) (r2 : ((recsOf q).any fun e => e.name == n2) = true)
    (hY : ∀ (w : World) (h : Heap), YP w h → (K w.params).In h)
    (F : ∀ (w : World) (mg : Str → Option Value) (fa : Addr) (h : Heap), (K w.params).In h →
      h.Ns mainGlobals mg → mg d.name = some (.ref fa) →
      ∃ (fd : FuncData) (c1 P1 c2 P2 : Addr), OneTab (K w.params) mg n1 c1 P1 ∧ OneTab (K w.params) mg n2 c2 P2 ∧
        (∀ (s : Shared) (u : Value), BindsTo s fd ⟨[u], []⟩ [(x, u)]) ∧
        ∀ base : Heap, (K w.params).In base → base.Ns mainGlobals mg → TabB base mg c1 P1 → TabB base mg c2 P2 →
          FnG l.prog w (K w.params) mg base CX0 k fa fd [x] (sp P1 P2 (K w.params)))
    (hsp : ∀ (P1 P2 : Addr) (K : PySem.W.Frag) (H : Hp) (a : Addr) (ns : List Int), ns.length ≤ n → H P1 = some (.tbl #[]) → H P2 = some (.tbl #[]) →
      SqL K H a (ns.map V.int) → sp P1 P2 K [.ref a] H (fun v _ => v = .bl true) fun _ _ _ => False) :
    PySem.W.WalkO q loose XP YP l.row.toRowW d [] (fun f vs => PySem.call f vs) := by
  refine Att.attach_call hn hdf ?_
  intro w s₀ s₁ mg mb fa o pm cd doc a vs ns G Y ho hd hcd hmg hobj hints hlen hg
  have KX := hY w _ Y
  obtain ⟨fd, c1, P1, c2, P2, o1, o2, hb, hF⟩ := F w mg fa _ KX G.T.g hmg
  have get : ∀ {n c T}, ((recsOf q).any fun e => e.name == n) = true → OneTab (K w.params) mg n c T → s₁.heap.get? T = some emptyTab ∧ (K w.params).lookup T = none ∧ PySem.W.CodeHd s₁.heap c T := by
    rintro n c T r ⟨f, o, fd, z1, z2, z3, z4, z5, z6⟩
    obtain ⟨dL, hm, hnm⟩ := List.any_eq_true.mp r
    obtain rfl : dL.name = n := beq_iff_eq.mp hnm
    obtain ⟨a', o', fd', c', T', y1, y2, y3, y4, y5, y6⟩ := G.T.tab dL hm
    cases z1.symm.trans y1
    cases (KX _ _ z2).symm.trans y2
    cases z3.symm.trans y3
    cases z4.symm.trans y4
    have H1 := PySem.W.codeHd_of_K KX z5
    obtain ⟨⟨ob, us, x1, _, x3, x4⟩, x5⟩ := y6
    obtain ⟨ob2, us2, _, _, _, _, _, _, _, w1, _, w3, w4, _⟩ := id H1
    cases x1.symm.trans w1
    cases x3.symm.trans w3
    cases x4.symm.trans w4
    exact ⟨x5, z6, H1⟩
  obtain ⟨t1, u1, v1⟩ := get r1 o1
  obtain ⟨t2, u2, v2⟩ := get r2 o2
  exact law_callTG KX G.T.g G.T.b G.T.builtins G.T.nolimit hg ⟨t1, t2, u1, u2, v1, v2⟩ G.T.bmain hobj hints (Nat.le_trans hlen hn2) hr hF hb
    (fun H hH1 hH2 hS => hsp P1 P2 _ H a ns hlen hH1 hH2 hS)
end Q
set_option Elab.async false
set_option linter.all false
set_option maxRecDepth 100000
set_option maxHeartbeats 4000000
/-! Values of every kind beside texts: in, and == of pairs. -/
namespace PySem.SeqAt
open MeetsSeq
section
variable {A : Around} {s : Shared}
theorem odd_str_eq_dict (b : Str) (u : Tok) (a : Addr) (c : Value) (dd : Option Addr) (es : Array DictEntry) (ep : Nat) (sl : Array (Option Value)) :
    Meets (Builtin.«str.__eq__» ⟨[.str b u, .ref a], []⟩) (fun _ R s => s.heap.get? a = some { cls := c, dict := dd, data := .dict es ep, slots := sl } ∧ R (.ok (.ret .notImplemented)) s) :=
  .of_wp fun prog w A R s h => by
    obtain ⟨hp, g, d, tk, os⟩ := s
    obtain ⟨hl, h⟩ := h
    wp_walk using wpAny_loadPart' hl, wpAny_load hl
    exact ⟨_, rfl, h⟩
theorem odd_dict_eq_str (b : Str) (u : Tok) (a : Addr) (dd : Option Addr) (es : Array DictEntry) (ep : Nat) (sl : Array (Option Value)) :
    Meets (Builtin.«dict.__eq__» ⟨[.ref a, .str b u], []⟩) (fun _ R s => s.heap.get? a = some { cls := .type "dict", dict := dd, data := .dict es ep, slots := sl } ∧ R (.ok (.ret .notImplemented)) s) :=
  .of_wp fun prog w A R s h => by
    obtain ⟨hl, h⟩ := h
    have hT : s.TypeIs (.ref a) "dict" := ⟨_, hl, rfl⟩
    show wpAny _ _ (Builtin.Dict.dictSlotArgs "__eq__" ⟨[.ref a, .str b u], []⟩ >>= _) _ _ s
    refine wpAny_bind ?_
    unfold Builtin.Dict.dictSlotArgs
    refine wpAny_bind (wpAny_notOrdered_dict hT ?_)
    show wpAny _ _ (pure (Value.ref a, Value.str b u)) _ _ s
    refine wpAny_pure (wpAny_bind (wpAny_isInstance (T := "str") (typeIs_str s b u) F.sub_str_dict ?_))
    simp only [Bool.not_false, if_true]
    exact wpAny_bind (wpAny_rule (wpAny_pure ⟨_, rfl, h⟩))
theorem rc_str_dict {a : Addr} {dd : Option Addr} {es : Array DictEntry} {ep : Nat} {sl : Array (Option Value)} (b : Str) (u : Tok)
    (hl : s.heap.get? a = some { cls := .type "dict", dict := dd, data := .dict es ep, slots := sl }) (hu : A.units < cLine) : RcAt A s (.str b u) (.ref a) false := fun prog w E Q h =>
  rc_eq_decline_or (k := false) (typeIs_str s b u) ⟨_, hl, rfl⟩ (by decide) F.sub_dict_str F.slot_str_eq F.slot_dict_eq_refl
    (fun _ hq => call_meets F.slot_str_eq (typeIs_str s b u) F.entry_str_eq (F.args_str_eq_2 _ _) (odd_str_eq_dict b u a _ dd es ep sl) ⟨hl, hq⟩)
    (fun _ hq => call_meets F.slot_dict_eq_refl ⟨_, hl, rfl⟩ F.entry_dict_eq (F.args_dict_eq_2 _ _) (odd_dict_eq_str b u a dd es ep sl) ⟨hl, hq⟩)
    (fun _ hq => wpAny_of_eq (rfl : isSame (.str b u) (.ref a) = pure false) hq) (.inr hu) h
theorem eqAt_str_dict {a : Addr} {dd : Option Addr} {es : Array DictEntry} {ep : Nat} {sl : Array (Option Value)} (b : Str) (u : Tok)
    (hl : s.heap.get? a = some { cls := .type "dict", dict := dd, data := .dict es ep, slots := sl }) (hu : A.units < cLine) : EqAt A s (.str b u) (.ref a) false := fun prog w E Q h => by
  unfold eqBool
  refine wpAny_holding (wpAny_ite_split (fun hab => absurd (eq_of_beq hab) nofun) fun _ => ?_)
  exact wpAny_bind (rc_str_dict b u hl hu prog w E _ (wpAny_truthy_bool h))
end
end PySem.SeqAt
namespace Q
open PySem PySem.Spec PyProof.Rows L2 PySem.W
/-- a value of a told kind -/
inductive Odd (K : PySem.W.Frag) (H : Hp) : V → Prop
  | non : Odd K H .non
  | bl (b : Bool) : Odd K H (.bl b)
  | int (i : Int) : Odd K H (.int i)
  | str (x : Str) : Odd K H (.str x)
  | lst {a : Addr} {xs : List V} : SqL K H a xs → Odd K H (.ref a)
  | tup {a : Addr} {xs : List V} : SqT K H a xs → Odd K H (.ref a)
  | dic {a : Addr} {kvs : List (Key × V)} : H a = some (.dK kvs) → Odd K H (.ref a)
/-- whether it is this text -/
def isStr (x : V) (z : Str) : Bool := match x with
  | .str y => z == y
  | _ => false
section
variable {X : Cx} {pins : List (Addr × Obj)} {σ : L2.St} {H : Hp} {s : Shared}
theorem eqAt_odd {A : Around} {x : V} {v : Value} (I : Inv X pins σ H s) (hu : A.units < cLine) (o : Odd X.K H x) (rx : RelV x v) (z : Str) (t : Tok) : SeqAt.EqAt A s (.str z t) v (isStr x z) := by
  cases o with
  | non =>
    cases (show v = Value.none from rx)
    exact SeqAt.EqAt.str_none z t
  | bl b =>
    cases (show v = Value.bool b from rx)
    exact SeqAt.EqAt.str_bool z t b
  | int i =>
    obtain ⟨u, q⟩ := (show ∃ u, v = Value.int i u from rx)
    cases q
    exact SeqAt.EqAt.str_int z t i u
  | str y =>
    obtain ⟨u, q⟩ := (show ∃ u, v = Value.str y u from rx)
    cases q
    exact SeqAt.EqAt.str_str z t y u
  | @lst a xs h =>
    cases (show v = Value.ref a from rx)
    obtain ⟨its, _, pl, _⟩ := I.list h
    exact SeqAt.EqAt.str_list z t pl.isList hu
  | @tup a xs h =>
    cases (show v = Value.ref a from rx)
    obtain ⟨its, _, pl, _⟩ := I.tuple h
    exact SeqAt.EqAt.str_tuple z t pl hu
  | @dic a kvs h =>
    cases (show v = Value.ref a from rx)
    obtain ⟨_, _, vs, kv, o, es, ep, ho, hx, hd, _⟩ := I.hok _ _ h
    obtain ⟨c, dd, da, sl⟩ := o
    have hc := hx.1
    simp only at hc hd
    subst hc hd
    exact SeqAt.eqAt_str_dict z t ho hu
def isStrU (x : V) : Value → Bool
  | .str z _ => isStr x z
  | _ => false
theorem any_isStrU {x : V} : ∀ {zs : List Str} {us : List Value}, Vals (zs.map V.str) us → us.any (isStrU x) = zs.any (isStr x)
  | [], _, .nil => rfl
  | z :: zs, _, .cons r t => by
    obtain ⟨tk, rfl⟩ := r
    rw [List.any_cons, List.any_cons, any_isStrU t]
    rfl
theorem strs_each {A : Around} {x : V} {v : Value} (I : Inv X pins σ H s) (hu : A.units < cLine) (o : Odd X.K H x) (rx : RelV x v) : ∀ {zs : List Str} {us : List Value}, Vals (zs.map V.str) us → ∀ u ∈ us, SeqAt.EqAt A s u v (isStrU x u)
  | [], _, .nil, u, hu' => by cases hu'
  | z :: zs, _, .cons r t, u, hu' => by
    rcases List.mem_cons.mp hu' with q | q
    · subst q
      obtain ⟨tk, rfl⟩ := r
      exact eqAt_odd I hu o rx z tk
    · exact strs_each I hu o rx t u q
/-- x in a tuple of texts, x of any told kind -/
def rInO (K : PySem.W.Frag) (neg : Bool) : R2 := fun x y H Q => ∃ (p : Addr) (zs : List Str), y = .ref p ∧ SqT K H p (zs.map V.str) ∧ Odd K H x ∧ Q (.bl (if neg then !(zs.any (isStr x)) else zs.any (isStr x))) H
theorem op_inO (hu : X.A.units + 1 < cLine) : OpR X (compareOp .In) (rInO X.K false) := by
  intro pins s σ H x y v u Q I rx ry h
  obtain ⟨p, zs, rfl, hp, o, q⟩ := h
  cases ry
  obtain ⟨its, r, pl, _⟩ := I.tuple hp
  refine SeqAt.in_tupleAt (isStrU x) pl (fun y hy => strs_each I hu o rx r y (by simpa using hy)) ⟨.bl _, H, I, rfl, ?_⟩
  rw [show its.toArray.any (isStrU x) = its.any (isStrU x) by simp, any_isStrU r]
  exact q
theorem op_notInO (hu : X.A.units + 1 < cLine) : OpR X (compareOp .NotIn) (rInO X.K true) := by
  intro pins s σ H x y v u Q I rx ry h
  obtain ⟨p, zs, rfl, hp, o, q⟩ := h
  cases ry
  obtain ⟨its, r, pl, _⟩ := I.tuple hp
  refine SeqAt.notIn_tupleAt (isStrU x) pl (fun y hy => strs_each I hu o rx r y (by simpa using hy)) ⟨.bl _, H, I, rfl, ?_⟩
  rw [show its.toArray.any (isStrU x) = its.any (isStrU x) by simp, any_isStrU r]
  exact q
/-- (z, t) == (x, y), two texts beside two values of any told kind -/
def rEqP (K : PySem.W.Frag) (ne : Bool) : R2 := fun u v H Q => ∃ (a b : Addr) (z t : Str) (x y : V), u = .ref a ∧ v = .ref b ∧ SqT K H a [.str z, .str t] ∧ SqT K H b [x, y] ∧ Odd K H x ∧ Odd K H y ∧
  Q (.bl (if ne then !(isStr x z && isStr y t) else (isStr x z && isStr y t))) H
theorem op_eqP (hu : X.A.units + 1 < cLine) : OpR X (compareOp .Eq) (rEqP X.K false) := by
  intro pins s σ H u v w1 w2 Q I ru rv h
  obtain ⟨a, b, z, t, x, y, rfl, rfl, ha, hb, ox, oy, q⟩ := h
  cases ru
  cases rv
  obtain ⟨its, r1, pl1, _⟩ := I.tuple ha
  obtain ⟨its2, r2, pl2, _⟩ := I.tuple hb
  obtain ⟨v1, v2, rfl, ⟨tz, rfl⟩, ⟨tt, rfl⟩⟩ := vals2 r1
  obtain ⟨v3, v4, rfl, rx, ry⟩ := vals2 r2
  have hu1 : X.A.in1.units < cLine := hu
  refine SeqAt.eq_tupleAt (e := fun i => if i = 0 then isStr x z else isStr y t) pl1 pl2 (by omega) (fun j h1 h2 => ?_) ⟨.bl _, H, I, rfl, ?_⟩
  · match j, h1, h2 with
    | 0, _, _ => exact eqAt_odd I hu1 ox rx z tz
    | 1, _, _ => exact eqAt_odd I hu1 oy ry t tt
    | j + 2, h1, _ => exact absurd h1 (by simp)
  · have e : ((List.range (min (#[Value.str z tz, Value.str t tt] : Array Value).size (#[v3, v4] : Array Value).size)).all (fun i => if i = 0 then isStr x z else isStr y t) && (#[Value.str z tz, Value.str t tt] : Array Value).size == (#[v3, v4] : Array Value).size) = (isStr x z && isStr y t) := by
      show ((List.range 2).all (fun i => if i = 0 then isStr x z else isStr y t) && true) = _
      rw [Bool.and_true]
      show ([0, 1].all fun i => if i = 0 then isStr x z else isStr y t) = _
      simp
    show Q (.bl _) H
    rw [show ([Value.str z tz, Value.str t tt] : List Value).toArray = #[Value.str z tz, Value.str t tt] from rfl, show ([v3, v4] : List Value).toArray = #[v3, v4] from rfl, e]
    exact q
theorem op_neP (hu : X.A.units + 1 < cLine) : OpR X (compareOp .NotEq) (rEqP X.K true) := by
  intro pins s σ H u v w1 w2 Q I ru rv h
  obtain ⟨a, b, z, t, x, y, rfl, rfl, ha, hb, ox, oy, q⟩ := h
  cases ru
  cases rv
  obtain ⟨its, r1, pl1, _⟩ := I.tuple ha
  obtain ⟨its2, r2, pl2, _⟩ := I.tuple hb
  obtain ⟨v1, v2, rfl, ⟨tz, rfl⟩, ⟨tt, rfl⟩⟩ := vals2 r1
  obtain ⟨v3, v4, rfl, rx, ry⟩ := vals2 r2
  have hu1 : X.A.in1.units < cLine := hu
  refine SeqAt.RcNeAt.tuples (e := fun i => if i = 0 then isStr x z else isStr y t) pl1 pl2 (by omega) (fun j h1 h2 => ?_) X.prog X.w _ _ ⟨.bl _, H, I, rfl, ?_⟩
  · match j, h1, h2 with
    | 0, _, _ => exact eqAt_odd I hu1 ox rx z tz
    | 1, _, _ => exact eqAt_odd I hu1 oy ry t tt
    | j + 2, h1, _ => exact absurd h1 (by simp)
  · have e : ((List.range (min (#[Value.str z tz, Value.str t tt] : Array Value).size (#[v3, v4] : Array Value).size)).all (fun i => if i = 0 then isStr x z else isStr y t) && (#[Value.str z tz, Value.str t tt] : Array Value).size == (#[v3, v4] : Array Value).size) = (isStr x z && isStr y t) := by
      show ((List.range 2).all (fun i => if i = 0 then isStr x z else isStr y t) && true) = _
      rw [Bool.and_true]
      show ([0, 1].all fun i => if i = 0 then isStr x z else isStr y t) = _
      simp
    show Q (.bl _) H
    rw [show ([Value.str z tz, Value.str t tt] : List Value).toArray = #[Value.str z tz, Value.str t tt] from rfl, show ([v3, v4] : List Value).toArray = #[v3, v4] from rfl, e]
    exact q
end
end Q
set_option Elab.async false
set_option linter.all false
set_option maxRecDepth 100000
set_option maxHeartbeats 4000000
/-! Lambdas as values: made, kept in lists, passed on, called elsewhere. -/
namespace Q
open PySem PySem.Spec PyProof.Rows L2 LamX NdefX

/-! ### the closure's object -/
/-- at f stands the closure F with this body -/
def CloO (f : Addr) (F : NF) (body : Expr) : HO :=
  .ext fun h => ∃ pm ctv : Value, h.get? f = some (PySem.W.kla_obj F.name F.qual F.params body F.scope F.cl pm F.c ctv)
section
variable {P : Program} {w : World} {H : Hp} {h : Heap} {f : Addr} {F : NF} {body : Expr}
theorem cloO_at (ok : HOk P w H h) (e : H f = some (CloO f F body)) :
    ∃ pm ctv : Value, h.get? f = some (PySem.W.kla_obj F.name F.qual F.params body F.scope F.cl pm F.c ctv) := (ok f _ e).1
end
section
variable {X : Cx} {pins : List (Addr × Obj)} {σ : L2.St} {H : Hp} {s : Shared}
theorem clo_laid {F : NF} {body : Expr} {pm ctv : Value} {tk : Nat} {h' : Heap} (J : Inv X pins σ H { s with heap := h', toks := tk }) :
    Inv X pins σ (upd H h'.objs.size (CloO h'.objs.size F body))
      { s with heap := h'.push (PySem.W.kla_obj F.name F.qual F.params body F.scope F.cl pm F.c ctv), toks := tk } := by
  have top : (h'.push (PySem.W.kla_obj F.name F.qual F.params body F.scope F.cl pm F.c ctv)).get? h'.objs.size = some (PySem.W.kla_obj F.name F.qual F.params body F.scope F.cl pm F.c ctv) :=
    Heap.get?_push_size _ rfl
  refine J.laid (t' := tk) (fun _ _ e => Heap.get?_push_of_some _ e) (Nat.le_refl h'.objs.size) ?_
  refine ⟨⟨pm, ctv, top⟩, ⟨_, top⟩, ?_⟩
  rintro g g' ⟨pm', ctv', e⟩ st
  exact ⟨pm', ctv', st _ e⟩
/-- a lambda is made: the closure is tracked -/
theorem lam_val {T : List (Addr × Str)} {c P : Addr} {params : Arguments} {body : Expr} {scope : Scope} {pos : Pos} {E Q : Value → Shared → Prop}
    (I : Inv X pins σ H s) (TB : TabB X.base X.mg c P) (code : X.env.code = .ref c) (hm : (P, X.env.qual ++ "<lambda>") ∈ T)
    (hu : ∀ p ∈ T, p.1 = P → p.2 = X.env.qual ++ "<lambda>") (hT : Tabs T H) (hdef : defaultsOf params X.env = ([], []))
    (hfree : ∀ y ∈ scope.names, y.2 = .free → ∃ c, X.env.cells.lookup y.1 = some c)
    (k : ∀ (f c' : Addr) (H1 : Hp) (s' : Shared), Inv X pins σ H1 s' → ExtN H H1 → Tabs T H1 → H f = none →
      H1 f = some (CloO f ⟨"<lambda>", X.env.qual ++ "<lambda>", params, [], scope, cloFrom X.env.cells scope.names [], c'⟩ body) →
      H1 c' = some (CodeO c' (X.env.qual ++ "<lambda>")) → Q (.ref f) s') :
    wpAny (model X.prog X.w) X.A (eval (.Lambda params body scope pos) X.env) Q E s := by
  have tab := hT _ hm
  obtain ⟨ps, atP, tri, amg⟩ := tab
  have bl := TB.bm.keeps I.bk
  have hp := I.hok P _ atP
  refine PySem.W.kla_eval hdef ?_
  -- what the new closure adds to a heap that holds the tables
  have last : ∀ {H0 : Hp} {h' : Heap} {tk : Nat} {c' : Addr} {pm ctv : Value}, Inv X pins σ H0 { s with heap := h', toks := tk } → ExtN H H0 → Tabs T H0 → H0 c' = some (CodeO c' (X.env.qual ++ "<lambda>")) → s.heap.objs.size ≤ h'.objs.size →
      Q (.ref h'.objs.size) { s with heap := h'.push (PySem.W.kla_obj "<lambda>" (X.env.qual ++ "<lambda>") params body scope (cloFrom X.env.cells scope.names []) pm c' ctv), toks := tk } := by
    intro H0 h' tk c' pm ctv J ext tb hc sz
    have new : H0 h'.objs.size = none := J.hok.fresh (Nat.le_refl _)
    have keepN : ∀ b o, H0 b = some o → upd H0 h'.objs.size (CloO h'.objs.size ⟨"<lambda>", X.env.qual ++ "<lambda>", params, [], scope, cloFrom X.env.cells scope.names [], c'⟩ body) b = some o :=
      fun b o e => (upd_ne (ne_of_none e new)).trans e
    exact k _ c' _ _ (clo_laid (F := ⟨"<lambda>", X.env.qual ++ "<lambda>", params, [], scope, cloFrom X.env.cells scope.names [], c'⟩) J)
      (fun b o e n => keepN b o (ext b o e n)) (tb.ext keepN) (I.hok.fresh sz) upd_same (keepN _ _ hc)
  cases am : codeAmong pos ps.toList with
  | some cv =>
    obtain ⟨c', rfl, hco⟩ := amg pos cv am
    refine PySem.W.kla_makeFunctionHit (mg := X.mg) (c := c) (P := P) (ps := ps) (closure_ok hfree) I.ok.glob
      (I.mod.glob.keeps I.bk) code (TB.code.keeps I.bk) hp tri am bl ?_
    intro ctv h' tk kept sz
    exact last (I.kept (t' := tk) kept) (ExtN.refl H) hT hco sz
  | none =>
    refine PySem.W.kla_makeFunction (mg := X.mg) (c := c) (P := P) (ps := ps) (closure_ok hfree) I.ok.glob
      (I.mod.glob.keeps I.bk) code (TB.code.keeps I.bk) hp tri am TB.gP bl ?_
    rintro c' ctv h' tk but new lt ⟨_, oc, vs, t, e0, e1, e2, e3⟩ atP'
    cases e0
    have J := inv_table (t' := tk) (more := #[rawInt pos.line, rawInt pos.col, .ref c']) (h' := h') I atP (fun b o n e => but b o n e) atP' new ⟨oc, vs, t, e1, e2, e3⟩
    have nC : H c' = none := I.hok.fresh new
    have ext : ExtN H (upd (upd H P (.tbl (ps ++ #[rawInt pos.line, rawInt pos.col, .ref c']))) c' (CodeO c' (X.env.qual ++ "<lambda>"))) := by
      intro b o e n
      have bP : b ≠ P := by
        rintro rfl
        rw [atP] at e
        exact n ps (Option.some.inj e).symm
      rw [upd_ne (ne_of_none e nC), upd_ne bP]
      exact e
    refine last J ext ?_ upd_same (Nat.le_trans new (Nat.le_of_lt lt))
    intro p hpT
    by_cases same : p.1 = P
    · rw [hu p hpT same, same]
      refine ⟨ps ++ #[rawInt pos.line, rawInt pos.col, .ref c'], ?_, ?_, ?_⟩
      · rw [upd_ne (ne_of_none atP nC), upd_same]
      · rw [show (ps ++ #[rawInt pos.line, rawInt pos.col, Value.ref c']).toList = ps.toList ++ [rawInt pos.line, rawInt pos.col, .ref c'] by simp]
        exact PySem.TriplesOk_snoc _ _ _ _ tri
      · intro pos2 cv2 am2
        have am3 : codeAmong pos2 (ps.toList ++ [rawInt pos.line, rawInt pos.col, .ref c']) = some cv2 := by simpa using am2
        rcases among_app _ tri am3 with old | rfl
        · obtain ⟨c0, e4, e5⟩ := amg pos2 cv2 old
          exact ⟨c0, e4, ext _ _ e5 codeO_ne⟩
        · exact ⟨c', rfl, upd_same⟩
    · obtain ⟨ps2, b1, b2, b3⟩ := hT p hpT
      refine ⟨ps2, ?_, b2, fun pos2 cv2 am2 => ?_⟩
      · rw [upd_ne (ne_of_none b1 nC), upd_ne same]
        exact b1
      · obtain ⟨c0, e4, e5⟩ := b3 pos2 cv2 am2
        exact ⟨c0, e4, ext _ _ e5 codeO_ne⟩
/-- a lambda as a value -/
def tLamV (T : List (Addr × Str)) (mk : Addr → NF) (body : Expr) : TE := fun _ H Q => Tabs T H ∧ ∀ (f c' : Addr) (H1 : Hp), ExtN H H1 → Tabs T H1 → H f = none →
  H1 f = some (CloO f (mk c') body) → H1 c' = some (CodeO c' (mk c').qual) → Q (.ref f) H1
theorem pe_lamV {T : List (Addr × Str)} {c P : Addr} {params : Arguments} {body : Expr} {scope : Scope} {pos : Pos}
    (TB : TabB X.base X.mg c P) (code : X.env.code = .ref c) (hm : (P, X.env.qual ++ "<lambda>") ∈ T)
    (hu : ∀ p ∈ T, p.1 = P → p.2 = X.env.qual ++ "<lambda>") (hdef : defaultsOf params X.env = ([], []))
    (L : ∀ y ∈ scope.names, y.2 = .free → X.env.scope.names.lookup y.1 = some .cell ∨ X.env.scope.names.lookup y.1 = some .free) :
    PE X (.Lambda params body scope pos) (tLamV T (fun c' => ⟨"<lambda>", X.env.qual ++ "<lambda>", params, [], scope, cloFrom X.env.cells scope.names [], c'⟩) body) := by
  refine ⟨fun pins s σ H Q I h => ?_⟩
  refine lam_val I TB code hm hu h.1 hdef (fun y hy e => (L y hy e).elim (fun z => I.ok.has _ (.inl z)) fun z => I.ok.has _ (.inr z)) ?_
  intro f c' H1 s' J e t n1 n2 n3
  exact ⟨.ref f, H1, J, rfl, h.2 f c' H1 e t n1 n2 n3⟩
end
end Q
set_option Elab.async false
set_option linter.all false
set_option maxRecDepth 100000
set_option maxHeartbeats 4000000
/-! A closure's promise; cells that are pinned while a call runs. -/
namespace Q
open PySem PySem.Spec PyProof.Rows L2 LamX NdefX

/-- the promise of a lambda: ws: what its captured cells hold at the call -/
structure LOk (P : Program) (w : World) (K : PySem.W.Frag) (mg : Str → Option Value) (base : Heap) (k : Nat) (f : Addr) (F : NF) (body : Expr)
    (fr : List Str) (sp : List (Option V) → Hp → VK → XK → Prop) : Prop where
  run : ∀ (A : Around) (outer : List Env) (s : Shared) (H : Hp) (ws : List (Option V)) (Q : VK) (E : XK), Room k A → Env0 P w K mg base A outer s H →
    H f = some (CloO f F body) → H F.c = some (CodeO F.c F.qual) → CellsAt F.cl fr ws s.heap H → sp ws H Q E →
    codeAny (model P w) A (.call (.ref f) ⟨[], []⟩) (CR (L2.CX P w) outer P w H s Q E) s
section
variable {P : Program} {w : World} {K : PySem.W.Frag} {mg : Str → Option Value} {base : Heap} {N fr : List Str} {F : NF} {f : Addr} {body : Expr} {k : Nat}
  {sp : List (Option V) → Hp → VK → XK → Prop}
/-- a lambda by its body -/
theorem lok_of (S : NScope N [] fr F.scope) (hb : ∀ pm ctv : Value, bindArgs (PySem.W.kla_fn F.name F.qual F.params body F.scope F.cl pm (.ref F.c) ctv) ⟨[], []⟩ = pure [])
    (hbody : ∀ (A : Around) (outer : List Env) (s : Shared) (H : Hp) (ws : List (Option V)) (Q : VK) (E : XK), Room k (A.deeper (envF F f s.heap.objs.size)) → ws.length = fr.length → sp ws H Q E →
      ∃ t : TE, PE (ncx (L2.CX P w) P w K mg base N F f A outer s H E) body t ∧ t (startF N [] ws) H Q) :
    LOk P w K mg base (k + 1) f F body fr sp := by
  constructor
  intro A outer s H ws Q E hr e0 hf hc C hsp
  have lim : s.heap.NoLimit := e0.mod.nolimit.keeps fun b o e => (e0.bs b o e).1
  obtain ⟨pm, ctv, at_f⟩ := cloO_at e0.hok hf
  obtain ⟨t, ht, hq⟩ := hbody A outer s H ws Q E (hr.deeper _) C.len hsp
  refine PySem.W.kla_callFunE hr.depth at_f rfl S.co S.gen rfl (codeO_at e0.hok hc) ?_
  rw [hb pm ctv]
  refine wpAny_pure (wpAny_newFunctionEnv S.nocell (fun _ hy => nomatch hy) (fun h₁ hns hsb => ⟨lim.fresh _ hsb, ?_⟩) S.kind)
  have kp : ∀ b o, s.heap.get? b = some o → h₁.get? b = some o := by
    intro b o e
    exact hsb.extBut b o (Nat.ne_of_lt (Heap.lt_size e)) (Heap.get?_push_of_some _ e)
  have J := inv_startN (CX := L2.CX P w) (N := N) (F := F) (f := f) (E := E) (us := []) (vs := []) (tk := s.toks + ([] : List (Str × Value)).length) S hr.hd e0 rfl .nil C hns kp
  show codeAny _ _ (.expr body (envF F f s.heap.objs.size)) _ _
  refine PySem.W.kla_codeExpr (wpAny_mono (ht.run [] _ (startF N [] ws) H Q J hq) ?_ fun _ _ z => z)
  rintro u s' ⟨v, H', J', rv, q⟩
  exact ⟨v, H', J'.os, J'.bare, J'.base, J'.hok, rv, q⟩
end

/-! ### pins -/
/-- at c stands just this object -/
def PinO (c : Addr) (ob : Obj) : HO := .ext fun h => h.get? c = some ob
abbrev Pl := List (Addr × Obj)
def addP (pl : Pl) (H : Hp) : Hp := fun b => match pl.lookup b with
  | some ob => some (PinO b ob)
  | none => H b
def delP (pl : Pl) (H : Hp) : Hp := fun b => match pl.lookup b with
  | some _ => none
  | none => H b
def Pinned (pl : Pl) (H : Hp) : Prop := ∀ b ob, pl.lookup b = some ob → H b = some (PinO b ob)
section
variable {pl : Pl} {H H' : Hp} {b : Addr} {o : HO} {ob : Obj}
theorem add_in (e : pl.lookup b = some ob) : addP pl H b = some (PinO b ob) := by
  unfold addP
  rw [e]
theorem add_out (e : pl.lookup b = none) : addP pl H b = H b := by
  unfold addP
  rw [e]
theorem del_in (e : pl.lookup b = some ob) : delP pl H b = none := by
  unfold delP
  rw [e]
theorem del_out (e : pl.lookup b = none) : delP pl H b = H b := by
  unfold delP
  rw [e]
theorem pinned_add : Pinned pl (addP pl H) := fun _ _ e => add_in e
theorem add_del (h : Pinned pl H) : addP pl (delP pl H) = H := by
  funext b
  cases e : pl.lookup b with
  | none => rw [add_out e, del_out e]
  | some ob => rw [add_in e, h b ob e]
theorem pin_ne {u : HO} (d : ∀ φ, u ≠ .ext φ) : PinO b ob ≠ u := fun z => d _ z.symm
end
/-- the pins lie free -/
def Free (pl : Pl) (H : Hp) (h : Heap) : Prop := ∀ b ob, pl.lookup b = some ob → H b = none ∧ h.get? b = some ob
section
variable {P : Program} {w : World} {pl : Pl} {H H' : Hp} {h h' : Heap}
theorem Free.old (fr : Free pl H h) {b : Addr} {o : HO} (e : H b = some o) : pl.lookup b = none := by
  cases z : pl.lookup b with
  | none => rfl
  | some ob =>
    rw [(fr b ob z).1] at e
    cases e
theorem Free.add (fr : Free pl H h) {b : Addr} {o : HO} (e : H b = some o) : addP pl H b = some o := by
  rw [add_out (fr.old e)]
  exact e
theorem Free.hok (fr : Free pl H h) (ok : HOk P w H h) : HOk P w (addP pl H) h := by
  intro b o e
  cases z : pl.lookup b with
  | some ob =>
    rw [add_in z] at e
    cases e
    have g := (fr b ob z).2
    exact ⟨g, ⟨ob, g⟩, fun h1 h2 e1 st => st _ e1⟩
  | none =>
    rw [add_out z] at e
    exact (ok b o e).stay (fun _ _ _ q => q) (fun c q => fr.add q) fun c xs q => fr.add q
theorem Pinned.old (pn : Pinned pl H) {b : Addr} {u : HO} (e : H b = some u) (d : ∀ φ, u ≠ .ext φ) : pl.lookup b = none := by
  cases z : pl.lookup b with
  | none => rfl
  | some ob =>
    rw [pn b ob z] at e
    exact absurd (Option.some.inj e) (pin_ne d)
theorem Pinned.hok (pn : Pinned pl H) (ok : HOk P w H h) : HOk P w (delP pl H) h := by
  intro b o e
  cases z : pl.lookup b with
  | some ob =>
    rw [del_in z] at e
    cases e
  | none =>
    rw [del_out z] at e
    exact (ok b o e).stay (fun _ _ _ q => q) (fun c q => by rw [del_out (pn.old q (fun _ z => nomatch z))]; exact q)
      fun c xs q => by rw [del_out (pn.old q (fun _ z => nomatch z))]; exact q
theorem Pinned.at_ (pn : Pinned pl H) (ok : HOk P w H h) : Free pl (delP pl H) h := fun b ob e => ⟨del_in e, (ok b _ (pn b ob e)).1⟩
/-- a run over the heap with pins, told without them -/
theorem Un.unpin {fs : List Addr} (fr : Free pl H h) (u : Un fs [] (addP pl H) H' h h') (ok : HOk P w H' h') (pn : Pinned pl H') : Un fs [] H (delP pl H') h h' where
  keep b o e n nf nx := by
    cases z : pl.lookup b with
    | some ob =>
      rw [(fr b ob z).2] at e
      cases e
      exact (ok b _ (pn b _ z)).1
    | none => exact u.keep b o e (by rw [add_out z]; exact n) nf nx
  slot b o e n hf nx := by
    cases z : pl.lookup b with
    | some ob =>
      rw [(fr b ob z).2] at e
      cases e
      exact ⟨o.slots, (ok b _ (pn b _ z)).1⟩
    | none => exact u.slot b o e (by rw [add_out z]; exact n) hf nx
  free b o e n nx := by
    cases z : pl.lookup b with
    | some ob => exact del_in z
    | none =>
      rw [del_out z]
      exact u.free b o e (by rw [add_out z]; exact n) nx
  there := u.there
  tups b xs e := by
    rw [del_out (fr.old e)]
    exact u.tups b xs (fr.add e)
  frzs b o x e := by
    rw [del_out (fr.old e)]
    exact u.frzs b o x (fr.add e)
  tbls b ps e := by
    rw [del_out (fr.old e)]
    exact u.tbls b ps (fr.add e)
/-- a run without the pins, told with them -/
theorem Un.repin {fs : List Addr} (pn : Pinned pl H) (ok : HOk P w H h) (nf : ∀ b ob, pl.lookup b = some ob → b ∉ fs) (u : Un fs [] (delP pl H) H' h h') : Un fs [] H (addP pl H') h h' ∧ Free pl H' h' := by
  have fr := pn.at_ ok
  have out : ∀ {b}, H b = none → pl.lookup b = none := fun {b} n => by
    cases z : pl.lookup b with
    | none => rfl
    | some ob =>
      rw [pn b ob z] at n
      cases n
  refine ⟨⟨fun b o e n => u.keep b o e (by rw [del_out (out n)]; exact n), fun b o e n => u.slot b o e (by rw [del_out (out n)]; exact n), fun b o e n nx => ?_, u.there, fun b xs e => ?_, fun b o x e => ?_, fun b ps e => ?_⟩, fun b ob e => ?_⟩
  · rw [add_out (out n)]
    exact u.free b o e (by rw [del_out (out n)]; exact n) nx
  · have z := pn.old e (fun _ z => nomatch z)
    rw [add_out z]
    exact u.tups b xs (by rw [del_out z]; exact e)
  · have z := pn.old e (fun _ z => nomatch z)
    rw [add_out z]
    exact u.frzs b o x (by rw [del_out z]; exact e)
  · have z := pn.old e (fun _ z => nomatch z)
    rw [add_out z]
    exact u.tbls b ps (by rw [del_out z]; exact e)
  · obtain ⟨n, g⟩ := fr b ob e
    exact ⟨u.free b ob g n List.not_mem_nil, u.keep b ob g n (nf b ob e) List.not_mem_nil⟩
end
end Q
set_option Elab.async false
set_option linter.all false
set_option maxRecDepth 100000
set_option maxHeartbeats 4000000
/-! A closure called where its cells are pinned. -/
namespace Q
open PySem PySem.Spec PyProof.Rows L2 LamX NdefX

/-- the pins are the closure's cells, ws what they hold -/
structure PinCells (cl : List (Str × Addr)) (fr : List Str) (ws : List (Option V)) (pl : Pl) : Prop where
  len : ws.length = fr.length
  data : ∀ b ob, pl.lookup b = some ob → ∃ v, ob.data = .cell v
  all : ∀ y c, cl.lookup y = some c → ∃ ob, pl.lookup c = some ob
  inj : ∀ x y c, cl.lookup x = some c → cl.lookup y = some c → x = y
  has : ∀ (i : Nat) (y : Str), fr[i]? = some y → ∃ c, cl.lookup y = some c ∧ ∀ v, ws[i]? = some (some v) → ∃ u ob, L2.RelV v u ∧ pl.lookup c = some ob ∧ ob.data = .cell (some u)
section
variable {cl : List (Str × Addr)} {fr : List Str} {ws : List (Option V)} {pl : Pl} {H : Hp} {h : Heap}
theorem PinCells.cells (pc : PinCells cl fr ws pl) (fr' : Free pl H h) : CellsAt cl fr ws h H := by
  refine ⟨pc.len, fun y c e => ?_, pc.inj, fun i y e => ?_⟩
  · obtain ⟨ob, eo⟩ := pc.all y c e
    obtain ⟨v, ev⟩ := pc.data c ob eo
    exact ⟨(fr' c ob eo).1, v, ob, (fr' c ob eo).2, ev⟩
  · obtain ⟨c, ec, hv⟩ := pc.has i y e
    refine ⟨c, ec, fun v ev => ?_⟩
    obtain ⟨u, ob, rv, eo, ed⟩ := hv v ev
    exact ⟨u, rv, ob, (fr' c ob eo).2, ed⟩
/-- the pins of cells -/
theorem pins_of (C : CellsAt cl fr ws h H) : ∃ pl, PinCells cl fr ws pl ∧ Free pl H h ∧ ∀ b ob, pl.lookup b = some ob → ∃ y, cl.lookup y = some b := by
  have key : ∀ (l : List (Str × Addr)), (∀ p ∈ l, p ∈ cl) → ∃ pl : Pl, (∀ b ob, pl.lookup b = some ob → h.get? b = some ob ∧ ∃ y, cl.lookup y = some b) ∧ ∀ p ∈ l, cl.lookup p.1 = some p.2 → ∃ ob, pl.lookup p.2 = some ob := by
    intro l
    induction l with
    | nil => exact fun _ => ⟨[], fun b ob e => (nomatch e), fun p hp => (nomatch hp)⟩
    | cons p l ih =>
      intro hl
      obtain ⟨pl, q1, q2⟩ := ih fun x hx => hl x (List.mem_cons_of_mem _ hx)
      by_cases e : cl.lookup p.1 = some p.2
      · obtain ⟨_, v, o, ho, _⟩ := C.all p.1 p.2 e
        refine ⟨(p.2, o) :: pl, fun b ob eb => ?_, fun x hx ex => ?_⟩
        · by_cases z : b = p.2
          · subst z
            simp only [List.lookup, beq_self_eq_true] at eb
            cases eb
            exact ⟨ho, p.1, e⟩
          · have z2 : (b == p.2) = false := beq_false_of_ne z
            simp only [List.lookup, z2] at eb
            exact q1 b ob eb
        · by_cases z : x.2 = p.2
          · exact ⟨o, by rw [z]; simp [List.lookup]⟩
          · have z2 : (x.2 == p.2) = false := beq_false_of_ne z
            rcases List.mem_cons.mp hx with rfl | hx
            · exact absurd rfl z
            · obtain ⟨ob, eo⟩ := q2 x hx ex
              exact ⟨ob, by simp only [List.lookup, z2]; exact eo⟩
      · refine ⟨pl, q1, fun x hx ex => ?_⟩
        rcases List.mem_cons.mp hx with rfl | hx
        · exact absurd ex e
        · exact q2 x hx ex
  obtain ⟨pl, q1, q2⟩ := key cl fun _ h => h
  have got : ∀ y c, cl.lookup y = some c → ∃ ob, pl.lookup c = some ob ∧ h.get? c = some ob := fun y c e => by
    obtain ⟨ob, eo⟩ := q2 (y, c) (PySem.mem_of_lookup e) e
    exact ⟨ob, eo, (q1 c ob eo).1⟩
  refine ⟨pl, ⟨C.len, fun b ob e => ?_, fun y c e => let ⟨ob, eo, _⟩ := got y c e; ⟨ob, eo⟩, C.inj, fun i y e => ?_⟩, fun b ob e => ?_, fun b ob e => (q1 b ob e).2⟩
  · obtain ⟨g, y, ey⟩ := q1 b ob e
    obtain ⟨_, v, o, ho, hd⟩ := C.all y b ey
    rw [g] at ho
    cases ho
    exact ⟨v, hd⟩
  · obtain ⟨c, ec, hv⟩ := C.has i y e
    refine ⟨c, ec, fun v ev => ?_⟩
    obtain ⟨u, rv, o, ho, hd⟩ := hv v ev
    obtain ⟨ob, eo, go⟩ := got y c ec
    rw [ho] at go
    cases go
    exact ⟨u, o, rv, eo, hd⟩
  · obtain ⟨g, y, ey⟩ := q1 b ob e
    exact ⟨(C.all y b ey).1, g⟩
end
section
variable {P : Program} {w : World} {K : PySem.W.Frag} {mg : Str → Option Value} {base : Heap} {fr : List Str} {F : NF} {f : Addr} {body : Expr} {k : Nat}
  {sp : List (Option V) → Hp → VK → XK → Prop} {pl : Pl}
theorem env0_del {A : Around} {outer : List Env} {s : Shared} {H : Hp} (e0 : Env0 P w K mg base A outer s H) (pn : Pinned pl H) : Env0 P w K mg base A outer s (delP pl H) := by
  have low : ∀ b, H b = none → delP pl H b = none := fun b n => by
    unfold delP
    split
    · rfl
    · exact n
  exact ⟨e0.frames, e0.mod, fun b o e => ⟨(e0.bs b o e).1, low b (e0.bs b o e).2⟩, e0.bsz, e0.funs, fun b hb => low b (e0.frf b hb), pn.hok e0.hok, e0.bare⟩
theorem env0_add {A : Around} {outer : List Env} {s : Shared} {H : Hp} (e0 : Env0 P w K mg base A outer s H) (fr : Free pl H s.heap) (nb : ∀ b ob, pl.lookup b = some ob → base.get? b = none ∧ b ∉ frs outer) : Env0 P w K mg base A outer s (addP pl H) := by
  refine ⟨e0.frames, e0.mod, fun b o e => ⟨(e0.bs b o e).1, ?_⟩, e0.bsz, e0.funs, fun b hb => ?_, fr.hok e0.hok, e0.bare⟩
  · cases z : pl.lookup b with
    | none =>
      rw [add_out z]
      exact (e0.bs b o e).2
    | some ob =>
      rw [(nb b ob z).1] at e
      cases e
  · cases z : pl.lookup b with
    | none =>
      rw [add_out z]
      exact e0.frf b hb
    | some ob => exact absurd hb (nb b ob z).2
/-- nothing is tracked where the pins lie -/
def Offp (pl : Pl) (H : Hp) : Prop := ∀ b ob, pl.lookup b = some ob → H b = none
/-- the promise where the cells are pinned -/
theorem LOk.pinned (L : LOk P w K mg base k f F body fr sp) {A : Around} {outer : List Env} {s : Shared} {H : Hp} {ws : List (Option V)} {Q : VK} {E : XK} (hr : Room k A) (e0 : Env0 P w K mg base A outer s H)
    (hf : H f = some (CloO f F body)) (hc : H F.c = some (CodeO F.c F.qual)) (pn : Pinned pl H) (pc : PinCells F.cl fr ws pl)
    (q : sp ws (delP pl H) (fun v H' => Offp pl H' → Q v (addP pl H')) (fun c d H' => Offp pl H' → E c d (addP pl H'))) :
    codeAny (model P w) A (.call (.ref f) ⟨[], []⟩) (CR (L2.CX P w) outer P w H s Q E) s := by
  have f1 := pn.at_ e0.hok
  have cells := pc.cells f1
  have nof : ∀ b ob, pl.lookup b = some ob → b ∉ frs outer := fun b ob e hb => by
    have z := e0.frf b hb
    rw [pn b ob e] at z
    cases z
  have hf' : delP pl H f = some (CloO f F body) := by
    cases z : pl.lookup f with
    | none =>
      rw [del_out z]
      exact hf
    | some ob =>
      obtain ⟨v, ev⟩ := pc.data f ob z
      obtain ⟨pm, ctv, g⟩ := cloO_at e0.hok hf
      rw [(f1 f ob z).2] at g
      cases g
      cases ev
  have hc' : delP pl H F.c = some (CodeO F.c F.qual) := by
    cases z : pl.lookup F.c with
    | none =>
      rw [del_out z]
      exact hc
    | some ob =>
      obtain ⟨v, ev⟩ := pc.data F.c ob z
      obtain ⟨⟨oc, vs, t, g, d, _⟩, _, _⟩ := e0.hok F.c _ hc
      rw [(f1 F.c ob z).2] at g
      cases g
      rw [ev] at d
      cases d
  refine codeAny_mono (L.run A outer s (delP pl H) ws _ _ hr (env0_del e0 pn) hf' hc' cells q) fun r s' hq => ?_
  match r, hq with
  | .error e, hq =>
    obtain ⟨a, B, H', cls, d, rfl, fl, ok, ub, na, os, bare, hE⟩ := hq
    have fB : Free pl H' B := fun b ob e => ⟨ub.free b ob (f1 b ob e).2 (f1 b ob e).1, ub.keep b ob (f1 b ob e).2 (f1 b ob e).1 (nof b ob e)⟩
    have out : ∀ {b}, H b = none → pl.lookup b = none := fun {b} n => by
      cases z : pl.lookup b with
      | none => rfl
      | some ob =>
        rw [pn b ob z] at n
        cases n
    have na2 : pl.lookup a = none := by
      cases z : pl.lookup a with
      | none => rfl
      | some ob =>
        have z2 := (fB a ob z).2
        rw [fl.2.1] at z2
        cases z2
    refine ⟨a, B, addP pl H', cls, d, rfl, fl, fB.hok ok, ⟨fun b o e n => ub.keep b o e (by rw [del_out (out n)]; exact n), ub.slot, fun b o e n => ?_, ub.there, fun b xs e => ?_, fun b o x e => ?_, fun b ps e => ?_⟩, ?_, os, bare, hE fun b ob e => (fB b ob e).1⟩
    · rw [add_out (out n)]
      exact ub.free b o e (by rw [del_out (out n)]; exact n)
    · have z := pn.old e (fun _ z => nomatch z)
      rw [add_out z]
      exact ub.tups b xs (by rw [del_out z]; exact e)
    · have z := pn.old e (fun _ z => nomatch z)
      rw [add_out z]
      exact ub.frzs b o x (by rw [del_out z]; exact e)
    · have z := pn.old e (fun _ z => nomatch z)
      rw [add_out z]
      exact ub.tbls b ps (by rw [del_out z]; exact e)
    · rw [add_out na2]
      exact na
  | .ok (.ret u), hq =>
    obtain ⟨v, H', os, bare, un, ok, rv, qq⟩ := hq
    obtain ⟨un2, f2⟩ := Un.repin pn e0.hok nof un
    exact ⟨v, addP pl H', os, bare, un2, f2.hok ok, rv, qq fun b ob e => (f2 b ob e).1⟩
/-- what a call of the closure asks where its cells are pinned -/
def tlPin (f : Addr) (F : NF) (body : Expr) (sp : List (Option V) → Hp → VK → XK → Prop) (ws : List (Option V)) (pl : Pl) : XK → Hp → VK → Prop := fun E H Q =>
  H f = some (CloO f F body) ∧ Pinned pl H ∧ sp ws (delP pl H) (fun v H' => Offp pl H' → Q v (addP pl H')) (fun c d H' => Offp pl H' → E c d (addP pl H'))
/-- x(), in a def that got the closure -/
theorem pe_actP {Ng : List Str} {qg : Str} {sg : Scope} {g : Addr} {cdg : Value} {A : Around} {outer : List Env} {s : Shared} {H : Hp} {Eg : XK} {CXg : CXT} {i : Nat} {a : Str} {pn : List (Addr × Obj)} {xe : Value → Shared → Prop} {W : WX} {E : XK} {ws : List (Option V)} {p1 p2 : Pos}
    (L : LOk P w K mg base k f F body fr sp) (pc : PinCells F.cl fr ws pl) (tk : Takes ((cxOf CXg P w K mg base Ng qg sg g cdg A outer s H Eg).tr pn xe) W) (hW : ∀ cls d σ' H', E cls d H' → W cls d σ' H')
    (hr : Room k (A.deeper (envOfC qg sg s.heap.objs.size g cdg))) (hN : Ng[i]? = some a) (hv : Vis sg a) (hd : (a == ("__debug__" : Str)) = false := by decide) (hcd : (a == ("__classdict__" : Str)) = false := by decide) :
    PE ((cxOf CXg P w K mg base Ng qg sg g cdg A outer s H Eg).tr pn xe) (.Call (.Name a p1) [] [] p2)
      (fun σZ HZ Q => σZ[i]? = some (some (.ref f)) ∧ HZ F.c = some (CodeO F.c F.qual) ∧ tlPin f F body sp ws pl E HZ Q) := by
  refine ⟨fun pinsZ sZ σZ HZ Q IZ h => ?_⟩
  obtain ⟨hs, hc, hf, pin, hq⟩ := h
  refine wpAny_Call_Name_kw (thn ((pe_var (pos := p1) (i := i) hN hv hd hcd).run pinsZ sZ σZ HZ (fun v H1 => v = .ref f ∧ H1 = HZ) IZ ⟨.ref f, hs, rfl, rfl⟩) ?_)
  rintro u s1 ⟨v, H1, I1, r1, rfl, rfl⟩
  obtain rfl : u = Value.ref f := r1
  obtain ⟨pm, ctv, at_f⟩ := cloO_at I1.hok hf
  refine PySem.W.callWith_F0 (first := []) ⟨_, _, _, _, at_f⟩ ?_
  refine wpAny_call (codeAny_mono (L.pinned hr I1.env0 hf hc pin pc hq) fun r s' hr' => ?_)
  match r, hr' with
  | .error e, hr' => exact passes_call tk hW pinsZ σZ _ s1 e s' I1 hr'
  | .ok (.ret u), hr' => exact I1.after hr'
end
end Q
set_option Elab.async false
set_option linter.all false
set_option maxRecDepth 100000
set_option maxHeartbeats 4000000
/-! A list comprehension whose element leans on the frame around it. -/
namespace Q
open PySem PySem.Spec PyProof.Rows L2 LamX NdefX
section
variable {X : Cx}
/-- [elt for tg in iter]: the element may lean on the state that the block began with -/
theorem pe_lcI {elt tg iter : Expr} {scope : Scope} {own : List (Str × Nat)} {pos : Pos} {wi : TI} {g : TG} {te : TE} (calm : X.calm = true) (nodup : X.N.Nodup)
    (src : PI X tg iter wi) (blk : BlkOk X.N X.env.scope scope own)
    (tgt : ∀ (s : Shared) (H : Hp) (C : Addr) (cl : List (Str × Addr)) (fp : List Addr), PG (X.blk s H scope (compEnvC scope cl C X.env) fp) tg g)
    (el : ∀ (pins : List (Addr × Obj)) (σ : L2.St) (s : Shared) (H : Hp) (C : Addr) (cl : List (Str × Addr)) (fp : List Addr), Inv X pins σ H s → (∀ b ∈ fp, FpOk X pins H b) →
      PE (X.blk s H scope (compEnvC scope cl C X.env) fp) elt (fun σ' H' Q => wipe σ' (own.map (·.2)) = wipe σ (own.map (·.2)) ∧ te σ' H' Q))
    (fold : ∀ x, foldedSetIterable iter X.env x = pure x := by intro _; rfl) :
    PE X (.ListComp elt [⟨tg, iter, [], 0⟩] scope pos) (tLc wi g tYes te (own.map (·.2))) := by
  constructor
  intro pins s σ H Q I h
  rw [eval_ListComp]
  have closed : ∀ y ∈ scope.names, y.2 = .free → ∃ c, X.env.cells.lookup y.1 = some c := by
    intro y hy e
    rcases blk.free y hy e with z | z
    · exact I.ok.has _ (.inl z)
    · exact I.ok.has _ (.inr z)
  refine wpAny_comprehension_free (use := none) rfl fold (closure_ok closed) blk.kind (fun y hy e => ?_)
    (thn (src.run pins s σ H _ I h) ?_)
  · rw [blk.uniq y hy, e]
  intro xv sA hx
  refine thn hx ?_
  rintro itv sB ⟨it, fp, tn, J, HB, rfl, IB, T, tnB, fpB, rest⟩
  refine wpAny_newObj_type (newEnv_comp ?_) (by show 0 ≤ sizeLine; decide)
  -- the list, empty
  generalize eD : sB.heap.objs.size = D
  have freeD : HB D = none := IB.hok.fresh (Nat.le_of_eq eD)
  obtain ⟨W, ⟨m0, start⟩, turns⟩ := rest D freeD
  generalize eC : ({ sB with heap := sB.heap.push { cls := .type "list", data := .seq ([] : List Value).toArray } } : Shared) = sC
  have hC : sC.heap = sB.heap.push { cls := .type "list", data := .seq ([] : List Value).toArray } := by rw [← eC]
  have topD : sC.heap.get? D = some { cls := .type "list", data := .seq ([] : List Value).toArray } := by
    rw [hC, ← eD]
    exact Heap.get?_push_size _ rfl
  have IC : Inv X pins σ (upd HB D (.lst [])) sC := by
    subst eC
    exact IB.laid (t' := sB.toks) (fun _ _ e => Heap.get?_push_of_some _ e) (Nat.le_of_eq eD) ⟨Nat.zero_le _, [], 0, .nil, topD⟩
  have below : ∀ b ∈ fp, b < sB.heap.objs.size := by
    intro b hb
    obtain ⟨o, e, _⟩ := T.obj _ _ tnB b hb
    exact Heap.lt_size e
  have offD : ∀ b ∈ fp, b ≠ D := fun b hb => by
    rw [← eD]
    exact Nat.ne_of_lt (below b hb)
  have fpC : ∀ b ∈ fp, FpOk X pins (upd HB D (.lst [])) b := fun b hb => ⟨(upd_ne (offD b hb)).trans (fpB b hb).1, (fpB b hb).2⟩
  have fpC2 : ∀ b ∈ fp, FpOk X pins (upd HB D (.lst [])) b ∧ b < sC.heap.objs.size := by
    refine fun b hb => ⟨fpC b hb, ?_⟩
    rw [hC, Heap.size_push]
    exact Nat.lt_succ_of_lt (below b hb)
  have tnC : tn 0 sC.heap := T.keep _ _ _ tnB fun b _ o e => by
    rw [hC]
    exact Heap.get?_push_of_some _ e
  generalize eH : upd HB D (.lst []) = HC at IC fpC fpC2 start
  have ID := block_start IC blk nodup fpC2
  generalize eCl : cellsFrom (sC.heap.objs.size + 1) scope.names (cloFrom X.env.cells scope.names []) = cl at ID
  have pTgt := tgt sC HC sC.heap.objs.size cl fp
  have pEl := el pins σ sC HC sC.heap.objs.size cl fp IC fpC
  show codeAny _ _ (.compStart (.ListComp elt [⟨tg, iter, [], 0⟩] scope pos) 0 (.ref it) (.ref D)
    (compEnvC scope cl sC.heap.objs.size X.env))
    (compPost (model X.prog X.w) X.A X.xe none _ (.ref D) sC.heap.objs.size) { sC with heap := pushCells (sC.heap.push { cls := .type "dict", data := .dict #[] }) scope.names }
  have eL : (compEnvC scope cl sC.heap.objs.size X.env).locals = sC.heap.objs.size := rfl
  generalize eE : compEnvC scope cl sC.heap.objs.size X.env = ce at ID pTgt pEl eL ⊢
  generalize eS : ({ sC with heap := pushCells (sC.heap.push { cls := .type "dict", data := .dict #[] }) scope.names } : Shared) = sD at ID ⊢
  have tnD : tn 0 sD.heap := T.keep _ _ _ tnC fun b _ o e => by
    rw [← eS]
    exact pushCells_keeps _ _ _ _ (Heap.get?_push_of_some _ e)
  have still : ∀ {σ' : L2.St} {H' : Hp} {s' : Shared}, Inv (X.blk sC HC scope ce fp) [] σ' H' s' → (∀ b ∈ fp, H' b = none) → ∀ b ∈ fp, FpOk (X.blk sC HC scope ce fp) [] H' b := by
    intro σ' H' s' I' n b hb
    have q := I'.ok.exf b hb
    exact ⟨n b hb, q.1, I'.ok.exfs b hb, .inl hb, fun x c e => q.2 x c e, fun p hp => nomatch (show p ∈ ([] : List (Addr × Obj)) from hp)⟩
  have loop : codeAny (model X.prog X.w) X.A (.compLoop (.ListComp elt [⟨tg, iter, [], 0⟩] scope pos) 0 (.ref it) (.ref D) ce)
      (compPost (model X.prog X.w) X.A X.xe none (EP X pins σ Q) (.ref D) sC.heap.objs.size) sD := by
    refine compLoop_any (fun m s' => ∃ i H', Inv (X.blk sC HC scope ce fp) [] (wipe σ (own.map (·.2))) H' s' ∧ tn i s'.heap ∧ (∀ b ∈ fp, H' b = none) ∧ W i m H')
      ?_ m0 ⟨0, HC, ID, tnD, fun b hb => (fpC b hb).1, start⟩
    rintro m s5 ⟨i, H5, I5, tn5, n5, w5⟩
    rcases turns i m H5 w5 with ⟨stop, fin⟩ | ⟨go, Nx, next, step⟩
    · refine thnF (T.done (X.blk sC HC scope ce fp) rfl rfl rfl calm i [] s5 _ H5 (fun _ _ => False) I5 (still I5 n5) tn5 stop) ?_
      rintro r s6 ⟨rfl, I6⟩
      have back : Inv X pins σ H5 s6 := IC.call' (ch := fp) I6.os I6.base I6.hok I6.bare fun b hb => by
        obtain ⟨_, a1, _, a3, a4, a5⟩ := fpC b hb
        exact ⟨a3, a1, a4, a5⟩
      have none5 : H5 sC.heap.objs.size = none := by
        rw [← eL]
        exact I6.free
      obtain ⟨mp, ns, _⟩ := I6.loc
      have ns : s6.heap.Ns ce.locals mp := ns
      rw [eL] at ns
      obtain ⟨f0, f1, f2, f3, f4, f5⟩ := IC.fpOk (H' := H5) (Nat.le_refl _) none5
      exact ⟨mp, ns, fun h7 sb => ⟨.ref D, H5, back.turned (t' := s6.toks) (fun b o hb e => (sb.2 b hb).trans e) f0 f1 f3 f4 f5, rfl, fin⟩⟩
    · refine thnF (T.item (X.blk sC HC scope ce fp) rfl rfl rfl calm i [] s5 _ H5 (fun _ _ => False) I5 (still I5 n5) tn5 go) ?_
      rintro r s6 ⟨u, rfl, more⟩
      refine thnF more ?_
      rintro _ s7 ⟨x, H7, I7, r7, y7, tn7, n7⟩
      have J7 := I7.pinned (still I7 n7) (T.obj _ _ tn7)
      refine thnF (pTgt.run _ s7 _ H7 x u _ J7 r7 (step x H7 y7)) ?_
      rintro _ s8 ⟨σ8, H8, I8, keepW, q8⟩
      refine thnF ((pts_nil (X := X.blk sC HC scope ce fp)).run _ s8 σ8 H8 _ I8 q8) ?_
      rintro b s9 ⟨H9, I9, q9⟩
      have close : ∀ {s' : Shared} {H' : Hp}, Inv (X.blk sC HC scope ce fp) ([] ++ pinsAt fp s7.heap) σ8 H' s' → Nx H' →
          ∃ m', m' < m ∧ ∃ i H', Inv (X.blk sC HC scope ce fp) [] (wipe σ (own.map (·.2))) H' s' ∧ tn i s'.heap ∧ (∀ b ∈ fp, H' b = none) ∧ W i m' H' := by
        intro s' H' I' nx
        obtain ⟨m', lt, w'⟩ := next H' nx
        have fixed : ∀ b ∈ fp, ∀ o, s7.heap.get? b = some o → s'.heap.get? b = some o ∧ H' b = none := by
          intro b hb o e
          have z := I'.pin (b, o) (List.mem_append_right _ (List.mem_append_right _ (mem_pinsAt hb e)))
          exact ⟨z.1, z.2.1⟩
        refine ⟨m', lt, i + 1, H', (I'.unpinned (pins := [])).weak ?_ ?_, T.keep _ _ _ tn7 fun b hb o e => (fixed b hb o e).1, ?_, w'⟩
        · rw [← keepW, wipe_length]
        · intro j v e
          rw [← keepW] at e
          exact (wipe_some e).1
        · intro b hb
          obtain ⟨o, e, _⟩ := T.obj _ _ tn7 b hb
          exact (fixed b hb o e).2
      match b, q9 with
      | false, q9 => exact close I9 q9
      | true, q9 =>
        refine thnF (pEl.run _ s9 σ8 H9 _ I9 ⟨keepW, q9⟩) ?_
        rintro z s10 ⟨yv, H10, I10, r10, acc, atD, few, nx⟩
        exact app_ok (X := X.blk sC HC scope ce fp) I10 atD few r10 fun s11 I11 => close I11 nx
  exact codeAny_compStart_list loop (T.self X.A 0 _ _ _ tnD loop)
end
end Q
set_option Elab.async false
set_option linter.all false
set_option maxRecDepth 100000
set_option maxHeartbeats 4000000
/-! A def called in a comprehension's block while the cells of the frame around it are pinned. -/
namespace Q
open PySem PySem.Spec PyProof.Rows L2 LamX NdefX
theorem wipe_slot {σ σ' : L2.St} : ∀ {vs : List Nat}, wipe σ' vs = wipe σ vs → ∀ {j : Nat}, j ∉ vs → σ'[j]? = σ[j]? := by
  have out : ∀ (τ : L2.St) (vs : List Nat) (j : Nat), j ∉ vs → (wipe τ vs)[j]? = τ[j]? := by
    intro τ vs
    induction vs with
    | nil => exact fun _ _ => rfl
    | cons v vs ih =>
      intro j hj
      rw [List.mem_cons, not_or] at hj
      unfold wipe
      rw [List.getElem?_set_ne (fun z => hj.1 z.symm)]
      exact ih j hj.2
  intro vs e j hj
  rw [← out σ' vs j hj, ← out σ vs j hj, e]
/-- f(..) while the cells cl of the names at js are pinned -/
def tPin (cl : List (Str × Addr)) (fr : List Str) (js : List Nat) (sp : Sp) (t : TA) : TE := fun σ H Q =>
  ∀ pl, PinCells cl fr (js.map (NdefX.slotAt σ)) pl → (∀ b ob, pl.lookup b = some ob → H b = none) → t σ H fun vs H1 => H1 = H ∧ sp (vs ++ []) (addP pl H) (fun v H2 => Pinned pl H2 ∧ Q v (delP pl H2)) E0
section
variable {X : Cx}
theorem pe_callPin {scope : Scope} {C : Addr} {ccl : List (Str × Addr)} {fp : List Addr} {vs : List Nat} {pins : List (Addr × Obj)} {σ : L2.St} {s : Shared} {H : Hp} {cl : List (Str × Addr)} {fr : List Str} {js : List Nat} {k : Nat} {f : Addr} {fd : FuncData} {ps : List Str} {sp : Sp}
    {x : Str} {p pos : Pos} {e : Expr} {es : List Expr} {t : TA} (I : Inv X pins σ H s) (hfp : ∀ b ∈ fp, FpOk X pins H b) (cp : X.Ok → Caps X cl fr js) (made : ∀ y c, cl.lookup y = some c → X.fn y = true) (hj : ∀ j ∈ js, j ∉ vs)
    (F : FnG X.prog X.w X.K X.mg X.base CX0 k f fd ps sp) (hgd : X.A.guards = some []) (hr : Room k X.A) (hg : Gl (X.blk s H scope (compEnvC scope ccl C X.env) fp) x) (hm : X.mg x = some (.ref f))
    (hk : PySem.W.keepIn X.K (.ref f) = true) (hb : Binds X.K fd ps []) (ha : PA (X.blk s H scope (compEnvC scope ccl C X.env) fp) (e :: es) t) (hdb : (x == ("__debug__" : Str)) = false := by decide)
    (he : starEach (e :: es) (compEnvC scope ccl C X.env) = (false, eval e (compEnvC scope ccl C X.env)) :: starEach es (compEnvC scope ccl C X.env) := by rfl) (hpl : (backTo pos (starEach es (compEnvC scope ccl C X.env))).any (·.1) = false := by rfl) :
    PE (X.blk s H scope (compEnvC scope ccl C X.env) fp) (.Call (.Name x p) (e :: es) [] pos) (fun σ' H' Q => wipe σ' vs = wipe σ vs ∧ tPin cl fr js sp t σ' H' Q) := by
  have caps := cp I.ok
  have C0 := cells_of I caps
  obtain ⟨pl, pc, free0, src⟩ := pins_of C0
  have beyond : ∀ b ob, pl.lookup b = some ob → b ∉ frs X.stack ∧ b ∉ fp ∧ X.base.get? b = none := by
    intro b ob eb
    obtain ⟨y, ey⟩ := src b ob eb
    have ecell := caps.sub y b ey
    have high := I.ok.cab y b (made y b ey) ecell
    refine ⟨fun hb => ?_, fun hb => (hfp b hb).2.2.2.2.1 y b ecell rfl, ?_⟩
    · rcases List.mem_cons.mp (I.stkSub b hb) with z | z
      · exact I.cne y b ecell z
      · obtain ⟨_, o, ho, _⟩ := I.ok.funs.mem z
        exact Nat.lt_irrefl _ (Nat.lt_of_lt_of_le (Heap.lt_size ho) high)
    · exact Heap.get?_none_of_le (Nat.le_trans I.ok.bsz high)
  have later : ∀ {pins' : List (Addr × Obj)} {σ' : L2.St} {H' : Hp} {s' : Shared}, Inv (X.blk s H scope (compEnvC scope ccl C X.env) fp) pins' σ' H' s' → Free pl H' s'.heap := by
    intro pins' σ' H' s' J b ob eb
    obtain ⟨n, g⟩ := free0 b ob eb
    obtain ⟨q1, q2, _⟩ := beyond b ob eb
    exact ⟨J.base.free b ob g n q2, J.base.keep b ob g n q1 q2⟩
  constructor
  intro pins' s' σ' H' Q J h
  obtain ⟨same, h⟩ := h
  have slots : js.map (NdefX.slotAt σ') = js.map (NdefX.slotAt σ) := by
    refine List.map_congr_left fun j mj => ?_
    unfold NdefX.slotAt
    rw [wipe_slot same (hj j mj)]
  have q := h pl (by rw [slots]; exact pc) fun b ob eb => (later J b ob eb).1
  refine wpAny_Call_Name_kw (ld_glob J hg hm ?_ hdb)
  refine PySem.W.callWith_K (h₀ := X.base) J.ok.mod.kin hk ?_ he hpl
  refine thn (ha.run pos pins' s' σ' H' _ J q) ?_
  rintro us s1 ⟨vs1, H1, J1, rv, rfl, hsp⟩
  refine ⟨J1.kIn, ?_⟩
  have f1 := later J1
  have e0 : Env0 X.prog X.w X.K X.mg X.base X.A X.stack s1 H1 := J1.env0
  have r2 : Vals (vs1 ++ []) (us ++ []) := rv.append .nil
  have hl : (us ++ []).length = ps.length := r2.length.symm.trans (F.len _ _ _ _ hsp)
  have run := F.go X.A X.stack s1 (addP pl H1) ⟨us, []⟩ (us ++ []) (vs1 ++ []) _ E0 hgd hr
    (env0_add e0 f1 fun b ob eb => ⟨(beyond b ob eb).2.2, (beyond b ob eb).1⟩) (hb s1 us J1.kIn hl) r2 hsp
  refine wpAny_call (codeAny_mono run ?_)
  intro r s2 hq
  match r, hq with
  | .error er, hq => exact False.elim hq
  | .ok (.ret u), ⟨v, H2, os, bare, un, ok, ru, pn, qq⟩ => exact J1.after ⟨v, delP pl H2, os, bare, Un.unpin f1 un ok pn, pn.hok ok, ru, qq⟩
end
end Q
set_option Elab.async false
set_option linter.all false
set_option maxRecDepth 100000
set_option maxHeartbeats 4000000
/-! Tables of distances: what the rounds of shortening do to them. -/
namespace D7
open PySem L2
abbrev Tab := List (Str × Int)
def look (f : Tab) (x : Str) : Option Int := (f.find? fun p => decide (p.1 = x)).map (·.2)
def put (f : Tab) (x : Str) (v : Int) : Tab := if (look f x).isSome then f.map fun p => if p.1 = x then (p.1, v) else p else f ++ [(x, v)]
theorem look_nil (x : Str) : look [] x = none := rfl
theorem look_cons (p : Str × Int) (f : Tab) (x : Str) : look (p :: f) x = if p.1 = x then some p.2 else look f x := by
  unfold look
  rw [List.find?_cons]
  by_cases e : p.1 = x
  · simp [e]
  · simp [e]
theorem look_none {f : Tab} {x : Str} : look f x = none ↔ x ∉ f.map (·.1) := by
  induction f with
  | nil => simp [look_nil]
  | cons p f ih =>
    rw [look_cons]
    by_cases e : p.1 = x
    · rw [if_pos e]
      simp [e]
    · rw [if_neg e, ih, List.map_cons, List.mem_cons, not_or]
      exact ⟨fun z => ⟨fun y => e y.symm, z⟩, fun z => z.2⟩
theorem look_mem {f : Tab} {x : Str} {v : Int} (h : look f x = some v) : (x, v) ∈ f := by
  induction f with
  | nil => cases h
  | cons p f ih =>
    rw [look_cons] at h
    by_cases e : p.1 = x
    · rw [if_pos e] at h
      cases h
      rw [← e]
      exact List.mem_cons_self
    · rw [if_neg e] at h
      exact List.mem_cons_of_mem _ (ih h)
theorem look_of {f : Tab} (nd : (f.map (·.1)).Nodup) {p : Str × Int} (h : p ∈ f) : look f p.1 = some p.2 := by
  induction f with
  | nil => cases h
  | cons q f ih =>
    rw [look_cons]
    rw [List.map_cons, List.nodup_cons] at nd
    rcases List.mem_cons.mp h with rfl | h
    · rw [if_pos rfl]
    · rw [if_neg (fun e => nd.1 (by rw [e]; exact List.mem_map_of_mem h)), ih nd.2 h]
theorem look_map (f : Tab) (x y : Str) (v : Int) : look (f.map fun p => if p.1 = x then (p.1, v) else p) y = if y = x then (look f x).map (fun _ => v) else look f y := by
  induction f with
  | nil =>
    rw [List.map_nil, look_nil, look_nil]
    split <;> rfl
  | cons p f ih =>
    rw [List.map_cons, look_cons, look_cons, look_cons, ih]
    by_cases e : p.1 = x
    · rw [if_pos e]
      by_cases e2 : y = x
      · subst e2
        rw [if_pos e, if_pos rfl, if_pos e]
        rfl
      · rw [if_neg (fun z => e2 (z.symm.trans e)), if_neg e2, if_neg e2, if_neg (fun z => e2 (z.symm.trans e))]
    · rw [if_neg e]
      by_cases e2 : y = x
      · subst e2
        rw [if_neg e, if_pos rfl, if_pos rfl]
        rw [if_neg e]
      · rw [if_neg e2, if_neg e2]
theorem look_snoc (f : Tab) (x y : Str) (v : Int) (h : look f x = none) : look (f ++ [(x, v)]) y = if y = x then some v else look f y := by
  induction f with
  | nil =>
    rw [List.nil_append, look_cons, look_nil]
    by_cases e : y = x
    · rw [if_pos e, if_pos e.symm]
    · rw [if_neg e, if_neg (fun z => e z.symm)]
  | cons p f ih =>
    rw [look_cons] at h
    have e0 : ¬ p.1 = x := fun z => by
      rw [if_pos z] at h
      cases h
    rw [if_neg e0] at h
    rw [List.cons_append, look_cons, look_cons, ih h]
    by_cases e : p.1 = y
    · rw [if_pos e, if_pos e]
      rw [if_neg (fun z => e0 (e.trans z))]
    · rw [if_neg e, if_neg e]
theorem look_put (f : Tab) (x y : Str) (v : Int) : look (put f x v) y = if y = x then some v else look f y := by
  unfold put
  cases h : look f x with
  | none => exact look_snoc f x y v h
  | some u =>
    show look (f.map _) y = _
    rw [look_map, h]
    rfl
theorem keys_put {f : Tab} {x : Str} {v : Int} : (put f x v).map (·.1) = if (look f x).isSome then f.map (·.1) else f.map (·.1) ++ [x] := by
  unfold put
  split
  · rw [List.map_map]
    refine List.map_congr_left fun p _ => ?_
    show (if p.1 = x then (p.1, v) else p).1 = p.1
    split <;> rfl
  · rw [List.map_append]
    rfl
theorem nd_put {f : Tab} {x : Str} {v : Int} (h : (f.map (·.1)).Nodup) : ((put f x v).map (·.1)).Nodup := by
  rw [keys_put]
  split
  · exact h
  · rename_i e
    have e2 : look f x = none := by
      cases z : look f x with
      | none => rfl
      | some u => rw [z] at e; exact absurd rfl e
    refine List.nodup_append.mpr ⟨h, List.nodup_cons.mpr ⟨List.not_mem_nil, List.nodup_nil⟩, fun a ha b hb z => ?_⟩
    rw [List.mem_singleton.mp hb] at z
    subst z
    exact look_none.mp e2 ha
/-- as a dict -/
def V (f : Tab) : List (Key × L2.V) := f.map fun p => (.inr p.1, .int p.2)
theorem val_V (f : Tab) (x : Str) : valV (V f) (.inr x) = (look f x).map L2.V.int := by
  induction f with
  | nil => rfl
  | cons p f ih =>
    show valV ((.inr p.1, .int p.2) :: V f) (.inr x) = _
    rw [look_cons]
    by_cases e : p.1 = x
    · rw [if_pos e, valV_pos (by rw [e])]
      rfl
    · rw [if_neg e, valV_neg (fun z => e (Sum.inr.inj z)), ih]
theorem putK_V (f : Tab) (x : Str) (v : Int) : putK (V f) (.inr x) (.int v) = V (put f x v) := by
  unfold putK put
  rw [valV_any, val_V]
  cases h : look f x with
  | none =>
    show (V f ++ [(.inr x, .int v)]) = V (f ++ [(x, v)])
    unfold V
    rw [List.map_append]
    rfl
  | some u =>
    show (V f).map _ = V (f.map _)
    unfold V
    rw [List.map_map, List.map_map]
    refine List.map_congr_left fun p _ => ?_
    show (if (Sum.inr p.1 : Key) = .inr x then ((.inr p.1 : Key), L2.V.int v) else (.inr p.1, .int p.2)) = (.inr (if p.1 = x then (p.1, v) else p).1, .int (if p.1 = x then (p.1, v) else p).2)
    by_cases e : p.1 = x
    · rw [if_pos (by rw [e]), if_pos e]
    · rw [if_neg (fun z => e (Sum.inr.inj z)), if_neg e]
theorem len_V (f : Tab) : (V f).length = f.length := List.length_map ..
theorem nodup_len {α : Type} [DecidableEq α] : ∀ {l g : List α}, l.Nodup → (∀ x ∈ l, x ∈ g) → l.length ≤ g.length
  | [], g, _, _ => Nat.zero_le _
  | x :: l, g, nd, h => by
    rw [List.nodup_cons] at nd
    have hx := h x List.mem_cons_self
    have ih := nodup_len (l := l) (g := g.erase x) nd.2 fun y hy => (List.mem_erase_of_ne (fun e => nd.1 (by rw [← e]; exact hy))).mpr (h y (List.mem_cons_of_mem _ hy))
    rw [List.length_erase_of_mem hx] at ih
    have := List.length_pos_of_mem hx
    rw [List.length_cons]
    omega
/-- equal as dicts -/
def same (f g : Tab) : Bool := f.length == g.length && f.all fun p => decide (look g p.1 = some p.2)
theorem same_look {f g : Tab} (nf : (f.map (·.1)).Nodup) (ng : (g.map (·.1)).Nodup) (h : same f g = true) (x : Str) : look f x = look g x := by
  unfold same at h
  rw [Bool.and_eq_true, beq_iff_eq, List.all_eq_true] at h
  obtain ⟨hl, ha⟩ := h
  cases e : look f x with
  | some v =>
    have := of_decide_eq_true (ha _ (look_mem e))
    exact this.symm
  | none =>
    cases e2 : look g x with
    | none => rfl
    | some v =>
      exfalso
      have sub : ∀ y ∈ f.map (·.1), y ∈ g.map (·.1) := fun y hy => by
        obtain ⟨p, hp, rfl⟩ := List.mem_map.mp hy
        have := of_decide_eq_true (ha p hp)
        exact List.mem_map_of_mem (look_mem this)
      have mx : x ∈ g.map (·.1) := List.mem_map_of_mem (f := (·.1)) (look_mem e2)
      have nx : x ∉ f.map (·.1) := look_none.mp e
      have nd : (x :: f.map (·.1)).Nodup := List.nodup_cons.mpr ⟨nx, nf⟩
      have := nodup_len nd (g := g.map (·.1)) fun y hy => by
        rcases List.mem_cons.mp hy with rfl | hy
        · exact mx
        · exact sub y hy
      rw [List.length_cons, List.length_map, List.length_map] at this
      omega
theorem same_refl {f : Tab} (nf : (f.map (·.1)).Nodup) : same f f = true := by
  unfold same
  rw [Bool.and_eq_true, List.all_eq_true]
  exact ⟨by simp, fun p hp => decide_eq_true (look_of nf hp)⟩
/-! ### rounds of shortening -/
abbrev LK := Str → Str → Int → Prop
structure RelOk (R : LK) (zs : List Str) (L : Int) : Prop where
  few : zs.length ≤ 8
  nn : 0 ≤ L
  ok : ∀ a n x, R a n x → a ∈ zs ∧ n ∈ zs ∧ 1 ≤ x ∧ x ≤ L
structure Fd (R : LK) (zs : List Str) (d : Str) (L : Int) (f : Tab) : Prop where
  nd : (f.map (·.1)).Nodup
  sub : ∀ x v, look f x = some v → x ∈ zs ∧ 0 ≤ v ∧ v ≤ ((f.length : Int) - 1) * L
  zero : look f d = some 0
  par : ∀ x v, look f x = some v → x = d ∨ ∃ n u y, R x n y ∧ look f n = some u ∧ u + y ≤ v
theorem Fd.len {R : LK} {zs : List Str} {d : Str} {L : Int} {f : Tab} (h : Fd R zs d L f) : f.length ≤ zs.length := by
  have := nodup_len h.nd (g := zs) fun x hx => by
    cases e : look f x with
    | none => exact absurd hx (look_none.mp e)
    | some v => exact (h.sub x v e).1
  rwa [List.length_map] at this
def sh (f : Tab) (a n : Str) (x : Int) : Tab := match look f n with
  | none => f
  | some u => match look f a with
    | none => put f a (u + x)
    | some v => if u + x < v then put f a (u + x) else f
def Cl (f : Tab) (a n : Str) (x : Int) : Prop := ∀ u, look f n = some u → ∃ v, look f a = some v ∧ v ≤ u + x
def cost (L : Int) (f : Tab) (z : Str) : Nat := match look f z with
  | some v => v.toNat
  | none => (8 * L + 1).toNat
def M (zs : List Str) (L : Int) (f : Tab) : Nat := (zs.map (cost L f)).sum
theorem M_congr {zs : List Str} {L : Int} {f g : Tab} (h : ∀ x, look f x = look g x) : M zs L f = M zs L g := by
  unfold M
  congr 1
  refine List.map_congr_left fun z _ => ?_
  unfold cost
  rw [h]
theorem sum_le {g g' : Str → Nat} : ∀ {zs : List Str}, (∀ z ∈ zs, g' z ≤ g z) → (zs.map g').sum ≤ (zs.map g).sum
  | [], _ => Nat.le_refl _
  | z :: zs, h => by
    have := sum_le (zs := zs) fun y hy => h y (List.mem_cons_of_mem _ hy)
    have := h z List.mem_cons_self
    simp only [List.map_cons, List.sum_cons]
    omega
theorem sum_lt {g g' : Str → Nat} {a : Str} : ∀ {zs : List Str}, (∀ z ∈ zs, g' z ≤ g z) → a ∈ zs → g' a < g a → (zs.map g').sum < (zs.map g).sum
  | [], _, m, _ => nomatch m
  | z :: zs, h, m, l => by
    have h1 := sum_le (zs := zs) fun y hy => h y (List.mem_cons_of_mem _ hy)
    have h2 := h z List.mem_cons_self
    simp only [List.map_cons, List.sum_cons]
    rcases List.mem_cons.mp m with e | m
    · subst e
      omega
    · have := sum_lt (zs := zs) (fun y hy => h y (List.mem_cons_of_mem _ hy)) m l
      omega
theorem len_put {f : Tab} {x : Str} {v : Int} : (put f x v).length = if (look f x).isSome then f.length else f.length + 1 := by
  have := congrArg List.length (keys_put (f := f) (x := x) (v := v))
  rw [List.length_map] at this
  rw [this]
  split <;> simp
section
variable {R : LK} {zs : List Str} {d : Str} {L : Int} {f : Tab} {a n : Str} {x : Int}
/-- a lower value is written -/
theorem Fd.lower (h : Fd R zs d L f) (ro : RelOk R zs L) (r : R a n x) {u : Int} (hn : look f n = some u) (lo : ∀ v, look f a = some v → u + x < v) :
    Fd R zs d L (put f a (u + x)) ∧ M zs L (put f a (u + x)) < M zs L f := by
  obtain ⟨ma, mn, x1, xL⟩ := ro.ok a n x r
  obtain ⟨_, u0, uL⟩ := h.sub n u hn
  have ad : a ≠ d := fun e => by
    subst e
    have := lo 0 h.zero
    omega
  have an : n ≠ a := fun e => by
    subst e
    have := lo u hn
    omega
  have few := ro.few
  have hl := h.len
  have Fd' : Fd R zs d L (put f a (u + x)) := by
    refine ⟨nd_put h.nd, fun y v e => ?_, by rw [look_put, if_neg (fun e => ad e.symm)]; exact h.zero, fun y v e => ?_⟩
    · rw [look_put] at e
      rw [len_put]
      have key : ((f.length : Int) - 1) * L ≤ (((f.length + 1 : Nat) : Int) - 1) * L := Int.mul_le_mul_of_nonneg_right (by omega) ro.nn
      have key2 : ((f.length : Int) - 1) * L + L = (((f.length + 1 : Nat) : Int) - 1) * L := by
        rw [show (((f.length + 1 : Nat) : Int) - 1) = ((f.length : Int) - 1) + 1 by omega, Int.add_mul, Int.one_mul]
      by_cases ey : y = a
      · rw [if_pos ey] at e
        cases e
        subst ey
        refine ⟨ma, by omega, ?_⟩
        split
        · rename_i c
          cases z : look f y with
          | none => rw [z] at c; cases c
          | some v =>
            have := lo v z
            have := (h.sub y v z).2.2
            omega
        · omega
      · rw [if_neg ey] at e
        obtain ⟨q1, q2, q3⟩ := h.sub y v e
        refine ⟨q1, q2, ?_⟩
        split
        · exact q3
        · exact Int.le_trans q3 key
    · rw [look_put] at e
      by_cases ey : y = a
      · rw [if_pos ey] at e
        cases e
        subst ey
        exact .inr ⟨n, u, x, r, by rw [look_put, if_neg an]; exact hn, Int.le_refl _⟩
      · rw [if_neg ey] at e
        rcases h.par y v e with z | ⟨m, w, t, q1, q2, q3⟩
        · exact .inl z
        · refine .inr ?_
          by_cases em : m = a
          · subst em
            refine ⟨m, u + x, t, q1, by rw [look_put, if_pos rfl], ?_⟩
            have := lo w q2
            omega
          · exact ⟨m, w, t, q1, by rw [look_put, if_neg em]; exact q2, q3⟩
  refine ⟨Fd', ?_⟩
  have bnd := (Fd'.sub a (u + x) (by rw [look_put, if_pos rfl])).2
  have hl' := Fd'.len
  have b7 : u + x ≤ 7 * L := Int.le_trans bnd.2 (Int.mul_le_mul_of_nonneg_right (by omega) ro.nn)
  have at_a : cost L (D7.put f a (u + x)) a < cost L f a := by
    unfold cost
    rw [look_put, if_pos rfl]
    cases z : look f a with
    | none =>
      show (u + x).toNat < (8 * L + 1).toNat
      omega
    | some v =>
      have := lo v z
      show (u + x).toNat < v.toNat
      omega
  refine sum_lt (fun z _ => ?_) ma at_a
  by_cases e : z = a
  · subst e
    exact Nat.le_of_lt at_a
  · unfold cost
    rw [look_put, if_neg e]
    exact Nat.le_refl _
theorem sh_step (h : Fd R zs d L f) (ro : RelOk R zs L) (r : R a n x) : (sh f a n x = f ∧ Cl f a n x) ∨ (Fd R zs d L (sh f a n x) ∧ M zs L (sh f a n x) < M zs L f) := by
  unfold sh Cl
  cases hn : look f n with
  | none => exact .inl ⟨rfl, fun u e => nomatch e⟩
  | some u =>
    dsimp only
    cases ha : look f a with
    | none => exact .inr (h.lower ro r hn fun v e => by rw [ha] at e; cases e)
    | some v =>
      dsimp only
      by_cases c : u + x < v
      · rw [if_pos c]
        exact .inr (h.lower ro r hn fun w e => by rw [ha] at e; cases e; exact c)
      · rw [if_neg c]
        refine .inl ⟨rfl, fun w e => ?_⟩
        cases e
        exact ⟨v, rfl, by omega⟩
/-- in a round over the links that began with f0: f now, the links that were looked at -/
structure Rd (R : LK) (zs : List Str) (d : Str) (L : Int) (f0 f : Tab) (seen : Str → Str → Int → Prop) : Prop where
  fd : Fd R zs d L f
  alt : (f = f0 ∧ ∀ a n x, seen a n x → Cl f0 a n x) ∨ M zs L f < M zs L f0
theorem Rd.step {f0 : Tab} {seen seen' : Str → Str → Int → Prop} (h : Rd R zs d L f0 f seen) (ro : RelOk R zs L) (r : R a n x) (hs : ∀ b m y, seen' b m y → seen b m y ∨ (b = a ∧ m = n ∧ y = x)) :
    Rd R zs d L f0 (sh f a n x) seen' := by
  rcases sh_step h.fd ro r with ⟨e, c⟩ | ⟨q, l⟩
  · rw [e]
    refine ⟨h.fd, ?_⟩
    rcases h.alt with ⟨rfl, al⟩ | l
    · refine .inl ⟨rfl, fun b m y z => ?_⟩
      rcases hs b m y z with z | ⟨rfl, rfl, rfl⟩
      · exact al b m y z
      · exact c
    · exact .inr l
  · refine ⟨q, .inr ?_⟩
    rcases h.alt with ⟨rfl, _⟩ | l2
    · exact l
    · exact Nat.lt_trans l l2
/-- the distances -/
structure Dist (R : LK) (zs : List Str) (d : Str) (f : Tab) : Prop where
  nd : (f.map (·.1)).Nodup
  sub : ∀ x v, look f x = some v → x ∈ zs ∧ 0 ≤ v
  zero : look f d = some 0
  par : ∀ x v, look f x = some v → x = d ∨ ∃ n u y, R x n y ∧ look f n = some u ∧ v = u + y
  cl : ∀ a n x, R a n x → Cl f a n x
theorem Fd.dist (h : Fd R zs d L f) (c : ∀ a n x, R a n x → Cl f a n x) : Dist R zs d f := by
  refine ⟨h.nd, fun x v e => ⟨(h.sub x v e).1, (h.sub x v e).2.1⟩, h.zero, fun x v e => ?_, c⟩
  rcases h.par x v e with z | ⟨n, u, y, q1, q2, q3⟩
  · exact .inl z
  · refine .inr ⟨n, u, y, q1, q2, ?_⟩
    obtain ⟨w, e2, l⟩ := c x n y q1 u q2
    rw [e] at e2
    cases e2
    omega
theorem Fd.start (ro : RelOk R zs L) (hd : d ∈ zs) : Fd R zs d L [(d, 0)] := by
  have z : look [(d, (0 : Int))] d = some 0 := by rw [look_cons, if_pos rfl]
  refine ⟨by simp, fun x v e => ?_, z, fun x v e => ?_⟩
  · rw [look_cons, look_nil] at e
    split at e
    · rename_i q
      cases e
      have q : d = x := q
      subst q
      exact ⟨hd, Int.le_refl _, by simp⟩
    · cases e
  · rw [look_cons, look_nil] at e
    split at e
    · rename_i q
      exact .inl q.symm
    · cases e
/-- how many are nearer -/
def rk (f : Tab) (v : Int) : Nat := (f.filter fun p => decide (p.2 < v)).length
theorem rk_lt {n : Str} {u v : Int} (h : look f n = some u) (l : u < v) : rk f u < rk f v := by
  have mem := look_mem h
  unfold rk
  clear h
  induction f with
  | nil => cases mem
  | cons p f ih =>
    have mono : (f.filter fun p => decide (p.2 < u)).length ≤ (f.filter fun p => decide (p.2 < v)).length := by
      clear ih mem
      induction f with
      | nil => exact Nat.le_refl _
      | cons q f ih =>
        rw [List.filter_cons, List.filter_cons]
        by_cases c1 : q.2 < u
        · rw [if_pos (decide_eq_true c1), if_pos (decide_eq_true (by omega))]
          simpa using ih
        · rw [if_neg (by simpa using c1)]
          split
          · rw [List.length_cons]
            omega
          · exact ih
    rw [List.filter_cons, List.filter_cons]
    rcases List.mem_cons.mp mem with e | m
    · subst e
      rw [if_neg (by simp), if_pos (decide_eq_true l), List.length_cons]
      omega
    · have := ih m
      by_cases c1 : p.2 < u
      · rw [if_pos (decide_eq_true c1), if_pos (decide_eq_true (by omega))]
        simpa using this
      · rw [if_neg (by simpa using c1)]
        split
        · rw [List.length_cons]
          omega
        · exact this
theorem rk_le (v : Int) : rk f v ≤ f.length := List.length_filter_le _ _
end
end D7
set_option Elab.async false
set_option linter.all false
set_option maxRecDepth 100000
set_option maxHeartbeats 4000000
/-! != of two tables. -/
namespace D7
open PySem PySem.Spec PyProof.Rows L2
/-- the entries of one, asked in the other -/
theorem tab_hits {A : Around} {s : Shared} {g : Tab} {vb : List (Key × Value)} (rb : KV (V g) vb) : ∀ {f : Tab} {va : List (Key × Value)}, KV (V f) va →
    PySem.W.KeqHits A s vb va (f.all fun p => decide (look g p.1 = some p.2))
  | [], va, ra => by
    cases ra
    exact .nil
  | p :: f, va, ra => by
    obtain ⟨k, n⟩ := p
    have ra' : KV (((.inr k : Key), L2.V.int n) :: V f) va := ra
    unfold KV at ra'
    cases ra' with
    | @cons _ q _ qs h t =>
      obtain ⟨h1, h2⟩ := h
      obtain ⟨k', v⟩ := q
      have h1 : (Sum.inr k : Key) = k' := h1
      subst h1
      obtain ⟨tv, e2⟩ : ∃ t, v = Value.int n t := h2
      subst e2
      have ih := tab_hits (A := A) (s := s) rb (f := f) t
      have rr : RelO (valV (V g) (.inr k)) (valueAt vb (.inr k)) := rb.val (.inr k)
      rw [val_V] at rr
      rw [List.all_cons]
      cases e : look g k with
      | none =>
        rw [e] at rr
        have n0 : valueAt vb (.inr k) = none := by
          cases z : valueAt vb (.inr k) with
          | none => rfl
          | some y =>
            rw [z] at rr
            exact rr.elim
        rw [show (decide ((none : Option Int) = some n) && f.all fun p => decide (look g p.1 = some p.2)) = false from by simp]
        exact .miss n0
      | some m =>
        rw [e] at rr
        obtain ⟨y, hy, ry⟩ := RelO.some_of rr
        obtain ⟨ty, e3⟩ : ∃ t, y = Value.int m t := ry
        subst e3
        have eq := SeqAt.EqAt.int_int (A := A) (s := s) n tv m ty
        rw [show decide ((some m : Option Int) = some n) = (n == m) from by
          by_cases z : n = m
          · subst z
            simp
          · rw [decide_eq_false (fun q => z (Option.some.inj q).symm), beq_false_of_ne z]]
        exact .hit hy eq ih
section
variable {X : Cx}
def rNeTab : R2 := fun x y H Q => ∃ a b f g, x = .ref a ∧ y = .ref b ∧ H a = some (.dK (V f)) ∧ H b = some (.dK (V g)) ∧ Q (.bl (!same f g)) H
theorem op_neTab (hu1 : X.A.units + 1 < cLine) : OpR X (compareOp .NotEq) rNeTab := by
  have hu : X.A.units < cLine := Nat.lt_of_succ_lt hu1
  intro pins s σ H x y v u Q I rx ry h
  obtain ⟨a, b, f, g, rfl, rfl, ea, eb, q⟩ := h
  obtain rfl : v = Value.ref a := rx
  obtain rfl : u = Value.ref b := ry
  obtain ⟨_, ya, va, ra, da⟩ := (show ObjOk X.prog X.w H s.heap a (.dK (V f)) from I.hok a _ ea)
  obtain ⟨_, yb, vb, rb, db⟩ := (show ObjOk X.prog X.w H s.heap b (.dK (V g)) from I.hok b _ eb)
  have la : va.length = f.length := by rw [← ra.length, len_V]
  have lb : vb.length = g.length := by rw [← rb.length, len_V]
  refine PySem.W.keq_ne (knd := mixKind X.prog X.w) (r := f.all fun p => decide (look g p.1 = some p.2)) ya yb da db hu (fun _ => tab_hits rb ra) (fin_bl I q ?_)
  unfold same
  rw [la, lb]
end
end D7
set_option Elab.async false
set_option linter.all false
set_option maxRecDepth 100000
set_option maxHeartbeats 4000000
/-! A list beside an empty one; data, by its kinds. -/
namespace Q
open PySem PySem.Spec PyProof.Rows L2 PySem.W
section
variable {K : PySem.W.Frag} {H : Hp} {x : V} {d : PyData}
theorem Dd.odd (h : Dd K H x d) : Odd K H x := by
  cases h with
  | non => exact .non
  | bl b => exact .bl b
  | int i => exact .int i
  | str z => exact .str z
  | lst h _ => exact .lst h
  | tup h _ => exact .tup h
  | dic h _ _ => exact .dic h
def strV : V → Bool
  | .str _ => true
  | _ => false
theorem Dd.kit (h : Dd K H x d) : ∃ t, TyX K H x t ∧ kitOne K t (.type "str") = some (strV x) := by
  cases h with
  | non => exact ⟨_, .base .non, rfl⟩
  | bl b => exact ⟨_, .base (.bl b), rfl⟩
  | int i => exact ⟨_, .base (.int i), rfl⟩
  | str z => exact ⟨_, .base (.str z), rfl⟩
  | lst h _ =>
    rcases h with (h | ⟨o, h⟩) | ⟨o, its, n, e, c, _⟩
    · exact ⟨_, .base (.lst h), rfl⟩
    · exact ⟨_, .base (.frz h), rfl⟩
    · exact ⟨_, .kList e c, rfl⟩
  | tup h _ =>
    rcases h with (h | ⟨o, h⟩) | ⟨o, its, n, e, c, _⟩
    · exact ⟨_, .base (.tup h), rfl⟩
    · exact ⟨_, .fTuple h, rfl⟩
    · exact ⟨_, .kTuple e c, rfl⟩
  | dic h _ _ => exact ⟨_, .base (.dK h), rfl⟩
end
section
variable {X : Cx}
def rEqNil (K : PySem.W.Frag) : R2 := fun x y H Q => ∃ a b xs, x = .ref a ∧ y = .ref b ∧ SqL K H a xs ∧ SqL K H b [] ∧ Q (.bl xs.isEmpty) H
theorem op_eqNil (hu1 : X.A.units + 1 < cLine) : OpR X (compareOp .Eq) (rEqNil X.K) := by
  intro pins s σ H x y v u Q I rx ry h
  have hu : X.A.units < cLine := Nat.lt_of_succ_lt hu1
  obtain ⟨a, b, xs, rfl, rfl, ha, hb, q⟩ := h
  cases rx
  cases ry
  obtain ⟨its, r1, pl1, _⟩ := I.list ha
  obtain ⟨its2, r2, pl2, _⟩ := I.list hb
  cases r2
  cases xs with
  | nil =>
    cases r1
    refine SeqAt.eq_listAt (e := fun _ => true) pl1.isList pl2.isList rfl hu (fun j h1 _ => nomatch h1) ⟨.bl _, H, I, rfl, ?_⟩
    exact q
  | cons z zs =>
    cases r1
    refine SeqAt.eq_list_lengthsAt pl1.isList pl2.isList (by simp) hu ⟨.bl _, H, I, rfl, ?_⟩
    exact q
end
end Q
set_option Elab.async false
set_option linter.all false
set_option maxRecDepth 100000
set_option maxHeartbeats 4000000
/-! A list that is not the empty one. -/
namespace Q
open PySem PySem.Spec PyProof.Rows L2 PySem.W
section
variable {X : Cx}
def rNeNil (K : PySem.W.Frag) : R2 := fun x y H Q => ∃ a b xs, x = .ref a ∧ y = .ref b ∧ SqL K H a xs ∧ SqL K H b [] ∧ Q (.bl (!xs.isEmpty)) H
theorem op_neNil (hu1 : X.A.units + 1 < cLine) : OpR X (compareOp .NotEq) (rNeNil X.K) := by
  intro pins s σ H x y v u Q I rx ry h
  have hu : X.A.units < cLine := Nat.lt_of_succ_lt hu1
  obtain ⟨a, b, xs, rfl, rfl, ha, hb, q⟩ := h
  cases rx
  cases ry
  obtain ⟨its, r1, pl1, _⟩ := I.list ha
  obtain ⟨its2, r2, pl2, _⟩ := I.list hb
  cases r2
  cases xs with
  | nil =>
    cases r1
    refine SeqAt.RcNeAt.lists (e := fun _ => true) pl1.isList pl2.isList rfl hu (fun j h1 _ => nomatch h1) X.prog X.w _ _ ⟨.bl _, H, I, rfl, ?_⟩
    exact q
  | cons z zs =>
    cases r1
    refine SeqAt.RcNeAt.lists_lengths pl1.isList pl2.isList (by simp) hu X.prog X.w _ _ ⟨.bl _, H, I, rfl, ?_⟩
    exact q
end
end Q
set_option Elab.async false
set_option linter.all false
set_option maxRecDepth 100000
set_option maxHeartbeats 4000000
/-! A tuple beside the empty one. -/
namespace Q
open PySem PySem.Spec PyProof.Rows L2 PySem.W
section
variable {X : Cx}
def rNeNilT (K : PySem.W.Frag) : R2 := fun x y H Q => ∃ a b xs, x = .ref a ∧ y = .ref b ∧ SqT K H a xs ∧ SqT K H b [] ∧ Q (.bl (!xs.isEmpty)) H
def rEqNilT (K : PySem.W.Frag) : R2 := fun x y H Q => ∃ a b xs, x = .ref a ∧ y = .ref b ∧ SqT K H a xs ∧ SqT K H b [] ∧ Q (.bl xs.isEmpty) H
theorem op_neNilT (hu1 : X.A.units + 1 < cLine) : OpR X (compareOp .NotEq) (rNeNilT X.K) := by
  intro pins s σ H x y v u Q I rx ry h
  have hu : X.A.units < cLine := Nat.lt_of_succ_lt hu1
  obtain ⟨a, b, xs, rfl, rfl, ha, hb, q⟩ := h
  cases rx
  cases ry
  obtain ⟨its, r1, pl1, _⟩ := I.tuple ha
  obtain ⟨its2, r2, pl2, _⟩ := I.tuple hb
  cases r2
  refine SeqAt.RcNeAt.tuples (e := fun _ => true) pl1 pl2 hu (fun j _ h2 => absurd h2 (Nat.not_lt_zero _)) X.prog X.w _ _ ⟨.bl _, H, I, rfl, ?_⟩
  cases xs with
  | nil =>
    cases r1
    exact q
  | cons z zs =>
    cases r1
    exact q
theorem op_eqNilT (hu1 : X.A.units + 1 < cLine) : OpR X (compareOp .Eq) (rEqNilT X.K) := by
  intro pins s σ H x y v u Q I rx ry h
  have hu : X.A.units < cLine := Nat.lt_of_succ_lt hu1
  obtain ⟨a, b, xs, rfl, rfl, ha, hb, q⟩ := h
  cases rx
  cases ry
  obtain ⟨its, r1, pl1, _⟩ := I.tuple ha
  obtain ⟨its2, r2, pl2, _⟩ := I.tuple hb
  cases r2
  refine SeqAt.RcAt.tuples (e := fun _ => true) pl1 pl2 hu (fun j _ h2 => absurd h2 (Nat.not_lt_zero _)) X.prog X.w _ _ ⟨.bl _, H, I, rfl, ?_⟩
  cases xs with
  | nil =>
    cases r1
    exact q
  | cons z zs =>
    cases r1
    exact q
end
end Q
set_option Elab.async false
set_option linter.all false
set_option maxRecDepth 100000
set_option maxHeartbeats 4000000
/-! t[::-1] of a tuple. -/
namespace Q
open PySem PySem.Spec PyProof.Rows L2 HT
theorem fm_all : ∀ l : List Value, ((List.range l.length).filterMap fun k => l[k]?) = l
  | [] => rfl
  | a :: l => by
    rw [List.length_cons, List.range_succ_eq_map, List.filterMap_cons]
    show a :: List.filterMap _ _ = a :: l
    rw [List.filterMap_map]
    exact congrArg (a :: ·) (fm_all l)
theorem fm_congr {α β : Type} {f g : α → Option β} : ∀ {l : List α}, (∀ x ∈ l, f x = g x) → l.filterMap f = l.filterMap g
  | [], _ => rfl
  | a :: l, h => by
    rw [List.filterMap_cons, List.filterMap_cons, h a List.mem_cons_self, fm_congr fun x hx => h x (List.mem_cons_of_mem _ hx)]
theorem pick_rev (xs : Array Value) : ((List.range xs.size).filterMap fun (m : Nat) => xs[(((xs.size : Int) - 1) + (m : Int) * (-1)).toNat]?).toArray = xs.toList.reverse.toArray := by
  congr 1
  have l : xs.toList.reverse.length = xs.size := by rw [List.length_reverse, Array.length_toList]
  have e := fm_all xs.toList.reverse
  rw [l] at e
  refine Eq.trans (fm_congr fun k hk => ?_) e
  have hk2 : k < xs.size := List.mem_range.mp hk
  rw [List.getElem?_reverse (by rw [Array.length_toList]; exact hk2), Array.getElem?_toList, Array.length_toList]
  congr 1
  omega
section
variable {prog : Program} {w : World} {A : Around} {E : Value → Shared → Prop} {s : Shared}
theorem part_at {v : Value} {o : Option Int} {Q : Option Int → Shared → Prop} (p : IsPart v o) (h : Q o s) : wpAny (model prog w) A (Builtin.Slice.slicePartIndex v) Q E s := by
  cases p with
  | none => exact slicePart_none h
  | int i t => exact slicePart_int h
theorem applied_rev {sl : Addr} {vl vu vs : Value} {n : Nat} {Q : Int × Int × Nat → Shared → Prop} (hs : s.heap.IsSliceOf sl vl vu vs) (pl : IsPart vl none) (pu : IsPart vu none) (ps : IsPart vs (some (-1)))
    (h : Q ((n : Int) - 1, -1, n) s) : wpAny (model prog w) A (Builtin.Slice.sliceApplied (.ref sl) (pure (n : Int))) Q E s := by
  obtain ⟨o, ho, _, hd⟩ := id hs
  unfold Builtin.Slice.sliceApplied Builtin.Slice.sliceFields
  refine wpAny_bind (wpAny_bind (wpAny_field ho hd (x := vl) rfl (wpAny_bind (wpAny_field ho hd (x := vu) rfl (wpAny_bind (wpAny_field ho hd (x := vs) rfl (wpAny_pure ?_)))))))
  refine wpAny_bind (part_at ps ?_)
  show wpAny _ _ (if ((-1 : Int) == 0) = true then _ else _) _ _ s
  rw [if_neg (by decide)]
  refine wpAny_bind (part_at pl (wpAny_bind (part_at pu (wpAny_bind (wpAny_pure ?_)))))
  have e1 : Builtin.Slice.sliceAdjust none none (-1) (n : Int) = ((n : Int) - 1, -1) := rfl
  have e2 : Builtin.Slice.slicePlaces ((n : Int) - 1) (-1) (-1) = n := by
    unfold Builtin.Slice.slicePlaces
    rw [if_neg (by decide)]
    split
    · rw [Int.neg_neg, Int.ediv_one]; omega
    · omega
  show wpAny _ _ (match Builtin.Slice.sliceAdjust none none (-1) (n : Int) with | (a, b) => pure (a, (-1 : Int), Builtin.Slice.slicePlaces a b (-1))) _ _ s
  rw [e1]
  show wpAny _ _ (pure ((n : Int) - 1, (-1 : Int), Builtin.Slice.slicePlaces ((n : Int) - 1) (-1) (-1))) _ _ s
  rw [e2]
  exact wpAny_pure h
theorem item_rev {t sl : Addr} {items : Array Value} {vl vu vs : Value} {Q : Value → Shared → Prop} (ht : IsTup s.heap t items) (hs : s.heap.IsSliceOf sl vl vu vs) (pl : IsPart vl none) (pu : IsPart vu none) (ps : IsPart vs (some (-1)))
    (h : Q (.ref s.heap.objs.size) { s with heap := s.heap.push { cls := .type "tuple", data := .seq items.toList.reverse.toArray } }) (hsz : items.size ≤ sizeLine) : wpAny (model prog w) A (getItem (.ref t) (.ref sl)) Q E s := by
  have fits : sizeOk (.seq items.toList.reverse.toArray) := by
    show items.toList.reverse.toArray.size ≤ sizeLine
    rw [List.size_toArray, List.length_reverse, Array.length_toList]; exact hsz
  obtain ⟨o, ho, hc, hd⟩ := id hs
  have ty : s.TypeIs (.ref sl) "slice" := ⟨o, ho, hc⟩
  unfold getItem
  try with_reducible refine wpAny_holding ?_
  first | (refine wpAny_bind (wpAny_pure ?_)) | skip
  refine wpAny_bind (wpAny_sequenceKey ht.typeIs (by decide) (wpAny_bind (wpAny_callSpecial?_slot (name := Str.ofString "__getitem__") ht.typeIs PyProof.Rows.slot_tuple_getitem (wpAny_call_entry PyProof.Rows.slot_tuple_getitem ht.typeIs entry_tuple_getitem ?_ (args_tuple_getitem _ _)))))
  show wpAny _ _ (Builtin.Tuple.tupleItemsOf (.ref t) >>= fun _ => _) _ _ s
  refine wpAny_bind (tupleItemsOf_ ht (wpAny_bind (wpAny_typeOf ty ?_))); rw [if_pos (by decide)]
  refine wpAny_bind (applied_rev (n := items.size) hs pl pu ps ?_)
  show wpAny _ _ (if (((items.size : Int) - 1 == 0) && ((-1 : Int) == 1) && (items.size == items.size)) = true then _ else _) _ _ s
  rw [if_neg (by simp), pick_rev]
  first
    | exact wpAny_bind (m := Builtin.Tuple.tupleExact _) (wpAny_newObj_type (wpAny_pure ⟨_, rfl, wpAny_pure h⟩) fits)
    | exact wpAny_bind (m := Builtin.Tuple.tupleExact _) (wpAny_newObj_type (wpAny_bind (wpAny_pure (wpAny_pure ⟨_, rfl, wpAny_pure h⟩))) fits)
    | exact wpAny_bind (wpAny_bind (m := Builtin.Tuple.tupleExact _) (wpAny_newObj_type (wpAny_pure (wpAny_pure ⟨_, rfl, wpAny_pure h⟩)) fits))
    | exact wpAny_bind (wpAny_bind (m := Builtin.Tuple.tupleExact _) (wpAny_newObj_type (wpAny_pure ⟨_, rfl, wpAny_pure h⟩) fits))
end
/-- t[::-1] -/
def tRevT (K : PySem.W.Frag) (te : TE) : TE := fun σ H Q => te σ H fun x H1 => ∃ a xs, x = .ref a ∧ SqT K H1 a xs ∧ ∀ p, H1 p = none → Q (.ref p) (upd H1 p (.tup xs.reverse))
section
variable {X : Cx}
theorem pe_revT {e : Expr} {te : TE} {k : Nat} {p1 p2 p3 pos : Pos} (he : PE X e te) : PE X (.Subscript e (.Slice none none (some (.UnaryOp .USub (.Constant (.int 1) k p1) p2)) p3) pos) (tRevT X.K te) := by
  refine ⟨fun pins s σ H Q I h => Subscript_ (thn (he.run pins s σ H _ I h) fun v s1 ⟨x, H1, I1, r1, a, xs, ex, hx, q⟩ => ?_)⟩
  subst ex
  cases r1
  have step : PO X (some (.UnaryOp .USub (.Constant (.int 1) k p1) p2)) (tPart (tUn (rU fun i => .int (-i)) (tC (.int 1)))) := po_some (pe_un un_neg pe_int)
  refine wpAny_Slice (thn (po_none.run pins s1 σ H1 (fun o H2 => o = none ∧ H2 = H1) I1 ⟨rfl, rfl⟩) fun vl s2 ⟨l, H2, I2, pl, el, e2⟩ => ?_); subst el e2
  refine thn (po_none.run pins s2 σ H2 (fun o H3 => o = none ∧ H3 = H2) I2 ⟨rfl, rfl⟩) fun vu s3 ⟨u, H3, I3, pu, eu, e3⟩ => ?_; subst eu e3
  refine thn (step.run pins s3 σ H3 (fun o H4 => o = some (-1) ∧ H4 = H3) I3 ⟨1, rfl, -1, rfl, rfl, rfl⟩) fun vs s4 ⟨o, H4, I4, ps, eo, e4⟩ => ?_; subst eo e4
  have I5 : Inv X pins σ H4 { s4 with heap := s4.heap.push { cls := .type "slice", data := .fields #[vl, vu, vs] } } := I4.kept (t' := s4.toks) fun b ob q => Heap.get?_push_of_some _ q
  obtain ⟨its, r, ht, hz⟩ := I5.tuple hx
  have len := r.length
  show wpAny (model X.prog X.w) X.A (subscriptTail e (.Slice none none (some (.UnaryOp .USub (.Constant (.int 1) k p1) p2)) p3) (.ref a) (.ref s4.heap.objs.size)) (EP X pins σ Q) X.xe { s4 with heap := s4.heap.push { cls := .type "slice", data := .fields #[vl, vu, vs] } }
  refine tail_any (ops := [.ref a, .ref s4.heap.objs.size]) ht.typeIs PyProof.Rows.slot_tuple_getitem.lookup ?_ (by with_unfolding_all rfl)
  refine item_rev ht (Heap.IsSliceOf.new _ vl vu vs) pl pu ps ?_ (by rw [List.size_toArray]; omega)
  refine ⟨.ref _, _, I5.laid (t' := s4.toks) (o := .tup xs.reverse) (fun b ob q => Heap.get?_push_of_some _ q) (Nat.le_refl _) ?_, rfl, q _ (I5.hok.fresh (Nat.le_refl _))⟩
  exact ⟨by rw [List.length_reverse]; exact hz, _, r.reverse, IsTup.new _ _⟩
end
end Q
set_option Elab.async false
set_option linter.all false
set_option maxRecDepth 100000
set_option maxHeartbeats 4000000
/-! == and != by an own __eq__, whatever it answers. -/
namespace Q
open PySem PySem.Spec PyProof.Rows L2
section
variable {prog : Program} {w : World} {A : Around} {E : Value → Shared → Prop} {s : Shared} {K : PySem.W.Frag} {x C f : Addr} {ox : Obj} {od : Option Obj} {b tb : Value}
theorem bound_ne {M : Model} {args : List Value} {Q : Option Value → Shared → Prop} (X : K.In s.heap) (I : PySem.W.InstAt s.heap x ox C od) (hs : PySem.W.findIn K (.ref C) "__ne__" = some (some (.builtin "object.__ne__")))
    (h : wpAny M A (call (.builtin "object.__ne__") (.ref x :: args)) (fun v => Q (some v)) E s) : wpAny M A (callSpecialIfBound? (.ref x) "__ne__" args) Q E s := by
  have last : wpAny M A (call (.builtin "object.__ne__") ([.ref x] ++ args) >>= fun v => pure (some v)) Q E s := wpAny_bind (wpAny_mono h (fun _ _ z => wpAny_pure z) fun _ _ z => z)
  unfold callSpecialIfBound? bindSpecialIfBound?
  refine wpAny_holding (wpAny_bind (wpAny_bind (wpAny_bind (I.type.here ((PySem.W.looks_findIn X hs).here (wpAny_bind (wpAny_askSetting (wpAny_ite ?_))))))))
  split
  · exact wpAny_bind (wpAny_of_eq (F.cmp_object.ne.bind _) (wpAny_pure (by exact last)))
  · exact wpAny_tryCatch (wpAny_bind (wpAny_of_eq (F.cmp_object.ne.bind _) (wpAny_pure (by exact last))))
theorem entry_ne (X : K.In s.heap) (I : PySem.W.InstAt s.heap x ox C od) (he : PySem.W.findIn K (.ref C) "__eq__" = some (some (.ref f))) (hf : PySem.W.isFn K (.ref f) = true) (hu : A.units < cLine) {Q : Fin → Shared → Prop}
    (h : wpAny (model prog w) A (call (.ref f) [.ref x, b]) (fun v s' => ∃ c, v = .bool c ∧ Q (.done (.ret (.bool (!c)))) s') E s) : wpAny (model prog w) A (Builtin.«object.__ne__» ⟨[.ref x, b], []⟩) Q E s := by
  obtain ⟨hp, g, d, t, os⟩ := s
  unfold Builtin.«object.__ne__»
  repeat (first
    | with_reducible refine wpAny_cRoomFor hu ?_
    | (refine wpAny_bind (m := callSpecialIfBound? (.ref x) (Str.ofString "__eq__") [b]) (PySem.W.ifBound_K X I he hf (wpAny_mono h (fun r s' hr => by
        obtain ⟨c, rfl, hq⟩ := hr
        repeat (first | exact hq | exact wpAny_pure hq | exact wpAny_truthy_bool hq | (refine wpAny_bind (m := truthy (.bool _)) (wpAny_truthy_bool ?_)) | wp_step)) fun _ _ e => e)))
    | wp_step)
theorem ne_own (hu : A.units + 1 < cLine) (X : K.In s.heap) (I : PySem.W.InstAt s.heap x ox C od) (hb : PySem.W.Looks (model prog w) s.heap (typeOf b) tb) (hn : PySem.W.notFirst K C tb = true)
    (he : PySem.W.findIn K (.ref C) "__eq__" = some (some (.ref f))) (hf : PySem.W.isFn K (.ref f) = true) (hne : PySem.W.findIn K (.ref C) "__ne__" = some (some (.builtin "object.__ne__"))) (hm : PySem.W.mroIn K C (.type "object") = some true) {Q : Value → Shared → Prop}
    (h : wpAny (model prog w) A.in1 (call (.ref f) [.ref x, b]) (fun v s' => ∃ c, v = .bool c ∧ Q (.bool (!c)) s') E s) : wpAny (model prog w) A (richCompare .NotEq (.ref x) b) Q E s := by
  have one : wpAny (model prog w) A (tryCompare (.ref x) "__ne__" b) (fun r s' => ∃ c, r = some (.bool c) ∧ Q (.bool c) s') E s := by
    unfold tryCompare
    refine wpAny_bind (bound_ne X I hne (wpAny_call (codeAny_call_builtin F.cmp_object.ne.plain F.cmpEntry_ne (PySem.W.check_slot F.cmpKind_ne F.cmpSplit_ne (I.type.andThen (PySem.W.looks_mroIn X hm)) (F.cmpArgs_ne _ _)
      (entry_ne X I he hf (Nat.lt_of_le_of_lt (Nat.le_refl _) hu) (wpAny_mono h (fun v s' hv => ?_) fun _ _ e => e))))))
    obtain ⟨c, rfl, hq⟩ := hv
    refine ⟨c, rfl, ?_⟩
    first | exact wpAny_pure ⟨_, rfl, hq⟩ | exact ⟨_, rfl, hq⟩ | exact wpAny_pure (wpAny_pure ⟨_, rfl, hq⟩)
  unfold richCompare
  simp only [oneThing_ref]
  refine wpAny_holding (wpAny_bind (wpAny_cRoomFor (Nat.lt_of_succ_lt hu) (wpAny_bind (I.type.here (wpAny_bind (hb.here ?_))))))
  have fin : ∀ {rest : Option Value → Sem Value}, (∀ v s', Q v s' → wpAny (model prog w) A (rest (some v)) Q E s') → wpAny (model prog w) A (tryCompare (.ref x) (cmpInfo .NotEq).2.1 b >>= rest) Q E s := fun k =>
    wpAny_bind (wpAny_mono one (fun r s' z => by obtain ⟨c, rfl, hq⟩ := z; exact k _ _ hq) fun _ _ e => e)
  split
  · rename_i q
    have e : PySem.W.subIn K tb (.ref C) = some false := by
      rcases Bool.or_eq_true_iff.mp hn with e | e
      · rw [beq_iff_eq.mp e] at q; simp at q
      · exact beq_iff_eq.mp e
    refine wpAny_bind ((PySem.W.looks_subIn X e).here ?_)
    simp only [Bool.false_eq_true, if_false]
    exact fin fun v s' hq => wpAny_pure hq
  · refine wpAny_bind (wpAny_pure ?_)
    simp only [Bool.false_eq_true, if_false]
    exact fin fun v s' hq => wpAny_pure hq
end
section
variable {X : Cx} {n : Nat}
/-- a call of an own def by its value, from somewhere below the running body -/
theorem own_call {f : Addr} {fd : FuncData} {ps : List Str} {sp : Sp} (F : FnOk X.prog X.w X.K X.mg X.base CX0 n f fd ps sp) (hb : Binds X.K fd ps []) {A : Around} (sb : Sub X n A) {pins : List (Addr × Obj)} {σ : L2.St} {H : Hp} {s : Shared}
    (I : Inv X pins σ H s) {xs : List V} {us : List Value} (r : Vals xs us) {Q : VK} (h : sp xs H Q fun _ _ _ => False) :
    wpAny (model X.prog X.w) A (call (.ref f) us) (fun u s' => ∃ v H', Inv X pins σ H' s' ∧ RelV v u ∧ Q v H') X.xe s := by
  have e0 : Env0 X.prog X.w X.K X.mg X.base A X.stack s H := by
    have e := I.env0
    exact ⟨sb.fr.trans e.frames, e.mod, e.bs, e.bsz, e.funs, e.frf, e.hok, e.bare⟩
  have len : us.length = ps.length := r.length.symm.trans (F.len _ _ _ _ h)
  refine wpAny_call (codeAny_mono (F.run A X.stack s H ⟨us, []⟩ us xs _ _ sb.room e0 (by simpa using hb s us I.kIn (by simpa using len)) r h) fun z s' hq => ?_)
  cases z with
  | error e => exact pass0 pins σ H s e s' I hq
  | ok fl =>
    cases fl with
    | ret u =>
      obtain ⟨v, H', I', rv, q⟩ := I.after hq
      exact ⟨v, H', I', rv, q⟩
    | next => exact False.elim hq
    | brk => exact False.elim hq
    | cont => exact False.elim hq
/-- what stands on the right: an instance of the same class, or a value of a built-in kind -/
def Beside (K : PySem.W.Frag) (C : Addr) (H : Hp) (y : V) : Prop := (∃ b dy gs, y = .ref b ∧ H b = some (.ins C dy gs)) ∨ ∃ t, TyX K H y t ∧ PySem.W.notFirst K C t = true
theorem Beside.look {C : Addr} {pins : List (Addr × Obj)} {σ : L2.St} {H : Hp} {s : Shared} {y : V} {v : Value} (I : Inv X pins σ H s) (ry : RelV y v) (h : Beside X.K C H y) :
    ∃ tb, PySem.W.Looks (model X.prog X.w) s.heap (typeOf v) tb ∧ PySem.W.notFirst X.K C tb = true := by
  rcases h with ⟨b, dy, gs, rfl, hb⟩ | ⟨t, ty, hn⟩
  · cases ry
    obtain ⟨mB, J, _⟩ := ins_get I.hok hb
    obtain ⟨od, J, _⟩ := J.look
    exact ⟨_, J.type, by simp [PySem.W.notFirst]⟩
  · obtain ⟨P, Z, p, _⟩ := kit_of I ry ty
    exact ⟨t, Z.ty _ _ I.kIn p, hn⟩
def rEqO (K : PySem.W.Frag) (C : Addr) (sp : Sp) (ne : Bool) : R2 := fun x y H Q => ∃ a dx fs, x = .ref a ∧ H a = some (.ins C dx fs) ∧ Beside K C H y ∧ sp [x, y] H (fun v H' => ∃ b, v = .bl b ∧ Q (.bl (if ne then !b else b)) H') fun _ _ _ => False
theorem op_eqO {C f : Addr} {fd : FuncData} {ps : List Str} {sp : Sp} (F : FnOk X.prog X.w X.K X.mg X.base CX0 n f fd ps sp) (hb : Binds X.K fd ps [])
    (hs : PySem.W.findIn X.K (.ref C) "__eq__" = some (some (.ref f))) (hf : PySem.W.isFn X.K (.ref f) = true) (hr : Room n X.A) : OpR X (compareOp .Eq) (rEqO X.K C sp false) := by
  intro pins s σ H x y u u' Q I rx ry h
  obtain ⟨a, dx, fs, rfl, ha, bs, q⟩ := h
  cases rx
  obtain ⟨tb, L, hn⟩ := bs.look I ry
  obtain ⟨mA, J, _⟩ := ins_get I.hok ha
  obtain ⟨od, J, _⟩ := J.look
  obtain ⟨m, hF⟩ := I.fr
  refine PySem.W.cmp_K (op := .Eq) (tb := tb) hr.units0 hF I.ok.mod.kin J L hn hs hf ?_
  refine wpAny_mono (own_call F hb ⟨hr, rfl⟩ I (show Vals [V.ref a, y] [Value.ref a, u'] from .cons rfl (.cons ry .nil)) q) (fun r s' z => ?_) fun _ _ e => e
  obtain ⟨z, H', I', rz, b, rfl, q⟩ := z
  cases rz
  exact ⟨.bl _, H', I', rfl, q⟩
theorem op_neO {C f : Addr} {fd : FuncData} {ps : List Str} {sp : Sp} (F : FnOk X.prog X.w X.K X.mg X.base CX0 n f fd ps sp) (hb : Binds X.K fd ps [])
    (hs : PySem.W.findIn X.K (.ref C) "__eq__" = some (some (.ref f))) (hf : PySem.W.isFn X.K (.ref f) = true) (hne : PySem.W.findIn X.K (.ref C) "__ne__" = some (some (.builtin "object.__ne__"))) (hm : PySem.W.mroIn X.K C (.type "object") = some true)
    (hr : Room (n + 1) X.A) : OpR X (compareOp .NotEq) (rEqO X.K C sp true) := by
  intro pins s σ H x y u u' Q I rx ry h
  obtain ⟨a, dx, fs, rfl, ha, bs, q⟩ := h
  cases rx
  obtain ⟨tb, L, hn⟩ := bs.look I ry
  obtain ⟨mA, J, _⟩ := ins_get I.hok ha
  obtain ⟨od, J, _⟩ := J.look
  have sb : Sub X (n + 1) X.A := ⟨hr, rfl⟩
  refine ne_own (tb := tb) (by have := hr.un; omega) I.kIn J L hn hs hf hne hm ?_
  refine wpAny_mono (own_call F hb sb.in1 I (show Vals [V.ref a, y] [Value.ref a, u'] from .cons rfl (.cons ry .nil)) q) (fun r s' z => ?_) fun _ _ e => e
  obtain ⟨z, H', I', rz, b, rfl, q⟩ := z
  cases rz
  exact ⟨_, rfl, .bl _, H', I', rfl, q⟩
end
end Q
set_option Elab.async false
set_option linter.all false
set_option maxRecDepth 100000
set_option maxHeartbeats 4000000
/-! Making an object within a try: what is let out is told at the slots as they are. -/
namespace Q
open PySem PySem.Spec PyProof.Rows L2
def tMakeS (C : Addr) (sp : Sp) (E : L2.St → XK) (t : TA) : TE := fun σ H Q => t σ H fun vs H1 => ∀ x dx, H1 x = none → H1 dx = none → dx ≠ x →
  sp (.ref x :: (vs ++ [])) (upd (upd H1 dx (.own x)) x (.ins C dx [])) (fun v H2 => v = .non ∧ Q (.ref x) H2) (E σ)
section
variable {X : Cx} {CX : CXT} {k : Nat} {f C : Addr} {fd : FuncData} {ps : List Str} {sp : Sp} {E : L2.St → XK} {x : Str} {p pos : Pos} {e : Expr} {es : List Expr} {t : TA}
theorem pe_makeS (M : Mk X.K C f) (F : FnOk X.prog X.w X.K X.mg X.base CX k f fd ps sp) (hr : Room (k + 1) X.A) (hg : Gl X x) (hm : X.mg x = some (.ref C)) (hb : Binds X.K fd ps []) (hx : ∀ σ, PassesAt CX X σ (E σ)) (ha : PA X (e :: es) t)
    (hdb : (x == ("__debug__" : Str)) = false := by decide) (he : starEach (e :: es) X.env = (false, eval e X.env) :: starEach es X.env := by rfl) (hpl : (backTo pos (starEach es X.env)).any (·.1) = false := by rfl) :
    PE X (.Call (.Name x p) (e :: es) [] pos) (tMakeS C sp E t) := by
  refine ⟨fun pins s σ H Q I h => wpAny_Call_Name_kw (ld_glob I hg hm ?_ hdb)⟩
  refine PySem.W.callWith_K (h₀ := X.base) I.ok.mod.kin M.kp (thn (ha.run pos pins s σ H _ I h) fun us s1 z => ?_) he hpl
  obtain ⟨vs, H1, I1, r, q⟩ := z
  refine ⟨I1.kIn, ?_⟩
  have hq := q (s1.heap.objs.size + 1) s1.heap.objs.size (I1.hok.fresh (Nat.le_succ _)) (I1.hok.fresh (Nat.le_refl _)) (Nat.ne_of_lt (Nat.lt_succ_self _))
  have I2 := Inv.made (C := C) I1
  have r2 : Vals (V.ref (s1.heap.objs.size + 1) :: (vs ++ [])) (Value.ref (s1.heap.objs.size + 1) :: us) := .cons rfl (by rw [List.append_nil]; exact r)
  have len : (Value.ref (s1.heap.objs.size + 1) :: us).length = ps.length := by
    rw [← r2.length]
    exact F.len _ _ _ _ hq
  have b := hb _ (Value.ref (s1.heap.objs.size + 1) :: us) I2.kIn (by rw [List.append_nil]; exact len)
  rw [List.append_nil] at b
  have run := F.run _ X.stack _ _ ⟨Value.ref (s1.heap.objs.size + 1) :: us, []⟩ (Value.ref (s1.heap.objs.size + 1) :: us) _ _ (E σ) (hr.make C us []) (I2.env0.make C us []) b r2 hq
  show wpAny (model X.prog X.w) X.A (call (.ref C) us) (EP X pins σ Q) X.xe s1
  refine wpAny_call (make_map (f := f) I1.kIn M.makes M.init (beq_iff_eq.mp M.fn) (codeAny_mono run fun z s' hq' => ?_))
  match z, hq' with
  | .error u, hq' => exact hx σ pins _ _ u s' I2 hq'
  | .ok (.ret u), hq' =>
    obtain ⟨v, H', I3, rv, ev, q3⟩ := I2.after hq'
    subst ev
    exact ⟨rv, ⟨V.ref (s1.heap.objs.size + 1), H', I3, rfl, q3⟩⟩
  | .ok .next, hq' => exact False.elim hq'
  | .ok .brk, hq' => exact False.elim hq'
  | .ok .cont, hq' => exact False.elim hq'
end
end Q
set_option Elab.async false
set_option linter.all false
set_option maxRecDepth 100000
set_option maxHeartbeats 4000000
/-! isinstance of an exception by a tuple of classes. -/
namespace Q
open PySem PySem.Spec PyProof.Rows L2
/-- isinstance(e, (c1, c2, ..)) of an exception; the tuple was just laid -/
def rIsET (K : PySem.W.Frag) : List V → Hp → VK → Prop := fun xs H Q =>
  ∃ (a C tp : Addr) (cs : List V) (us : List Value) (b : Bool), xs = [.ref a, .ref tp] ∧ H tp = some (.tup cs) ∧ Paired ClsV cs us ∧
    ErrI H a C ∧ ExcC K C ∧ PySem.W.kitAny K (.ref C) us = some b ∧ Q (.bl b) H
section
variable {X : Cx}
theorem call_isET : CallR X (.builtin "isinstance") (rIsET X.K) := by
  intro pins s σ H xs us Q I r h
  obtain ⟨a, C, tp, cs, ws, b, rfl, hT, k, eo, ec, e, q⟩ := h
  obtain ⟨u1, u2, rfl, r1, r2⟩ := vals2 r
  obtain rfl : u1 = Value.ref a := r1
  cases (show u2 = Value.ref tp from r2)
  obtain ⟨oe, od, J⟩ := eo.inst I
  obtain ⟨_, its, rv, o, h1, h2, n, h3⟩ := (show ObjOk X.prog X.w H s.heap tp (.tup cs) from I.hok tp _ hT)
  have e3 := ClsV.all k rv
  subst e3
  obtain ⟨oc, od, dt, sl⟩ := o
  simp only at h2 h3
  subst h2 h3
  exact PySem.W.kia_tup (kitx_err (ox := oe) (od := _) ec) I.kIn J h1 e (fun z => nomatch z) fun tk => ⟨.bl b, H, I.tok tk, rfl, q⟩
end
end Q
set_option Elab.async false
set_option linter.all false
set_option maxRecDepth 100000
set_option maxHeartbeats 4000000
/-! repr of a pair of plain texts beside repr of any other pair. -/
namespace Q
open PySem PySem.Spec PyProof.Rows L2 PySem.Builtin PySem.Builtin.Str
abbrev plainC (c : Nat) : Prop := 32 ≤ c ∧ c < 127 ∧ c ≠ 39 ∧ c ≠ 92
abbrev PlainS (z : Str) : Prop := ∀ c ∈ z.cps.toList, plainC c
theorem char_plain {c : Nat} (h : plainC c) : reprChar 39 c = [c] := by
  have all : ∀ c : _root_.Fin 127, plainC c.val → reprChar 39 c.val = [c.val] := by decide +kernel
  exact all ⟨c, h.2.1⟩ h
theorem fold_plain : ∀ (l : List Nat) (acc : Array Nat), (∀ c ∈ l, plainC c) → (l.foldl (fun out c => out ++ (reprChar 39 c).toArray) acc).toList = acc.toList ++ l
  | [], acc, _ => by simp
  | c :: r, acc, h => by
    rw [List.foldl_cons, fold_plain r _ fun d hd => h d (List.mem_cons_of_mem _ hd), char_plain (h c List.mem_cons_self)]
    simp
theorem repr_plain {z : Str} (h : PlainS z) : (reprText z).cps.toList = 39 :: (z.cps.toList ++ [39]) := by
  have q : reprQuote z = 39 := by
    unfold reprQuote
    have e : z.cps.contains 39 = false := by
      cases e : z.cps.contains 39
      · rfl
      · rw [← Array.contains_toList, List.contains_iff_mem] at e
        exact absurd rfl (h 39 e).2.2.1
    rw [e]
    rfl
  unfold reprText
  rw [q]
  show (Array.push _ 39).toList = _
  rw [Array.toList_push, ← Array.foldl_toList, fold_plain _ _ h]
  simp
/-- a plain text, or data whose text does not begin with a quote -/
def Pl1 (d : PyData) : Prop := (∃ z, d = .str z ∧ PlainS z) ∨ d.shown.cps.toList.head? ≠ some 39
theorem cps_app2 (x y : Str) : (x ++ y).cps.toList = x.cps.toList ++ y.cps.toList := by
  show (x.cps ++ y.cps).toList = _
  exact Array.toList_append
theorem pair_cps (d e : PyData) : (PyData.shown (.tuple [d, e])).cps.toList = 40 :: (d.shown.cps.toList ++ (44 :: 32 :: (e.shown.cps.toList ++ [41]))) := by
  simp only [PyData.shown, PyData.shownAll]
  unfold tupleText
  show ((("(" : Str) ++ (d.shown ++ ", " ++ e.shown) ++ ((")" : String) : Str))).cps.toList = _
  rw [cps_app2, cps_app2, cps_app2, cps_app2]
  have e1 : (("(" : String) : Str).cps.toList = [40] := by decide +kernel
  have e2 : ((", " : String) : Str).cps.toList = [44, 32] := by decide +kernel
  have e3 : ((")" : String) : Str).cps.toList = [41] := by decide +kernel
  rw [e1, e2, e3]
  simp
theorem cut_quote : ∀ {A B R S : List Nat}, 39 ∉ A → 39 ∉ B → A ++ 39 :: R = B ++ 39 :: S → A = B ∧ R = S
  | [], [], _, _, _, _, h => by simpa using h
  | [], b :: B, _, _, _, hb, h => by
    simp only [List.nil_append, List.cons_append, List.cons.injEq] at h
    exact absurd (by rw [← h.1]; exact List.mem_cons_self) hb
  | a :: A, [], _, _, ha, _, h => by
    simp only [List.nil_append, List.cons_append, List.cons.injEq] at h
    exact absurd (by rw [h.1]; exact List.mem_cons_self) ha
  | a :: A, b :: B, R, S, ha, hb, h => by
    simp only [List.cons_append, List.cons.injEq] at h
    obtain ⟨e1, e2⟩ := cut_quote (fun z => ha (List.mem_cons_of_mem _ z)) (fun z => hb (List.mem_cons_of_mem _ z)) h.2
    exact ⟨by rw [h.1, e1], e2⟩
theorem str_cps {x y : Str} (h : x.cps.toList = y.cps.toList) : x = y := by
  cases x
  cases y
  congr 1
  exact Array.toList_inj.mp h
theorem no_quote {z : Str} (h : PlainS z) : 39 ∉ z.cps.toList := fun m => (h 39 m).2.2.1 rfl
theorem one_plain {a : Str} {d : PyData} {R S : List Nat} (ha : PlainS a) (hd : Pl1 d) (hs : S.head? ≠ some 39) (e : 39 :: (a.cps.toList ++ 39 :: R) = d.shown.cps.toList ++ S) : d = .str a ∧ R = S := by
  rcases hd with ⟨z, rfl, hz⟩ | hd
  · simp only [PyData.shown] at e
    rw [repr_plain hz] at e
    simp only [List.cons_append, List.append_assoc, List.cons.injEq, List.nil_append, true_and] at e
    obtain ⟨e1, e2⟩ := cut_quote (no_quote ha) (no_quote hz) e
    rw [str_cps e1]
    exact ⟨rfl, e2⟩
  · exfalso
    cases q : d.shown.cps.toList with
    | nil =>
      rw [q, List.nil_append] at e
      rw [← e] at hs
      exact hs rfl
    | cons c r =>
      rw [q, List.cons_append] at e
      injection e with e1 _
      rw [q, ← e1] at hd
      exact hd rfl
/-- repr of two plain texts tells them -/
theorem repr_pair {a b : Str} {d e : PyData} (ha : PlainS a) (hb : PlainS b) (hd : Pl1 d) (he : Pl1 e) : PyData.shown (.tuple [.str a, .str b]) = PyData.shown (.tuple [d, e]) ↔ d = .str a ∧ e = .str b := by
  constructor
  · intro h
    have h2 := congrArg (fun z : Str => z.cps.toList) h
    simp only [pair_cps] at h2
    have sa : (PyData.str a).shown.cps.toList = 39 :: (a.cps.toList ++ [39]) := by simp only [PyData.shown]; exact repr_plain ha
    have sb : (PyData.str b).shown.cps.toList = 39 :: (b.cps.toList ++ [39]) := by simp only [PyData.shown]; exact repr_plain hb
    rw [sa, sb] at h2
    injection h2 with _ h2
    obtain ⟨e1, e2⟩ := one_plain (S := 44 :: 32 :: (e.shown.cps.toList ++ [41])) (R := 44 :: 32 :: (39 :: (b.cps.toList ++ [39]) ++ [41])) ha hd (by simp) (by simpa using h2)
    injection e2 with _ e2
    injection e2 with _ e2
    obtain ⟨e3, _⟩ := one_plain (S := [41]) (R := [41]) hb he (by simp) (by simpa using e2)
    exact ⟨e1, e3⟩
  · rintro ⟨rfl, rfl⟩
    rfl
end Q
set_option Elab.async false
set_option linter.all false
set_option maxRecDepth 100000
set_option maxHeartbeats 4000000
/-! set(xs) of whole numbers, whatever comes twice. -/
namespace Q
open PySem PySem.Spec PyProof.Rows L2
section
variable {P : Program} {w : World} {A : Around} {E : Value → Shared → Prop} {s : Shared}
def IntJ (w : World) (S : Addr) (ns : List Int) (i : Nat) (h : Heap) : Prop := ∃ n, n ≤ i ∧ SetR w h S (fun k => decide (k ∈ ns.take i)) n
theorem ints_get {vs : List Value} {ns : List Int} (r : IntsAre vs ns) : ∀ {i : Nat} {v : Value}, vs[i]? = some v → ∃ k t, ns[i]? = some k ∧ v = .int k t := by
  induction r with
  | nil => intro i v h; simp at h
  | cons y t _ ih =>
    intro i v h
    cases i with
    | zero =>
      simp at h
      exact ⟨_, _, rfl, h.symm⟩
    | succ i =>
      simp only [List.getElem?_cons_succ] at h ⊢
      exact ih h
theorem set_ints {l : Addr} {items : Array Value} {ns : List Int} {Q : Value → Shared → Prop} (hh : A.handled = none) (hl : s.heap.IsList l items) (r : IntsAre items.toList ns) (few : ns.length < 4000)
    (next : ∀ (h' : Heap) (tk : Nat) (S : Int → Bool) (n : Nat), (∀ b o, s.heap.get? b = some o → h'.get? b = some o) → (∀ k, S k = true ↔ k ∈ ns) → n ≤ ns.length → SetR w h' s.heap.objs.size S n → Q (.ref s.heap.objs.size) { s with heap := h', toks := tk }) :
    wpAny (model P w) A (call (.type "set") [.ref l]) Q E s := by
  have ly : items.size = ns.length := by rw [← r.length, Array.length_toList]
  refine set_filled (IntJ w s.heap.objs.size ns) hh hl ?_ (fun i h h' j k => ?_) (fun E i v z Q lt pv j k => ?_) fun h' tk kp j => ?_
  · have f := setR_fresh (h := s.heap) w
    refine ⟨0, Nat.le_refl _, (SetR.at f fun o e => ?_).congr fun k => by simp⟩
    exact Heap.get?_push_of_some _ e
  · obtain ⟨n, le, R⟩ := j
    refine ⟨n, le, R.at fun o e => k _ _ ?_ e⟩
    rw [Heap.size_push]
    exact Nat.ne_of_lt (Nat.lt_succ_self _)
  · obtain ⟨n, le, R⟩ := j
    obtain ⟨y, t, ey, rfl⟩ := ints_get r (i := i) (v := v) (by rw [Array.getElem?_toList]; exact pv)
    unfold setAdd
    refine wpAny_holding ?_
    refine wpAny_bind ((intKind P w).pyHash (intKind_is P w y t) ?_)
    refine setR_add_hashed (s := { z with toks := z.toks + 1 }) R ?_ fun h' sb R' => ?_
    · show n + 1 < 4096
      omega
    refine k _ _ _ (Nat.le_succ _) sb ⟨_, ?_, R'.congr fun j => ?_⟩
    · split <;> omega
    · rw [List.take_add_one, ey]
      simp
  · obtain ⟨n, le, R⟩ := j
    rw [ly] at le R
    exact next h' tk _ n kp (fun k => by rw [List.take_length]; exact decide_eq_true_iff) le R
end
section
variable {X : Cx}
def rSetI (K : PySem.W.Frag) (w : World) : List V → Hp → VK → Prop := fun xs H Q => ∃ (l : Addr) (ns : List Int), xs = [V.ref l] ∧ SqL K H l (ns.map V.int) ∧ ns.length < 4000 ∧
  ∀ a S n, (∀ k, S k = true ↔ k ∈ ns) → n ≤ ns.length → H a = none → Q (.ref a) (upd H a (SetO w a S n))
theorem cr_setI (hc : X.calm = true) : CallR X (.type "set") (rSetI X.K X.w) := by
  intro pins s σ H xs us Q I r h
  obtain ⟨l, ns, rfl, hl, few, q⟩ := h
  rw [Vals.ref1 r]
  obtain ⟨its, rv, pl, _⟩ := I.list hl
  refine set_ints (P := X.prog) (w := X.w) (items := its.toArray) (I.ok.hd hc) pl.isList (ints_of_vals rv) few fun h' tk S n kp hS hn R => ?_
  exact ⟨.ref s.heap.objs.size, _, I.laid (t' := tk) kp (Nat.le_refl _) (setO_new R), rfl, q _ S n hS hn (I.hok.fresh (Nat.le_refl _))⟩
end
end Q
set_option Elab.async false
set_option linter.all false
set_option maxRecDepth 100000
set_option maxHeartbeats 4000000
/-! min(xs, default=d) of whole numbers. -/
namespace Q
open PySem PySem.Spec PyProof.Rows L2
section
variable {P : Program} {w : World} {A : Around} {E : Value → Shared → Prop} {s : Shared}
theorem min_dflt {l : Addr} {its : List Value} {ns : List Int} {d : Value} {Q : Value → Shared → Prop} (hh : A.handled = none) (hl : s.heap.IsList l its.toArray) (hi : IntsAre its ns)
    (h0 : ns = [] → ∀ h' tk, (∀ b o, s.heap.get? b = some o → h'.get? b = some o) → Q d { s with heap := h', toks := tk })
    (h1 : ∀ h' tk M t', (∀ b o, s.heap.get? b = some o → h'.get? b = some o) → M ∈ ns → (∀ a, a ∈ ns → M ≤ a) → Q (.int M t') { s with heap := h', toks := tk }) :
    wpAny (model P w) A (call (.builtin "min") [.ref l] [(Str.ofString "default", d)]) Q E s := by
  obtain ⟨xs, e⟩ := hi.allInts.items
  have hn : numsOf (intItems xs).toList = ns := by rw [← e]; exact hi.numsOf
  rw [nums_intItems] at hn
  subst hn
  rw [e] at hl
  have back : ∀ (s2 : Shared) (h0 : Heap), s2 = { s with heap := h0 } → ∀ s' : Shared, s'.gens = s2.gens → s'.drawn = s2.drawn → s'.os = s2.os → s' = { s with heap := s'.heap, toks := s'.toks } := fun s2 h0 e s' g dr o => by
    subst e
    cases s'
    cases s
    cases g
    cases dr
    cases o
    rfl
  refine call_min_walkD (iter_intList hl fun s₂ e st hfp hlI => ?_)
  refine ⟨_, _, _, _, _, _, _, ({} : Heap), fun i j => decide (numAt xs i < numAt xs j), rfl, (Walks.list (A := A.in1) hh _ l hlI (intItems xs)).toS, ?_, hfp, fun b o z => ?_, fun b o z => ?_, fun z s' mv => ?_, fun z => ⟨fun i j vi vj s3 Q3 E3 _ hi hj hq => ?_, fun v s' hP mv => ?_⟩⟩
  · exact st
  · exact absurd z (by simp [Heap.get?])
  · exact absurd z (by simp [Heap.get?])
  · have hz : xs.size = 0 := by simpa [intItems] using z
    rw [back s₂ _ e s' mv.gens mv.drawn mv.os]
    refine h0 (List.eq_nil_of_length_eq_zero (by simpa using hz)) _ _ ?_
    subst e
    exact old_kept fun b o nb q => mv.heap b o nb q
  · exact (CmpOf.ints_lt (numAt xs) (fun _ _ => intItems_at)) i j vi vj s3 Q3 E3 hi hj hq
  · have hsz : 0 < xs.size := by simpa [intItems] using z
    have hP : (intItems xs)[argBest (fun i j => decide (numAt xs i < numAt xs j)) (xs.size - 1)]? = some v := by simpa [intItems] using hP
    obtain ⟨t, rfl⟩ := intItems_at hP
    obtain ⟨g1, g2⟩ := argBest_lt (numAt xs) (xs.size - 1)
    rw [back s₂ _ e s' mv.gens mv.drawn mv.os]
    refine h1 _ _ _ t ?_ ?_ fun a ha => ?_
    · subst e
      exact old_kept fun b o nb q => mv.heap b o nb q
    · rw [numAt_eq]; exact PySem.getD_mem (by rw [List.length_map, Array.length_toList]; omega)
    · obtain ⟨j, hj, rfl⟩ := mem_getD ha
      rw [List.length_map, Array.length_toList] at hj
      rw [← numAt_eq]; exact g2 j (by omega)
end
def rMinD (K : PySem.W.Frag) : List V → List V → Hp → VK → Prop := fun vs zs H Q => ∃ (a : Addr) (ns : List Int) (d : V), vs = [V.ref a] ∧ zs = [d] ∧ SqL K H a (ns.map V.int) ∧ (ns = [] → Q d H) ∧ (∀ m, m ∈ ns → (∀ y, y ∈ ns → m ≤ y) → Q (.int m) H)
theorem cr_minD {X : Cx} (hc : X.calm = true) : CallRK X (.builtin "min") [Str.ofString "default"] (rMinD X.K) := by
  intro pins s σ H vs zs us ws Q I r rz h
  obtain ⟨a, ns, d, rfl, rfl, hs, q0, q1⟩ := h
  obtain ⟨its, rv, hl, _⟩ := I.list hs
  rw [Vals.ref1 r]
  obtain ⟨w1, rfl, e1⟩ := vals1 rz
  refine min_dflt (I.ok.hd hc) hl.isList rv.ints (fun e h' tk hk => ?_) fun h' tk m t' hk h1 h2 => ⟨.int _, H, I.kept hk, ⟨_, rfl⟩, q1 m h1 h2⟩
  exact ⟨d, H, I.kept hk, e1, q0 e⟩
end Q
namespace Q
open PySem PySem.Spec PyProof.Rows L2
/-- x not in t, t a tuple of data -/
def rNotInDT (K : PySem.W.Frag) : R2 := fun x y H Q => ∃ d ds, Dp K H x d ∧ Dp K H y (.tuple ds) ∧ SeqAt.shaped d = true ∧ SeqAt.shaped (.tuple ds) = true ∧ Q (.bl (!ds.any fun z => PyData.eqv z d)) H
theorem op_notInDT {X : Cx} (hu : X.A.units + 65 < cLine) : OpR X (compareOp .NotIn) (rNotInDT X.K) := by
  intro pins s σ H x y v u Q I rx ry h
  obtain ⟨d, ds, hd, he, sd, se, q⟩ := h
  obtain ⟨as, r1⟩ := Dp.reads I d x v hd rx
  obtain ⟨bs, r2⟩ := Dp.reads I (.tuple ds) y u he ry
  exact SeqAt.notIn_tuple_reads r2 r1 (SeqAt.canLay_of_shaped se) (SeqAt.canLay_of_shaped sd) (room_in_shaped sd hu) ⟨.bl _, H, I, rfl, q⟩
end Q
/-! == of two equal data of one kind: scalars, lists and tuples of data, dicts of texts and whole numbers. -/
namespace D7
open PySem PySem.Spec PyProof.Rows L2 Q
section
variable {X : Cx}
def rEqTab : R2 := fun x y H Q => ∃ a b f g, x = .ref a ∧ y = .ref b ∧ H a = some (.dK (V f)) ∧ H b = some (.dK (V g)) ∧ Q (.bl (same f g)) H
theorem op_eqTab (hu1 : X.A.units + 1 < cLine) : OpR X (compareOp .Eq) rEqTab := by
  have hu : X.A.units < cLine := Nat.lt_of_succ_lt hu1
  intro pins s σ H x y v u Q I rx ry h
  obtain ⟨a, b, f, g, rfl, rfl, ea, eb, q⟩ := h
  obtain rfl : v = Value.ref a := rx
  obtain rfl : u = Value.ref b := ry
  obtain ⟨_, ya, va, ra, da⟩ := (show ObjOk X.prog X.w H s.heap a (.dK (V f)) from I.hok a _ ea)
  obtain ⟨_, yb, vb, rb, db⟩ := (show ObjOk X.prog X.w H s.heap b (.dK (V g)) from I.hok b _ eb)
  have la : va.length = f.length := by rw [← ra.length, len_V]
  have lb : vb.length = g.length := by rw [← rb.length, len_V]
  refine PySem.W.keq_eq (knd := mixKind X.prog X.w) (r := f.all fun p => decide (look g p.1 = some p.2)) ya yb da db hu (fun _ => tab_hits rb ra) (fin_bl I q ?_)
  unfold same
  rw [la, lb]
def rEqS (K : PySem.W.Frag) : R2 := fun x y H Q => rEq x y H Q ∨ rEqD K x y H Q ∨ rEqTab x y H Q
theorem op_eqS (hu : X.A.units + 64 < cLine) : OpR X (compareOp .Eq) (rEqS X.K) := by
  intro pins s σ H x y v u Q I rx ry h
  rcases h with h | h | h
  · exact op_eq pins s σ H x y v u Q I rx ry h
  · exact op_eqD hu pins s σ H x y v u Q I rx ry h
  · exact op_eqTab (by have := hu; omega) pins s σ H x y v u Q I rx ry h
end
end D7
set_option Elab.async false
set_option linter.all false
set_option maxRecDepth 100000
set_option maxHeartbeats 4000000
/-! sorted(set) of whole numbers, any number of them. -/
namespace L2
open PySem PySem.Spec PyProof.Rows SrtO
section
variable {P : Program} {w : World} {A : Around} {E : Value → Shared → Prop} {s : Shared} {a : Addr}
theorem sorted_setA {S : Int → Bool} {n : Nat} {Q : Value → Shared → Prop} (R : SetR w s.heap a S n) (hh : A.handled = none) (hz : n ≤ 1000)
    (hQ : ∀ s' p (out : Array Value) (c : Nat) (ns : List Int), (∀ b o, s.heap.get? b = some o → s'.heap.get? b = some o) → s'.gens = s.gens → s'.os = s.os → s.heap.objs.size ≤ p →
      s'.heap.get? p = some (seqObj "list" out c) → IntsAre out.toList ns → ns.Pairwise (· < ·) → (∀ k, k ∈ ns ↔ S k = true) → ns.length = n → Q (.ref p) s') :
    wpAny (model P w) A (call (.builtin "sorted") [.ref a]) Q E s := by
  obtain ⟨o, es, ep, t, ho, hex, hd, g, nd, hm, hb, hf, hn, hr, hl⟩ := R
  refine Calls.call_function_entry kind_sorted plain_sorted entry_sorted (args_sorted1 _) ?_
  unfold Builtin.«sorted»
  refine wpAny_bind (m := checkCount "sorted" 1 1 _) (wpAny_pure ?_)
  refine wpAny_bind (collect_set (A := A.in1) hh ⟨o, ho, hex.1, hd⟩ hf hb hr hl fun s1 vs k1 hz1 g1 o1 pm => ?_)
  have hvl : vs.length = n := by rw [pm.length_eq, List.length_map, Array.length_toList]; exact hn
  have hI : IntsAre vs (vs.map Builtin.Re.reRawOf) := ints_of vs fun v hv => by
    obtain ⟨e, he, q⟩ := List.mem_map.mp (pm.mem_iff.mp hv)
    obtain ⟨k, tk, h1, _⟩ := g e he
    exact ⟨k, tk, by rw [← q]; exact h1⟩
  have pk : (vs.map Builtin.Re.reRawOf).Perm (es.toList.map keyOf) := by
    have q := pm.map Builtin.Re.reRawOf
    rw [List.map_map] at q
    exact q
  have lim : vs.length ≤ sizeLine := by rw [hvl, sizeLine_eq]; omega
  refine wpAny_bind (wpAny_newList ?_ lim)
  have hoL : (s1.heap.push (seqObj "list" vs.toArray 0)).get? s1.heap.objs.size = some (seqObj "list" vs.toArray 0) := Heap.get?_push_size _ rfl
  refine wpAny_bind (wpAny_holding (wpAny_call_entry slot_list_sort ⟨_, hoL, rfl⟩ entry_list_sort (list_sort_ord swo_int hoL lim (fun h2 => ints_sortable hI h2) fun out hs hb2 => ⟨_, rfl, ?_⟩) (args_list_sort _)))
  obtain ⟨a1, a2, a3⟩ := ints_out hI hs hb2
  obtain ⟨c, hc⟩ := sortedHeap_at (vs := vs) (out := out.toArray) hoL
  have pn : (out.map iv).Perm (es.toList.map keyOf) := a2.trans pk
  refine wpAny_pure ⟨_, rfl, hQ _ s1.heap.objs.size out.toArray c (out.map iv) (fun b u e => ?_) g1 o1 hz1 hc (by simpa using a1) (lt_of_le_nodup _ a3 (pn.nodup_iff.mpr nd)) (fun k => by rw [pn.mem_iff, ← hm k]) ?_⟩
  · have q := k1 b u e
    have hlt := Heap.lt_size q
    show (sortedHeap (s1.heap.push (seqObj "list" vs.toArray 0)) s1.heap.objs.size vs out.toArray).get? b = some u
    rw [sortedHeap_old (Nat.ne_of_lt hlt) (by rw [size_push']; exact Nat.lt_succ_of_lt hlt)]
    exact Heap.get?_push_of_some _ q
  · rw [pn.length_eq, List.length_map, Array.length_toList]; exact hn
end
section
variable {X : Cx}
/-- sorted(found), a set of at most 1000 -/
def rSortedSetA (w : World) : List V → Hp → VK → Prop := fun vs H Q => ∃ (a : Addr) (S : Int → Bool) (n : Nat), vs = [V.ref a] ∧ H a = some (SetO w a S n) ∧ n ≤ 1000 ∧
  ∀ (ns : List Int) (p : Addr), ns.Pairwise (· < ·) → (∀ k : Int, k ∈ ns ↔ S k = true) → ns.length = n → H p = none → Q (.ref p) (upd H p (.lst (ns.map V.int)))
theorem cr_sortedSetA (hc : X.calm = true) : CallR X (.builtin "sorted") (rSortedSetA X.w) := by
  intro pins s σ H vs us Q I r h
  obtain ⟨a, S, n, rfl, ha, h64, q⟩ := h
  have R := setO_get I ha
  rw [Vals.ref1 r]
  refine sorted_setA R (I.ok.hd hc) h64 fun s' p out c ns k g o hp hg hi hs hm hl => ?_
  have hlen : (ns.map V.int).length ≤ sizeLine := by rw [List.length_map, hl, sizeLine_eq]; omega
  have hn : H p = none := I.hok.fresh hp
  have J : Inv X pins σ (upd H p (.lst (ns.map V.int))) { s with heap := s'.heap, gens := s'.gens, drawn := s'.drawn, toks := s'.toks } :=
    I.call (ch := []) (Un.laid k hp hn) (I.hok.laid k hp ⟨hlen, out.toList, c, vals_of_ints hi, hg⟩) (by rw [g]; exact I.bare) (fun _ z => nomatch z)
  have e : s' = { s with heap := s'.heap, gens := s'.gens, drawn := s'.drawn, toks := s'.toks } := by
    cases s'
    cases s
    cases o
    rfl
  rw [e]
  exact ⟨.ref p, _, J, rfl, q ns p hs hm hl hn⟩
end
end L2
set_option Elab.async false
set_option linter.all false
set_option maxRecDepth 100000
set_option maxHeartbeats 4000000
/-! == and != of two dicts whose keys are tuples. -/
namespace PySem.W
open Lean Elab Tactic Meta PySem PySem.Calls PyProof.Rows PyProof.V PySem.Spec
variable {prog : Program} {w : World} {A : Around} {E : Value → Shared → Prop} {s : Shared} {K : Type} [DecidableEq K] {knd : HeapKind prog w K}
/-- the entries of one, asked in the other -/
inductive HitsH (A : Around) (s : Shared) (kb : List (K × Addr × Value)) : List (K × Addr × Value) → Bool → Prop
  | nil : HitsH A s kb [] true
  | miss {k : K} {p : Addr × Value} {r : List (K × Addr × Value)} : atKey kb k = none → HitsH A s kb ((k, p) :: r) false
  | hit {k : K} {p q : Addr × Value} {r : List (K × Addr × Value)} {e b : Bool} : atKey kb k = some q → SeqAt.EqAt A s p.2 q.2 e → HitsH A s kb r b → HitsH A s kb ((k, p) :: r) (e && b)
theorem HitsH.inv {kb : List (K × Addr × Value)} {k : K} {p : Addr × Value} {r : List (K × Addr × Value)} {b : Bool} (h : HitsH A s kb ((k, p) :: r) b) :
    (atKey kb k = none ∧ b = false) ∨ ∃ q e b', atKey kb k = some q ∧ SeqAt.EqAt A s p.2 q.2 e ∧ HitsH A s kb r b' ∧ b = (e && b') := by
  cases h with
  | miss hn => exact .inl ⟨hn, rfl⟩
  | hit hy he hr => exact .inr ⟨_, _, _, hy, he, hr, rfl⟩
theorem samePairsH {nm : String} {a b : Addr} {ka kb : List (K × Addr × Value)} {r : Bool} {Q : Bool → Shared → Prop} (ha : (a == sysModules) = false) (hb : (b == sysModules) = false)
    (da : s.heap.DictOfH knd a ka) (db : s.heap.DictOfH knd b kb) (hu : knd.room A) (hits : ka.length = kb.length → HitsH A s kb ka r) (h : Q (ka.length == kb.length && r) s) :
    wpAny (model prog w) A (Builtin.Dict.samePairs nm a b) Q E s := by
  obtain ⟨oa, es, ep, hoa, _, hda, hea, hka, hna⟩ := da
  obtain ⟨ob, es', ep', hob, _, hdb, heb, hkb, hnb⟩ := db
  have hla : ka.length = es.size := (size_of_entries hea).symm
  have hlb : kb.length = es'.size := (size_of_entries heb).symm
  rw [hla, hlb] at h
  unfold Builtin.Dict.samePairs Builtin.Dict.showsAll
  rw [if_neg (show ¬ (a == sysModules) = true by rw [ha]; exact Bool.false_ne_true), if_neg (show ¬ (b == sysModules) = true by rw [hb]; exact Bool.false_ne_true)]
  refine wpAny_bind (wpAny_pure (wpAny_bind (wpAny_pure ?_)))
  refine wpAny_bind (wpAny_dictEntries hoa hda ?_)
  dsimp only
  refine wpAny_bind (wpAny_dictEntries hob hdb ?_)
  by_cases hsz : es.size = es'.size
  case neg =>
    rw [if_pos (by simpa using hsz)]
    have hbf : (es.size == es'.size) = false := by simpa using hsz
    rw [hbf, Bool.false_and] at h
    exact wpAny_bind (wpAny_rule (wpAny_pure h))
  case pos =>
    have h' : Q r s := by simpa [hsz] using h
    have hits' := hits (by rw [hla, hlb]; exact hsz)
    rw [if_neg (by rw [hsz]; simp)]
    refine wpAny_bind (wpAny_dictEpoch hoa hda ?_)
    refine wpAny_bind ?_
    rw [Std.Legacy.Range.forIn_eq_forIn_range']
    simp only [Std.Legacy.Range.size, Nat.sub_zero, Nat.add_sub_cancel, Nat.div_one]
    refine wpAny_forIn_list _
      (fun rest q s' => s' = s ∧ q = (none, ()) ∧ ∃ i, rest = List.range' i (es.size - i) ∧ i ≤ es.size ∧ HitsH A s kb (ka.drop i) r)
      _ ?_ ?_ _ _ ⟨rfl, rfl, 0, by simp, Nat.zero_le _, hits'⟩
    · rintro x rest q s' ⟨rfl, rfl, i, hr, hi, hpre⟩
      have hlt : i < es.size := by
        rcases Nat.lt_or_ge i es.size with h | h
        · exact h
        · rw [Nat.sub_eq_zero_of_le h] at hr; simp at hr
      obtain ⟨rfl, hrest⟩ : x = i ∧ rest = List.range' (i + 1) (es.size - (i + 1)) := by
        have e : es.size - i = (es.size - (i + 1)) + 1 := by omega
        rw [e, List.range'_succ] at hr
        injection hr with h1 h2
        exact ⟨h1, h2⟩
      refine wpAny_bind (wpAny_dictEntries hoa hda ?_)
      rw [Array.getElem?_eq_getElem hlt]
      have hlt' : x < ka.length := by rw [hla]; exact hlt
      obtain ⟨k, p, hkv⟩ : ∃ k p, ka[x] = (k, p) := ⟨_, _, rfl⟩
      have hdrop : ka.drop x = (k, p) :: ka.drop (x + 1) := by rw [← hkv]; exact List.drop_eq_getElem_cons hlt'
      have hent : es[x] = ⟨knd.hash k, .ref p.1, p.2⟩ := by
        have e1 := entry_at hea x
        rw [Array.getElem?_eq_getElem hlt, List.getElem?_eq_getElem hlt', hkv] at e1
        exact Option.some.inj e1
      have hkey : knd.is s'.heap k p.1 := hka (k, p) (by rw [← hkv]; exact List.getElem_mem hlt')
      rw [hdrop] at hpre
      show wpAny _ _ (holding [es[x].key, es[x].val] _ >>= _) _ _ _
      rw [hent]
      refine wpAny_bind (wpAny_holding (wpAny_bind (wpAny_dictFind_heap hu hkey hob hdb heb hkb hnb (fun hno => ?_) fun j q hj => ?_)))
      · have hn : atKey kb k = none := atKey_none_of_get hno
        rcases hpre.inv with ⟨_, er⟩ | ⟨y, _, _, hy, _⟩
        · rw [er] at h'
          refine wpAny_pure ?_
          show wpAny _ _ (if (!false) = true then _ else _) _ _ _
          rw [if_pos (by decide)]
          exact wpAny_pure (wpAny_pure h')
        · rw [hn] at hy; exact nomatch hy
      · have hv' : atKey kb k = some q := atKey_of_get hnb hj
        refine wpAny_bind (wpAny_dictEntries hob hdb ?_)
        rw [entry_at heb j, hj]
        rcases hpre.inv with ⟨hn, _⟩ | ⟨y, e, b', hy, he, hrr, er⟩
        · rw [hv'] at hn; exact nomatch hn
        · have ey : q = y := Option.some.inj (hv'.symm.trans hy)
          rw [← ey] at he
          refine wpAny_holding (he prog w _ _ ?_)
          cases e with
          | false =>
            rw [er, Bool.false_and] at h'
            show wpAny _ _ (if (!false) = true then _ else _) _ _ _
            rw [if_pos (by decide)]
            exact wpAny_pure (wpAny_pure h')
          | true =>
            rw [Bool.true_and] at er
            rw [← er] at hrr
            show wpAny _ _ (if (!true) = true then _ else _) _ _ _
            rw [if_neg (by decide)]
            refine wpAny_bind (wpAny_dictEpoch hoa hda ?_)
            rw [if_neg (by simp)]
            exact wpAny_pure ⟨rfl, rfl, x + 1, hrest, hlt, hrr⟩
    · rintro q s' ⟨rfl, rfl, i, hr, hi, hpre⟩
      have hin : i = es.size := by
        rcases Nat.lt_or_ge i es.size with h | h
        · have e : es.size - i = (es.size - (i + 1)) + 1 := by omega
          rw [e, List.range'_succ] at hr; exact nomatch hr
        · exact Nat.le_antisymm hi h
      refine wpAny_pure ?_
      rw [hin, ← hla, List.drop_length] at hpre
      cases hpre
      exact h'
end PySem.W
set_option Elab.async false
set_option linter.all false
set_option maxRecDepth 100000
set_option maxHeartbeats 4000000
/-! == and != of two dicts whose keys are tuples, their values data. -/
namespace PySem.W
open Lean Elab Tactic Meta PySem PySem.Calls PyProof.Rows PyProof.V PySem.Spec
section
variable {prog : Program} {w : World} {A : Around} {E : Value → Shared → Prop} {s : Shared} {K : Type} [DecidableEq K] {knd : HeapKind prog w K}
theorem keqH_eq {a b : Addr} {ka kb : List (K × Addr × Value)} {r : Bool} {Q : Value → Shared → Prop} (ha : (a == sysModules) = false) (hb : (b == sysModules) = false)
    (da : s.heap.DictOfH knd a ka) (db : s.heap.DictOfH knd b kb) (hu : A.units < cLine) (hr : knd.room A.in1) (hits : ka.length = kb.length → HitsH A.in1 s kb ka r) (h : Q (.bool (ka.length == kb.length && r)) s) :
    wpAny (model prog w) A (compareOp .Eq (.ref a) (.ref b)) Q E s := by
  refine wpAny_richCompare_same_room (op := .Eq) da.typeIs db.typeIs PySem.F.slot_dict_eq (wpAny_call_entry PySem.F.slot_dict_eq da.typeIs PySem.F.entry_dict_eq ?_ (PySem.F.args_dict_eq_2 _ _)) hu
  show wpAny _ _ (Builtin.Dict.dictSlotArgs "__eq__" ⟨[.ref a, .ref b], []⟩ >>= _) _ _ s
  refine wpAny_bind ?_
  unfold Builtin.Dict.dictSlotArgs
  refine wpAny_bind (wpAny_notOrdered_dict da.typeIs ?_)
  show wpAny _ _ (pure (Value.ref a, Value.ref b)) _ _ s
  refine wpAny_pure ?_
  refine wpAny_bind (wpAny_isInstance (T := "dict") db.typeIs PySem.F.sub_dict_dict ?_)
  simp only [Bool.not_true, Bool.false_eq_true, if_false]
  refine wpAny_bind (wpAny_pure (wpAny_bind (wpAny_pure ?_)))
  refine wpAny_bind (samePairsH ha hb da db hr hits ?_)
  refine wpAny_pure ⟨_, rfl, ?_, ?_⟩
  · exact fun x => nomatch x
  · simpa using h
theorem keqH_ne {a b : Addr} {ka kb : List (K × Addr × Value)} {r : Bool} {Q : Value → Shared → Prop} (ha : (a == sysModules) = false) (hb : (b == sysModules) = false)
    (da : s.heap.DictOfH knd a ka) (db : s.heap.DictOfH knd b kb) (hu : A.units < cLine) (hr : knd.room A.in1) (hits : ka.length = kb.length → HitsH A.in1 s kb ka r) (h : Q (.bool (!(ka.length == kb.length && r))) s) :
    wpAny (model prog w) A (compareOp .NotEq (.ref a) (.ref b)) Q E s := by
  refine wpAny_richCompare_same_room (op := .NotEq) da.typeIs db.typeIs PySem.F.slot_dict_ne (wpAny_call_entry PySem.F.slot_dict_ne da.typeIs PySem.F.entry_dict_ne ?_ (PySem.F.args_dict_ne_2 _ _)) hu
  show wpAny _ _ (Builtin.Dict.dictSlotArgs "__ne__" ⟨[.ref a, .ref b], []⟩ >>= _) _ _ s
  refine wpAny_bind ?_
  unfold Builtin.Dict.dictSlotArgs
  refine wpAny_bind (wpAny_notOrdered_dict da.typeIs ?_)
  show wpAny _ _ (pure (Value.ref a, Value.ref b)) _ _ s
  refine wpAny_pure ?_
  refine wpAny_bind (wpAny_isInstance (T := "dict") db.typeIs PySem.F.sub_dict_dict ?_)
  simp only [Bool.not_true, Bool.false_eq_true, if_false]
  refine wpAny_bind (wpAny_pure (wpAny_bind (wpAny_pure ?_)))
  refine wpAny_bind (samePairsH ha hb da db hr hits ?_)
  refine wpAny_pure ⟨_, rfl, ?_, ?_⟩
  · exact fun x => nomatch x
  · simpa using h
end
end PySem.W
namespace Q
open PySem PySem.Spec PyProof.Rows L2
/-- the data of a dict's values, by its keys -/
def RowsD (K : PySem.W.Frag) (H : Hp) (kvs : List (List Key × V)) (Ds : List (List Key × PyData)) : Prop := Paired (fun (p : List Key × V) (q : List Key × PyData) => p.1 = q.1 ∧ Dp K H p.2 q.2 ∧ SeqAt.shaped q.2 = true) kvs Ds
def lookE (Es : List (List Key × PyData)) (k : List Key) : Option PyData := (Es.find? fun x => decide (x.1 = k)).map (·.2)
/-- two such dicts are equal -/
def rowsEq (Ds Es : List (List Key × PyData)) : Bool := Ds.length == Es.length && Ds.all fun p => match lookE Es p.1 with
  | some e => PyData.eqv p.2 e
  | none => false
section
variable {X : Cx} {pins : List (Addr × Obj)} {σ : L2.St} {H : Hp} {s : Shared}
theorem rows_len {K : PySem.W.Frag} {kvs : List (List Key × V)} {Ds : List (List Key × PyData)} (h : RowsD K H kvs Ds) : kvs.length = Ds.length := Paired.length h
theorem rows_at {K : PySem.W.Frag} {k : List Key} : ∀ {kvs : List (List Key × V)} {Ds : List (List Key × PyData)} {xs : List (List Key × Addr × Value)}, RowsD K H kvs Ds →
    Paired (fun (p : List Key × V) (q : List Key × Addr × Value) => p.1 = q.1 ∧ H q.2.1 = some (.tup (p.1.map kV)) ∧ RelV p.2 q.2.2) kvs xs →
    (atKey xs k = none ∧ lookE Ds k = none) ∨ ∃ q e v, atKey xs k = some q ∧ lookE Ds k = some e ∧ Dp K H v e ∧ RelV v q.2 ∧ SeqAt.shaped e = true
  | _, _, _, .nil, .nil => .inl ⟨rfl, rfl⟩
  | _ :: _, _ :: _, _ :: _, .cons (a := p) (b := d) h t, .cons (b := x) h2 t2 => by
    obtain ⟨k1, hd, sh⟩ := h
    obtain ⟨k2, _, rv⟩ := h2
    unfold atKey lookE
    rw [List.find?_cons, List.find?_cons]
    by_cases e : p.1 = k
    · refine .inr ⟨x.2, d.2, p.2, ?_, ?_, hd, rv, sh⟩
      · rw [show decide (x.1 = k) = true from decide_eq_true (by rw [← k2, e])]
        rfl
      · rw [show decide (d.1 = k) = true from decide_eq_true (by rw [← k1, e])]
        rfl
    · rw [show decide (x.1 = k) = false from decide_eq_false (by rw [← k2]; exact e), show decide (d.1 = k) = false from decide_eq_false (by rw [← k1]; exact e)]
      exact rows_at t t2
theorem rows_hits (I : Inv X pins σ H s) {A : Around} (hu : A.in1.units + 64 < cLine) {ls : List (List Key × V)} {Es : List (List Key × PyData)} {ys : List (List Key × Addr × Value)} (hE : RowsD X.K H ls Es)
    (hy : Paired (fun (p : List Key × V) (q : List Key × Addr × Value) => p.1 = q.1 ∧ H q.2.1 = some (.tup (p.1.map kV)) ∧ RelV p.2 q.2.2) ls ys) :
    ∀ {kvs : List (List Key × V)} {Ds : List (List Key × PyData)} {xs : List (List Key × Addr × Value)}, RowsD X.K H kvs Ds →
    Paired (fun (p : List Key × V) (q : List Key × Addr × Value) => p.1 = q.1 ∧ H q.2.1 = some (.tup (p.1.map kV)) ∧ RelV p.2 q.2.2) kvs xs →
    PySem.W.HitsH A.in1 s ys xs (Ds.all fun p => match lookE Es p.1 with
      | some e => PyData.eqv p.2 e
      | none => false)
  | _, _, _, .nil, .nil => .nil
  | _ :: _, _ :: _, (kx, px) :: _, .cons (a := p) (b := d) h t, .cons h2 t2 => by
    obtain ⟨k1, hd, sh⟩ := h
    obtain ⟨k2, _, rv⟩ := h2
    have ih := rows_hits I hu hE hy t t2
    rw [List.all_cons]
    have kk : kx = d.1 := k2.symm.trans k1
    subst kk
    rcases rows_at (k := d.1) hE hy with ⟨n1, n2⟩ | ⟨q, e, v, a1, a2, hv, rq, she⟩
    · rw [n2, Bool.false_and]
      exact .miss n1
    · rw [a2]
      obtain ⟨as, r1⟩ := Dp.reads I d.2 p.2 px.2 hd rv
      obtain ⟨bs, r2⟩ := Dp.reads I e v q.2 hv rq
      exact .hit a1 (PySem.W.keq_at r1 r2 sh she hu) ih
end
section
variable {X : Cx}
def rEqRows (K : PySem.W.Frag) (ne : Bool) : R2 := fun x y H Q => ∃ a b ks ls Ds Es, x = .ref a ∧ y = .ref b ∧ H a = some (.dT ks) ∧ H b = some (.dT ls) ∧ RowsD K H ks Ds ∧ RowsD K H ls Es ∧ Q (.bl (if ne then !rowsEq Ds Es else rowsEq Ds Es)) H
theorem op_eqRows (hu : X.A.units + 66 < cLine) : OpR X (compareOp .Eq) (rEqRows X.K false) := by
  intro pins s σ H x y v u Q I rx ry h
  obtain ⟨a, b, ks, ls, Ds, Es, rfl, rfl, ha, hb, hD, hE, q⟩ := h
  obtain rfl : v = Value.ref a := rx
  obtain rfl : u = Value.ref b := ry
  obtain ⟨_, ya, xs, pa, da⟩ := dt_of I.hok ha
  obtain ⟨_, yb, ys, pb, db⟩ := dt_of I.hok hb
  have la : xs.length = Ds.length := by rw [← rows_len hD]; exact (Paired.length pa).symm
  have lb : ys.length = Es.length := by rw [← rows_len hE]; exact (Paired.length pb).symm
  refine PySem.W.keqH_eq ya yb da db (by omega) (tupleKind_room_in1 (by omega)) (fun _ => rows_hits I (by show X.A.in1.units + 64 < cLine; simp only [Around.in1]; omega) hE pb hD pa) ?_
  rw [la, lb]
  exact ⟨.bl _, H, I, rfl, q⟩
theorem op_neRows (hu : X.A.units + 66 < cLine) : OpR X (compareOp .NotEq) (rEqRows X.K true) := by
  intro pins s σ H x y v u Q I rx ry h
  obtain ⟨a, b, ks, ls, Ds, Es, rfl, rfl, ha, hb, hD, hE, q⟩ := h
  obtain rfl : v = Value.ref a := rx
  obtain rfl : u = Value.ref b := ry
  obtain ⟨_, ya, xs, pa, da⟩ := dt_of I.hok ha
  obtain ⟨_, yb, ys, pb, db⟩ := dt_of I.hok hb
  have la : xs.length = Ds.length := by rw [← rows_len hD]; exact (Paired.length pa).symm
  have lb : ys.length = Es.length := by rw [← rows_len hE]; exact (Paired.length pb).symm
  refine PySem.W.keqH_ne ya yb da db (by omega) (tupleKind_room_in1 (by omega)) (fun _ => rows_hits I (by show X.A.in1.units + 64 < cLine; simp only [Around.in1]; omega) hE pb hD pa) ?_
  rw [la, lb]
  exact ⟨.bl _, H, I, rfl, q⟩
end
end Q
set_option Elab.async false
set_option linter.all false
set_option maxRecDepth 100000
set_option maxHeartbeats 4000000
/-! max(xs, default=d) of whole numbers. -/
namespace Q
open PySem PySem.Spec PyProof.Rows L2
section
variable {P : Program} {w : World} {A : Around} {E : Value → Shared → Prop} {s : Shared}
theorem max_dflt {l : Addr} {its : List Value} {ns : List Int} {d : Value} {Q : Value → Shared → Prop} (hh : A.handled = none) (hl : s.heap.IsList l its.toArray) (hi : IntsAre its ns)
    (h0 : ns = [] → ∀ h' tk, (∀ b o, s.heap.get? b = some o → h'.get? b = some o) → Q d { s with heap := h', toks := tk })
    (h1 : ∀ h' tk M t', (∀ b o, s.heap.get? b = some o → h'.get? b = some o) → M ∈ ns → (∀ a, a ∈ ns → a ≤ M) → Q (.int M t') { s with heap := h', toks := tk }) :
    wpAny (model P w) A (call (.builtin "max") [.ref l] [(Str.ofString "default", d)]) Q E s := by
  obtain ⟨xs, e⟩ := hi.allInts.items
  have hn : numsOf (intItems xs).toList = ns := by rw [← e]; exact hi.numsOf
  rw [nums_intItems] at hn
  subst hn
  rw [e] at hl
  have back : ∀ (s2 : Shared) (h0 : Heap), s2 = { s with heap := h0 } → ∀ s' : Shared, s'.gens = s2.gens → s'.drawn = s2.drawn → s'.os = s2.os → s' = { s with heap := s'.heap, toks := s'.toks } := fun s2 h0 e s' g dr o => by
    subst e
    cases s'
    cases s
    cases g
    cases dr
    cases o
    rfl
  refine call_max_walkD (iter_intList hl fun s₂ e st hfp hlI => ?_)
  refine ⟨_, _, _, _, _, _, _, ({} : Heap), fun i j => decide (numAt xs i > numAt xs j), rfl, (Walks.list (A := A.in1) hh _ l hlI (intItems xs)).toS, ?_, hfp, fun b o z => ?_, fun b o z => ?_, fun z s' mv => ?_, fun z => ⟨fun i j vi vj s3 Q3 E3 _ hi hj hq => ?_, fun v s' hP mv => ?_⟩⟩
  · exact st
  · exact absurd z (by simp [Heap.get?])
  · exact absurd z (by simp [Heap.get?])
  · have hz : xs.size = 0 := by simpa [intItems] using z
    rw [back s₂ _ e s' mv.gens mv.drawn mv.os]
    refine h0 (List.eq_nil_of_length_eq_zero (by simpa using hz)) _ _ ?_
    subst e
    exact old_kept fun b o nb q => mv.heap b o nb q
  · exact (CmpOf.ints_gt (numAt xs) (fun _ _ => intItems_at)) i j vi vj s3 Q3 E3 hi hj hq
  · have hsz : 0 < xs.size := by simpa [intItems] using z
    have hP : (intItems xs)[argBest (fun i j => decide (numAt xs i > numAt xs j)) (xs.size - 1)]? = some v := by simpa [intItems] using hP
    obtain ⟨t, rfl⟩ := intItems_at hP
    obtain ⟨g1, g2⟩ := argBest_gt (numAt xs) (xs.size - 1)
    rw [back s₂ _ e s' mv.gens mv.drawn mv.os]
    refine h1 _ _ _ t ?_ ?_ fun a ha => ?_
    · subst e
      exact old_kept fun b o nb q => mv.heap b o nb q
    · rw [numAt_eq]; exact PySem.getD_mem (by rw [List.length_map, Array.length_toList]; omega)
    · obtain ⟨j, hj, rfl⟩ := mem_getD ha
      rw [List.length_map, Array.length_toList] at hj
      rw [← numAt_eq]; exact g2 j (by omega)
end
def rMaxD (K : PySem.W.Frag) : List V → List V → Hp → VK → Prop := fun vs zs H Q => ∃ (a : Addr) (ns : List Int) (d : V), vs = [V.ref a] ∧ zs = [d] ∧ SqL K H a (ns.map V.int) ∧ (ns = [] → Q d H) ∧ (∀ m, m ∈ ns → (∀ y, y ∈ ns → y ≤ m) → Q (.int m) H)
theorem cr_maxD {X : Cx} (hc : X.calm = true) : CallRK X (.builtin "max") [Str.ofString "default"] (rMaxD X.K) := by
  intro pins s σ H vs zs us ws Q I r rz h
  obtain ⟨a, ns, d, rfl, rfl, hs, q0, q1⟩ := h
  obtain ⟨its, rv, hl, _⟩ := I.list hs
  rw [Vals.ref1 r]
  obtain ⟨w1, rfl, e1⟩ := vals1 rz
  refine max_dflt (I.ok.hd hc) hl.isList rv.ints (fun e h' tk hk => ?_) fun h' tk m t' hk h1 h2 => ⟨.int _, H, I.kept hk, ⟨_, rfl⟩, q1 m h1 h2⟩
  exact ⟨d, H, I.kept hk, e1, q0 e⟩
end Q
set_option Elab.async false
set_option linter.all false
set_option maxRecDepth 100000
set_option maxHeartbeats 4000000
/-! != of two dicts of dicts: the keys ints and texts, the inner values data. -/
namespace PySem.W
open Lean Elab Tactic Meta PySem PySem.Calls PyProof.Rows PyProof.V PySem.Spec
open PySem.SeqAt (EqIn)
section
variable {prog : Program} {w : World} {K : Type} [DecidableEq K] {knd : KeyKind prog w K} {A : Around} {E : Value → Shared → Prop} {s : Shared}
theorem keq_neIn {a b : Addr} {ka kb : List (K × Value)} {r : Bool} {Q : Value → Shared → Prop} (ha : (a == sysModules) = false) (hb : (b == sysModules) = false)
    (da : s.heap.DictOf knd a ka) (db : s.heap.DictOf knd b kb) (hu : A.units < cLine) (hits : ka.length = kb.length → KeqHitsIn prog w A.in1 s kb ka r) (h : Q (.bool (!(ka.length == kb.length && r))) s) :
    wpAny (model prog w) A (compareOp .NotEq (.ref a) (.ref b)) Q E s := by
  refine wpAny_richCompare_same_room (op := .NotEq) da.typeIs db.typeIs PySem.F.slot_dict_ne (wpAny_call_entry PySem.F.slot_dict_ne da.typeIs PySem.F.entry_dict_ne ?_ (PySem.F.args_dict_ne_2 _ _)) hu
  show wpAny _ _ (Builtin.Dict.dictSlotArgs "__ne__" ⟨[.ref a, .ref b], []⟩ >>= _) _ _ s
  refine wpAny_bind ?_
  unfold Builtin.Dict.dictSlotArgs
  refine wpAny_bind (wpAny_notOrdered_dict da.typeIs ?_)
  show wpAny _ _ (pure (Value.ref a, Value.ref b)) _ _ s
  refine wpAny_pure ?_
  refine wpAny_bind (wpAny_isInstance (T := "dict") db.typeIs PySem.F.sub_dict_dict ?_)
  simp only [Bool.not_true, Bool.false_eq_true, if_false]
  refine wpAny_bind (wpAny_pure (wpAny_bind (wpAny_pure ?_)))
  refine wpAny_bind (keq_samePairsIn ha hb da db hits ?_)
  refine wpAny_pure ⟨_, rfl, ?_, ?_⟩
  · exact fun x => nomatch x
  · simpa using h
end
end PySem.W
namespace Q
open PySem PySem.Spec PyProof.Rows L2
def lookG {α : Type} (Es : List (Key × α)) (k : Key) : Option α := (Es.find? fun x => decide (x.1 = k)).map (·.2)
/-- two dicts are equal, eq for their values -/
def eqG {α : Type} (eq : α → α → Bool) (Ds Es : List (Key × α)) : Bool := Ds.length == Es.length && Ds.all fun p => match lookG Es p.1 with
  | some e => eq p.2 e
  | none => false
/-- the values of a dict, by its keys -/
def KeyedG {α : Type} (R : V → α → Prop) : List (Key × V) → List (Key × α) → Prop := Paired fun p q => p.1 = q.1 ∧ R p.2 q.2
section
variable {prog : Program} {w : World} {A : Around} {s : Shared}
theorem look_of {α : Type} {R : V → α → Prop} {k : Key} : ∀ {kvs : List (Key × V)} {Ds : List (Key × α)} {xs : List (Key × Value)}, KeyedG R kvs Ds → KV kvs xs →
    (valueAt xs k = none ∧ lookG Ds k = none) ∨ ∃ u e v, valueAt xs k = some u ∧ lookG Ds k = some e ∧ R v e ∧ RelV v u
  | _, _, _, .nil, .nil => .inl ⟨rfl, rfl⟩
  | _ :: _, _ :: _, _ :: _, .cons (a := p) (b := d) h t, .cons (b := x) h2 t2 => by
    obtain ⟨k1, hd⟩ := h
    obtain ⟨k2, rv⟩ := h2
    unfold valueAt lookG
    rw [List.find?_cons, List.find?_cons]
    by_cases e : p.1 = k
    · refine .inr ⟨x.2, d.2, p.2, ?_, ?_, hd, rv⟩
      · rw [show decide (x.1 = k) = true from decide_eq_true (by rw [← k2, e])]
        rfl
      · rw [show decide (d.1 = k) = true from decide_eq_true (by rw [← k1, e])]
        rfl
    · rw [show decide (x.1 = k) = false from decide_eq_false (by rw [← k2]; exact e), show decide (d.1 = k) = false from decide_eq_false (by rw [← k1]; exact e)]
      exact look_of t t2
theorem hits_of {α : Type} {R1 R2 : V → α → Prop} {eq : α → α → Bool} (he : ∀ v y d e u z, R1 v d → R2 y e → RelV v u → RelV y z → SeqAt.EqIn prog w A s u z (eq d e))
    {ls : List (Key × V)} {Es : List (Key × α)} {ys : List (Key × Value)} (hE : KeyedG R2 ls Es) (hy : KV ls ys) :
    ∀ {kvs : List (Key × V)} {Ds : List (Key × α)} {xs : List (Key × Value)}, KeyedG R1 kvs Ds → KV kvs xs → PySem.W.KeqHitsIn prog w A s ys xs (Ds.all fun p => match lookG Es p.1 with
      | some e => eq p.2 e
      | none => false)
  | _, _, _, .nil, .nil => .nil
  | _ :: _, _ :: _, (kx, px) :: _, .cons (a := p) (b := d) h t, .cons h2 t2 => by
    obtain ⟨k1, hd⟩ := h
    obtain ⟨k2, rv⟩ := h2
    have ih := hits_of he hE hy t t2
    rw [List.all_cons]
    have kk : kx = d.1 := k2.symm.trans k1
    subst kk
    rcases look_of (k := d.1) hE hy with ⟨n1, n2⟩ | ⟨u, e, v, a1, a2, hv, rq⟩
    · rw [n2, Bool.false_and]
      exact .miss n1
    · rw [a2]
      exact .hit a1 (he _ _ _ _ _ _ hd hv rv rq) ih
theorem len_of {α : Type} {R : V → α → Prop} {kvs : List (Key × V)} {Ds : List (Key × α)} {xs : List (Key × Value)} (h : KeyedG R kvs Ds) (r : KV kvs xs) : xs.length = Ds.length :=
  (Paired.length r).symm.trans (Paired.length h)
end
/-- a datum as a value of a dict; a dict of data as one, S what else is known of its address and its data -/
def RowD (K : PySem.W.Frag) (H : Hp) (v : V) (d : PyData) : Prop := Dp K H v d ∧ SeqAt.shaped d = true
def TabD (K : PySem.W.Frag) (H : Hp) (S : Addr → List (Key × PyData) → Prop) (v : V) (Ds : List (Key × PyData)) : Prop := ∃ c rows, v = .ref c ∧ S c Ds ∧ H c = some (.dK rows) ∧ KeyedG (RowD K H) rows Ds
section
variable {X : Cx} {pins : List (Addr × Obj)} {σ : L2.St} {H : Hp} {s : Shared}
theorem row_eq (I : Inv X pins σ H s) {prog : Program} {w : World} {A : Around} (hu : A.in1.units + 64 < cLine) (v y : V) (d e : PyData) (u z : Value) (h1 : RowD X.K H v d) (h2 : RowD X.K H y e) (r1 : RelV v u) (r2 : RelV y z) :
    SeqAt.EqIn prog w A.in1 s u z (PyData.eqv d e) := by
  obtain ⟨as, q1⟩ := Dp.reads I d v u h1.1 r1
  obtain ⟨bs, q2⟩ := Dp.reads I e y z h2.1 r2
  exact (PySem.W.keq_at q1 q2 h1.2 h2.2 hu).inModel prog w
def rNeTabs (K : PySem.W.Frag) : R2 := fun x y H Q => ∃ a b ks ls Ts Us S1 S2, x = .ref a ∧ y = .ref b ∧ H a = some (.dK ks) ∧ H b = some (.dK ls) ∧ KeyedG (TabD K H S1) ks Ts ∧ KeyedG (TabD K H S2) ls Us ∧
  (∀ c Ds Es, S1 c Ds → S2 c Es → eqG PyData.eqv Ds Es = true) ∧ Q (.bl (!eqG (eqG PyData.eqv) Ts Us)) H
theorem op_neTabs (hu : X.A.units + 67 < cLine) : OpR X (compareOp .NotEq) (rNeTabs X.K) := by
  intro pins s σ H x y v u Q I rx ry h
  obtain ⟨a, b, ks, ls, Ts, Us, S1, S2, rfl, rfl, ha, hb, hT, hU, hS, q⟩ := h
  obtain rfl : v = Value.ref a := rx
  obtain rfl : u = Value.ref b := ry
  obtain ⟨_, ya, xs, pa, da⟩ := dk_of I.hok ha
  obtain ⟨_, yb, ys, pb, db⟩ := dk_of I.hok hb
  refine PySem.W.keq_neIn ya yb da db (by omega) (fun _ => hits_of (eq := eqG PyData.eqv) (fun v y d e u z h1 h2 r1 r2 => ?_) hU pb hT pa) ?_
  · obtain ⟨c, rows, rfl, s1, hc, kc⟩ := h1
    obtain ⟨c', rows', rfl, s2, hc', kc'⟩ := h2
    obtain rfl : u = Value.ref c := r1
    obtain rfl : z = Value.ref c' := r2
    obtain ⟨_, yc, vs, pc, dc⟩ := dk_of I.hok hc
    obtain ⟨_, yc', vs', pc', dc'⟩ := dk_of I.hok hc'
    by_cases same : c = c'
    · subst same
      rw [hS _ _ _ s1 s2]
      exact (SeqAt.EqAt.same _).inModel _ _
    refine SeqAt.EqIn.of_refs same fun E Q hq => ?_
    refine PySem.W.keq_eqIn yc yc' dc dc' (by simp only [Around.in1]; omega) (fun _ => hits_of (fun v y d e u z h1 h2 r1 r2 => row_eq I (by simp only [Around.in1]; omega) v y d e u z h1 h2 r1 r2) kc' pc' kc pc) ?_
    rw [len_of kc pc, len_of kc' pc']
    exact hq
  · rw [len_of hT pa, len_of hU pb]
    exact ⟨.bl _, H, I, rfl, q⟩
end
end Q
set_option Elab.async false
set_option linter.all false
set_option maxRecDepth 100000
set_option maxHeartbeats 4000000
/-! dicts of the same keys compared: all values equal -/
namespace Q
open PySem PySem.Spec PyProof.Rows L2
theorem lookG_map {α : Type} (G : Str → α) {z : Str} : ∀ {zs : List Str}, z ∈ zs → lookG (zs.map fun y => ((.inr y : Key), G y)) (.inr z) = some (G z)
  | y :: zs, h => by
    unfold lookG
    rw [List.map_cons, List.find?_cons]
    by_cases e : y = z
    · subst e
      rw [show decide (((.inr y : Key), G y).1 = (.inr y : Key)) = true from decide_eq_true rfl]
      rfl
    · rw [show decide (((.inr y : Key), G y).1 = (.inr z : Key)) = false from decide_eq_false fun q => e (Sum.inr.inj q)]
      exact lookG_map G (by
        rcases List.mem_cons.mp h with q | q
        · exact absurd q.symm e
        · exact q)
theorem eqG_map {α : Type} (eq : α → α → Bool) (F G : Str → α) (zs : List Str) : eqG eq (zs.map fun z => ((.inr z : Key), F z)) (zs.map fun z => ((.inr z : Key), G z)) = true ↔ ∀ z ∈ zs, eq (F z) (G z) = true := by
  unfold eqG
  rw [List.length_map, List.length_map, Bool.and_eq_true, List.all_eq_true]
  refine ⟨fun ⟨_, h⟩ z hz => ?_, fun h => ⟨beq_self_eq_true _, fun p hp => ?_⟩⟩
  · have := h _ (List.mem_map.mpr ⟨z, hz, rfl⟩)
    rw [lookG_map G hz] at this
    exact this
  · obtain ⟨z, hz, rfl⟩ := List.mem_map.mp hp
    rw [lookG_map G hz]
    exact h z hz
/-- what holds of all entries, their keys zs, told by one function of the key -/
theorem keyed_map {α : Type} [Inhabited α] {R : V → α → Prop} : ∀ (rs : List (Str × Addr)), (rs.map (·.1)).Nodup → (∀ q ∈ rs, ∃ d, R (.ref q.2) d) → ∃ F : Str → α, KeyedG R (rs.map fun q => ((.inr q.1 : Key), V.ref q.2)) ((rs.map (·.1)).map fun z => ((.inr z : Key), F z))
  | [], _, _ => ⟨fun _ => default, .nil⟩
  | q :: rs, nd, h => by
    rw [List.map_cons, List.nodup_cons] at nd
    obtain ⟨F, hF⟩ := keyed_map rs nd.2 fun p hp => h p (List.mem_cons_of_mem _ hp)
    obtain ⟨d, hd⟩ := h q List.mem_cons_self
    refine ⟨fun z => if z = q.1 then d else F z, ?_⟩
    rw [List.map_cons, List.map_cons, List.map_cons]
    refine .cons ⟨rfl, by show R _ (if q.1 = q.1 then d else F q.1); rw [if_pos rfl]; exact hd⟩ ?_
    rw [show ((rs.map (·.1)).map fun z => ((.inr z : Key), if z = q.1 then d else F z)) = (rs.map (·.1)).map fun z => ((.inr z : Key), F z) from List.map_congr_left fun z hz => by
      rw [if_neg fun (e : z = q.1) => nd.1 (e ▸ hz)]]
    exact hF
end Q
set_option Elab.async false
set_option linter.all false
set_option maxRecDepth 100000
set_option maxHeartbeats 4000000
/-! A comprehension of two clauses whose element is a call that may raise: the exception leaves the block and the def. -/
namespace L2
open PySem PySem.Spec PyProof.Rows
/-- what the block's element may let out -/
def XF (Xb : Cx) (E : XK) (u : Value) (t : Shared) : Prop := ∃ (pins : List (Addr × Obj)) (σ : St) (H : Hp) (s : Shared), Inv Xb pins σ H s ∧ CX Xb.prog Xb.w Xb.stack H s E u t
/-- the block's context, its element's exceptions those of E -/
abbrev Cx.blkE (X : Cx) (E : XK) (s : Shared) (H : Hp) (scope : Scope) (ce : Env) (fp : List Addr) : Cx := { X.blk s H scope ce fp with xe := XF (X.blk s H scope ce fp) E }
theorem Inv.withXe {X : Cx} {pins : List (Addr × Obj)} {σ : St} {H : Hp} {s : Shared} (I : Inv X pins σ H s) (xe : Value → Shared → Prop) : Inv { X with xe := xe } pins σ H s :=
  ⟨⟨I.ok.mod, I.ok.kind, I.ok.glob, I.ok.blt, I.ok.above, I.ok.inj, I.ok.has, I.ok.cab, I.ok.hd, I.ok.frames, I.ok.stk, I.ok.exf, I.ok.bs, I.ok.bsz, I.ok.noex, I.ok.exfs, I.ok.funs, I.ok.frf⟩,
    I.os, I.bare, I.base, I.loc, I.cell, I.free, I.freeC, I.pin, I.hok, I.len⟩
theorem passE {X : Cx} {E : XK} {s : Shared} {H : Hp} {scope : Scope} {ce : Env} {fp : List Addr} : Passes (L2.CX X.prog X.w) (X.blkE E s H scope ce fp) E := fun pins σ H' t u t' I c => ⟨pins, σ, H', t, I.withXe _, c⟩
/-- an exception that the frame of X holds, the block's names at C -/
def ErrC (X : Cx) (pins : List (Addr × Obj)) (σ : St) (C : Addr) (E : XK) (u : Value) (t : Shared) : Prop :=
  ∃ (a : Addr) (G : Heap) (sI : Shared) (H : Hp) (cls : Value) (d : Option Addr) (m : Str → Option Value),
    u = .ref a ∧ Inv X pins σ H sI ∧ sI.heap.get? C = none ∧ G.get? C = none ∧ (∀ b o, sI.heap.get? b = some o → b ∉ frs X.stack → G.get? b = some o) ∧ sI.heap.UpToSlots t.heap ∧
      HandSPX.HeldZ G X.stack a (Zc cls d) X.env.locals t.heap ∧ H a = none ∧ t.os = sI.os ∧ AllBare t.gens ∧ t.heap.Ns C m ∧ E cls d H
section
variable {X : Cx} {pins : List (Addr × Obj)} {σ : St} {H : Hp} {s t : Shared} {C : Addr} {E : XK} {u : Value} {ce : Env} {m : Str → Option Value} {E₁ : Value → Shared → Prop} {M : Model}
theorem err_call (I : Inv X pins σ H s) (fC : FpOk X pins H C) (hC : s.heap.Ns C m) (hs : X.stack = X.env :: X.outer) (hf : X.env.frame = some X.env.locals) (hcf : ce.frame = X.env.frame) (c : CX X.prog X.w X.stack H s E u t) :
    wpAny M X.A (noteFrame u ce) (fun _ t' => ErrC X pins σ C E u t') E₁ t := by
  obtain ⟨a, B, H', cls, d, rfl, fl, hok, ub, na, os, ag, hE⟩ := c
  obtain ⟨oC, es, ep, hoC, hdC, rC⟩ := hC
  have Cst : C ∉ frs X.stack := fun q => (List.mem_cons.mp (I.stkSub C q)).elim fC.2.1 fC.2.2.1
  have nC : H' C = none := ub.free C oC hoC fC.1
  have tC : t.heap.get? C = some oC := fl.1 C oC (ub.keep C oC hoC fC.1 Cst)
  -- the ground without C
  have h1 : ∀ b o, (PySem.W.hideAll B [C]).get? b = some o → B.get? b = some o := fun b o q => PySem.W.of_hideAll [C] q
  have h2 : ∀ b o, b ≠ C → B.get? b = some o → (PySem.W.hideAll B [C]).get? b = some o := fun b o ne q => PySem.W.hideAll_get [C] q fun z => ne (List.mem_singleton.mp z)
  have h3 : ∀ b, B.get? b = none → (PySem.W.hideAll B [C]).get? b = none := fun b n => by
    cases q : (PySem.W.hideAll B [C]).get? b with
    | none => rfl
    | some o =>
      rw [h1 b o q] at n
      cases n
  have h4 : (PySem.W.hideAll B [C]).get? C = none := PySem.W.hideAll_none [C] List.mem_cons_self
  generalize PySem.W.hideAll B [C] = G at h1 h2 h3 h4
  obtain ⟨g1, g2, g3, g4⟩ := fl
  have fl' : HandSPX.FlyingZ G X.stack a (Zc cls d) t.heap := by
    obtain ⟨oe, vs, T, oT, ts, k1, k2, k3, k4, k5, k6⟩ := g4
    exact ⟨fun b o q => g1 b o (h1 b o q), h3 a g2, funFrames_none g3 fun b hb => h3 b (g3.mem hb).1, oe, vs, T, oT, ts, k1, k2, k3, k4, h3 T k5, k6⟩
  -- the state without the exception and without C
  obtain ⟨F, f1, f2⟩ := restrict t.heap fun b => (((B.get? b).isSome || decide (b ∈ frs X.stack)) && decide (b ≠ C))
  have FB : ∀ b o, b ≠ C → B.get? b = some o → F.get? b = some o := fun b o ne q => by
    rw [f1 b (by simp [q, ne])]
    exact g1 b o q
  have FS : ∀ b, b ∈ frs X.stack → F.get? b = t.heap.get? b := fun b hb => f1 b (by
    have : b ≠ C := fun z => Cst (z ▸ hb)
    simp [hb, this])
  have FC : F.get? C = none := f2 C (by simp)
  have Fo : ∀ b o, F.get? b = some o → t.heap.get? b = some o ∧ ((B.get? b).isSome = true ∨ b ∈ frs X.stack) ∧ b ≠ C := fun b o q => by
    cases z : (((B.get? b).isSome || decide (b ∈ frs X.stack)) && decide (b ≠ C)) with
    | false =>
      rw [f2 b z] at q
      cases q
    | true =>
      rw [f1 b z] at q
      refine ⟨q, ?_⟩
      simpa [Bool.or_eq_true, Bool.and_eq_true] using z
  have J : Inv X pins σ H' { s with heap := F, gens := t.gens, drawn := t.drawn, toks := t.toks } := by
    refine I.call (ch := [C]) ⟨fun b o q n hb hc => FB b o (fun z => hc (by simp [z])) (ub.keep b o q n hb), fun b o q n hb hc => ?_, fun b o q n _ => ub.free b o q n, fun b o q hc => ?_, ub.tups, ub.frzs, ub.tbls⟩ (fun b u e => ?_) ag (fun b hb => ?_)
    · obtain ⟨sl, z⟩ := ub.slot b o q hb
      exact ⟨sl, by rw [FS b hb]; exact z⟩
    · by_cases hb : b ∈ frs X.stack
      · obtain ⟨sl, z⟩ := ub.slot b o q hb
        exact ⟨_, by rw [FS b hb]; exact z⟩
      · obtain ⟨o', z⟩ := ub.there b o q hb
        exact ⟨o', FB b o' (fun y => hc (by simp [y])) z⟩
    · refine (hok b u e).stay (fun c v hc q => FB c v (fun z => ?_) q) (fun _ q => q) fun _ _ q => q
      rcases hc with y | y
      · rw [← y, z, nC] at e
        cases e
      · rw [z, nC] at y
        cases y
    · rw [List.mem_singleton.mp hb]
      exact ⟨fC.2.2.2.1, fC.2.1, fC.2.2.2.2.1, fC.2.2.2.2.2⟩
  rw [noteFrame_env _ hcf]
  have hfr : X.A.frames = some (X.env :: X.outer) := by rw [I.ok.frames, hs]
  rw [hs] at fl'
  refine HandSPX.looks_onZ Zc.steady hfr hf fl' fun h' hh up => ?_
  rw [← hs] at hh
  refine ⟨a, G, _, H', cls, d, m, rfl, J, FC, h4, fun b o q hb => ?_, (Heap.UpToSlots.of_keeps fun b o q => (Fo b o q).1).trans up, hh, na, os, ag, Heap.Ns.upToSlots ⟨oC, es, ep, tC, hdC, rC⟩ up, hE⟩
  obtain ⟨q', z, ne⟩ := Fo b o q
  rcases z with z | z
  · obtain ⟨o', y⟩ := Option.isSome_iff_exists.mp z
    have w := g1 b o' y
    rw [q'] at w
    cases w
    exact h2 b o ne y
  · exact absurd z hb
theorem err_note (hf : ce.frame = some X.env.locals) (e : ErrC X pins σ C E u t) : wpAny M X.A (noteFrame u ce) (fun _ t' => ErrC X pins σ C E u t') E₁ t := by
  have e0 := e
  obtain ⟨a, G, sI, H, cls, d, m, rfl, _, _, _, _, _, hh, _⟩ := e
  exact HandSPX.againZ hf hh.2.2.2 e0
theorem err_back {F : Value → Shared → Prop} (hf : ce.frame = some X.env.locals) (e : ErrC X pins σ C E u t) (k : ∀ t', ErrC X pins σ C E u t' → F u t') : cameBackBy M X.A ce F u t := by
  obtain ⟨a, G, sI, H, cls, d, m, rfl, i1, i2, i3, i4, i5, hh, i6, i7, i8, i9, i10⟩ := e
  have hh0 := hh
  obtain ⟨_, _, _, oe, vs, T, oT, ts, he, _, hd, h1, _⟩ := hh
  unfold cameBackBy
  refine wpAny_bind (wpAny_field he hd h1 ?_)
  rw [if_neg (show ¬ ((Value.ref T == Value.none) = true) from by simp), hf]
  refine HandSPX.setFlight_onZ hh0 fun h' hh' up => k _ ?_
  exact ⟨a, G, sI, H, cls, d, m, rfl, i1, i2, i3, i4, i5.trans up, hh', i6, i7, i8, Heap.Ns.upToSlots i9 up, i10⟩
theorem err_end (tk : Takes X (fun cls d _ H => E cls d H)) (hC : ce.locals = C) (hf : ce.frame = some X.env.locals) (e : ErrC X pins σ C E u t) : CompFails M X.A X.xe ce u t := by
  obtain ⟨a, G, sI, H, cls, d, m, rfl, i1, i2, i3, i4, i5, hh, i6, i7, i8, i9, i10⟩ := e
  refine ⟨m, by rw [hC]; exact i9, fun h' m' hn hb => ?_⟩
  rw [hC] at hn hb
  have hh2 : HandSPX.HeldZ G X.stack a (Zc cls d) X.env.locals h' := by
    obtain ⟨b1, b2, b3, oe, vs, T, oT, ts, k1, k2, k3, k4, k5, k6, k7, k8, k9⟩ := hh
    have aC : a ≠ C := fun z => by
      obtain ⟨oC, es, ep, q, qd, _⟩ := i9
      rw [← z, k1] at q
      cases q
      rw [k3] at qd
      cases qd
    have TC : T ≠ C := fun z => by
      obtain ⟨oC, es, ep, q, qd, _⟩ := i9
      rw [← z, k7] at q
      cases q
      rw [k8] at qd
      cases qd
    exact ⟨fun b o q => (hb.2 b fun z => by rw [z, i3] at q; cases q).trans (b1 b o q), b2, Heap.FunFrames.sameBut hb hn b3, oe, vs, T, oT, ts, (hb.2 a aC).trans k1, k2, k3, k4, k5, k6, (hb.2 T TC).trans k7, k8, k9⟩
  have hh3 := hh2
  obtain ⟨_, _, _, oe, vs, T, oT, ts, he, _, hd, h1, _⟩ := hh2
  unfold PySem.passOn
  refine wpAny_bind (wpAny_field he hd h1 ?_)
  rw [if_neg (show ¬ ((Value.ref T == Value.none) = true) from by simp), hf]
  refine wpAny_bind (HandSPX.setFlight_onZ hh3 fun h'' hh4 up => wpAny_throw ?_)
  refine tk _ _ ⟨a, G, sI, pins, σ, H, cls, d, rfl, i1, i4, fun b o q nf => ?_, .inr (.inr hh4), i6, i7, i8, i10⟩
  obtain ⟨sl, q1⟩ := i5 b o q nf
  have ne : b ≠ C := fun z => by
    rw [z, i2] at q
    cases q
  obtain ⟨sl2, q2⟩ := up b _ ((hb.2 b ne).trans q1) nf
  exact ⟨sl2, q2⟩
end
/-- the loop of the first clause, exceptions of the second's loop handed on -/
theorem loop_outE {prog : Program} {w : World} {A : Around} {R : Result → Shared → Prop} {s : Shared} {elt t0 i0 t1 i1 : Expr} {ifs0 ifs1 : List Expr} {scope : Scope} {pos : Pos} {it acc : Value} {env : Env}
    (hs : ∀ x, foldedSetIterable i1 env x = pure x) (St : Nat → Shared → Prop) {N : Value → Shared → Prop} (hN : N = notedBy (model prog w) A env fun e t => R (.error e) t)
    (turn : ∀ n s, St n s → wpAny (model prog w) A (pyNext it) (fun r s1 => match r with
      | none => R (.ok .next) s1
      | some v => wpAny (model prog w) A (letOwnedTupleGo t0 it v) (fun _ s2 => wpAny (model prog w) A (assign t0 env v) (fun _ s3 =>
          wpAny (model prog w) A (forIn ifs0 true fun c r => if r = true then do let ok ← isTrue c env (eval c env); pure (ForInStep.yield ok) else pure (ForInStep.yield r)) (fun ok s4 =>
            if ok = true then wpAny (model prog w) A (eval i1 env) (fun x s5 => wpAny (model prog w) A (pyIter x) (fun it1 s6 =>
              codeAny (model prog w) A (.compStart (.ListComp elt [⟨t0, i0, ifs0, 0⟩, ⟨t1, i1, ifs1, 0⟩] scope pos) 1 it1 acc env) (fun r t => match r with
                | .ok _ => ∃ m, m < n ∧ St m t
                | .error e => cameBackBy (model prog w) A env N e t) s6) N s5) N s4
            else ∃ m, m < n ∧ St m s4) N s3) N s2) N s1) N s)
    (n : Nat) (h : St n s) :
    codeAny (model prog w) A (.compLoop (.ListComp elt [⟨t0, i0, ifs0, 0⟩, ⟨t1, i1, ifs1, 0⟩] scope pos) 0 it acc env) R s := by
  subst hN
  refine codeAny_loop rfl St (fun n s hS => ?_) n h
  show wpAny _ A ((compTurn (.ListComp elt [⟨t0, i0, ifs0, 0⟩, ⟨t1, i1, ifs1, 0⟩] scope pos) 0 it acc env).onRaise (fun x => do noteFrame x env; theTreesLotGoes x)) _ _ s
  refine wpAny_noted ?_
  rw [compTurn2_out]
  refine wpAny_bind (wpAny_standAt (wpAny_bind (thn (turn n s hS) fun r s1 h1 => ?_)))
  cases r with
  | none => exact wpAny_pure h1
  | some v =>
    refine wpAny_bind (thn h1 fun _ s2 h2 => wpAny_bind (thn h2 fun _ s3 h3 => wpAny_bind (thn h3 fun ok s4 h4 => ?_)))
    cases ok with
    | false => exact wpAny_pure ⟨rfl, h4⟩
    | true =>
      refine wpAny_bind (thn h4 fun x s5 h5 => ?_)
      refine wpAny_bind (wpAny_standAt (wpAny_bind (wpAny_of_eq (hs x) (wpAny_bind (wpAny_holding (thn h5 fun it1 s6 h6 => ?_))))))
      refine wpAny_bind (wpAny_runOwn ?_)
      rw [Around.mark_none]
      refine codeAny_mono h6 fun r t ht => ?_
      cases r with
      | ok f =>
        first
          | exact wpAny_pure ⟨rfl, ht⟩
          | exact wpAny_bind (wpAny_pure (wpAny_pure ⟨rfl, ht⟩))
      | error e => exact ht
end L2
set_option Elab.async false
set_option linter.all false
set_option maxRecDepth 100000
set_option maxHeartbeats 4000000
namespace L2
open PySem PySem.Spec PyProof.Rows
section
variable {X : Cx}
theorem thnX {α : Type} {p : Sem α} {Q Q' : α → Shared → Prop} {M : Model} {A : Around} {E E' : Value → Shared → Prop} {s : Shared} (h : wpAny M A p Q E s) (er : ∀ e t, E e t → E' e t) (hQ : ∀ a t, Q a t → Q' a t) : wpAny M A p Q' E' s := wpAny_mono h hQ er
theorem lc2_coreE {pins : List (Addr × Obj)} {s : Shared} {σ : St} {H : Hp} {Q : VK} {E : XK} {elt tg iter tg1 iter1 : Expr} {ifs ifs1 : List Expr} {scope : Scope} {own : List (Str × Nat)} {vs1 : List Nat} {pos pos' : Pos} {wi wi1 : TI} {g g1 : TG} {tt tt1 : TT} {te : TE} {use : Option (Value → Sem Unit)} {Qf : Value → Shared → Prop}
    (hst : X.stack = X.env :: X.outer) (hfr : X.env.frame = some X.env.locals) (tk : Takes X (fun cls d _ H => E cls d H))
    (hc : X.calm = true) (hN : X.N.Nodup) (I : Inv X pins σ H s) (hi : PI X tg iter wi) (ok : BlkOk X.N X.env.scope scope own) (hv : ∀ i ∈ vs1, i ∈ own.map (·.2))
    (hg : ∀ (s : Shared) (H : Hp) (C : Addr) (cl : List (Str × Addr)) (fp : List Addr), PG (X.blkE E s H scope (compEnvC scope cl C X.env) fp) tg g) (ht : ∀ (s : Shared) (H : Hp) (C : Addr) (cl : List (Str × Addr)) (fp : List Addr), PTs (X.blkE E s H scope (compEnvC scope cl C X.env) fp) ifs tt)
    (he : ∀ (s : Shared) (H : Hp) (C : Addr) (cl : List (Str × Addr)) (fp : List Addr), PE (X.blkE E s H scope (compEnvC scope cl C X.env) fp) elt te) (hs : ∀ x, foldedSetIterable iter X.env x = pure x)
    (hi1 : ∀ (s : Shared) (H : Hp) (C : Addr) (cl : List (Str × Addr)) (fp : List Addr), PI (X.blkE E s H scope (compEnvC scope cl C X.env) fp) tg1 iter1 wi1)
    (hg1 : ∀ (s : Shared) (H : Hp) (C : Addr) (cl : List (Str × Addr)) (fp : List Addr), PG (X.blkE E s H scope (compEnvC scope cl C X.env) fp) tg1 g1)
    (ht1 : ∀ (s : Shared) (H : Hp) (C : Addr) (cl : List (Str × Addr)) (fp : List Addr), PTs (X.blkE E s H scope (compEnvC scope cl C X.env) fp) ifs1 tt1)
    (hs1 : ∀ env x, foldedSetIterable iter1 env x = pure x)
    (h : tLc2 wi g tt wi1 g1 tt1 te (own.map (·.2)) vs1 σ H Q)
    (hEnd : ∀ D ce t m H', Inv X pins σ H' t → Q (.ref D) H' → t.heap.Ns ce.locals m → FpOk X pins H' ce.locals → compEnds (model X.prog X.w) X.A X.xe use Qf (.ref D) ce (.ok .next) t) :
    wpAny (model X.prog X.w) X.A (comprehension (.ListComp elt [⟨tg, iter, ifs, 0⟩, ⟨tg1, iter1, ifs1, 0⟩] scope pos) scope X.env pos' (newList []) false (eval iter X.env) use) Qf X.xe s := by
  have hfree : ∀ y ∈ scope.names, y.2 = .free → ∃ c, X.env.cells.lookup y.1 = some c := fun y hy e => (ok.free y hy e).elim (fun k => I.ok.has _ (.inl k)) fun k => I.ok.has _ (.inr k)
  refine comprehension_at (use := use) rfl hs (closure_ok hfree) ok.kind (fun y hy e => by rw [ok.uniq y hy, e])
    (thn (hi.run pins s σ H _ I h) fun xv t1 hx => thn hx fun itv t2 h2 => ?_)
  obtain ⟨it, fp, tn, J, K2, e, I2, T, st2, fok, q⟩ := h2
  subst e
  refine wpAny_newObj_type (newEnv_comp ?_) (by show 0 ≤ sizeLine; decide)
  generalize eD : t2.heap.objs.size = D
  have nD : K2 D = none := I2.hok.fresh (Nat.le_of_eq eD)
  obtain ⟨W, ⟨m0, w0⟩, turn⟩ := q D nD
  generalize et3 : ({ t2 with heap := t2.heap.push { cls := .type "list", data := .seq ([] : List Value).toArray } } : Shared) = t3
  have I3 : Inv X pins σ (upd K2 D (.lst [])) t3 := by
    rw [← et3]
    refine I2.laid (t' := t2.toks) (fun b o e => Heap.get?_push_of_some _ e) (Nat.le_of_eq eD) ⟨Nat.zero_le _, [], 0, .nil, ?_⟩
    rw [← eD]
    exact Heap.get?_push_size _ rfl
  have ht3 : t3.heap = t2.heap.push { cls := .type "list", data := .seq ([] : List Value).toArray } := by rw [← et3]
  have sz : ∀ b ∈ fp, b < t2.heap.objs.size := fun b hb => by
    obtain ⟨o, z, _⟩ := T.obj _ _ st2 b hb
    exact Heap.lt_size z
  have f3 : ∀ b ∈ fp, FpOk X pins (upd K2 D (.lst [])) b ∧ b < t3.heap.objs.size := fun b hb => by
    have lt := sz b hb
    refine ⟨⟨?_, (fok b hb).2⟩, by rw [ht3, Heap.size_push]; exact Nat.lt_succ_of_lt lt⟩
    rw [upd_ne (by rw [← eD]; exact Nat.ne_of_lt lt)]
    exact (fok b hb).1
  have st3 : tn 0 t3.heap := T.keep _ _ _ st2 fun b _ o z => by rw [ht3]; exact Heap.get?_push_of_some _ z
  have I4 := block_start I3 ok hN f3
  have pg := hg t3 (upd K2 D (.lst [])) t3.heap.objs.size (cellsFrom (t3.heap.objs.size + 1) scope.names (cloFrom X.env.cells scope.names [])) fp
  have pt := ht t3 (upd K2 D (.lst [])) t3.heap.objs.size (cellsFrom (t3.heap.objs.size + 1) scope.names (cloFrom X.env.cells scope.names [])) fp
  have pe := he t3 (upd K2 D (.lst [])) t3.heap.objs.size (cellsFrom (t3.heap.objs.size + 1) scope.names (cloFrom X.env.cells scope.names [])) fp
  have pi1 := hi1 t3 (upd K2 D (.lst [])) t3.heap.objs.size (cellsFrom (t3.heap.objs.size + 1) scope.names (cloFrom X.env.cells scope.names [])) fp
  have pg1 := hg1 t3 (upd K2 D (.lst [])) t3.heap.objs.size (cellsFrom (t3.heap.objs.size + 1) scope.names (cloFrom X.env.cells scope.names [])) fp
  have pt1 := ht1 t3 (upd K2 D (.lst [])) t3.heap.objs.size (cellsFrom (t3.heap.objs.size + 1) scope.names (cloFrom X.env.cells scope.names [])) fp
  show codeAny _ _ (.compStart (.ListComp elt [⟨tg, iter, ifs, 0⟩, ⟨tg1, iter1, ifs1, 0⟩] scope pos) 0 (.ref it) (.ref D) (compEnvC scope (cellsFrom (t3.heap.objs.size + 1) scope.names (cloFrom X.env.cells scope.names [])) t3.heap.objs.size X.env)) (compEnds (model X.prog X.w) X.A X.xe use Qf (.ref D) (compEnvC scope (cellsFrom (t3.heap.objs.size + 1) scope.names (cloFrom X.env.cells scope.names [])) t3.heap.objs.size X.env)) { t3 with heap := pushCells (t3.heap.push { cls := .type "dict", data := .dict #[] }) scope.names }
  have nfp : ∀ b ∈ fp, (upd K2 D (.lst [])) b = none := fun b hb => (f3 b hb).1.1
  generalize ece : compEnvC scope (cellsFrom (t3.heap.objs.size + 1) scope.names (cloFrom X.env.cells scope.names [])) t3.heap.objs.size X.env = ce at I4 pg pt pe pi1 pg1 pt1 ⊢
  have cL : ce.locals = t3.heap.objs.size := by subst ece; rfl
  have cF : ce.frame = X.env.frame := by subst ece; rfl
  have cF2 : ce.frame = some X.env.locals := cF.trans hfr
  generalize eK3 : upd K2 D (.lst []) = K3 at I3 I4 pg pt pe pi1 pg1 pt1 w0 nfp f3
  generalize et4 : ({ t3 with heap := pushCells (t3.heap.push { cls := .type "dict", data := .dict #[] }) scope.names } : Shared) = t4 at I4 ⊢
  have st4 : tn 0 t4.heap := T.keep _ _ _ st3 fun b _ o z => by rw [← et4]; exact pushCells_keeps _ _ _ _ (Heap.get?_push_of_some _ z)
  have I4 : Inv (X.blkE E t3 K3 scope ce fp) [] (wipe σ (own.map (·.2))) K3 t4 := I4.withXe _
  -- back in the def's context
  have home : ∀ {ps : List (Addr × Obj)} {σ' : St} {H' : Hp} {t' : Shared}, Inv (X.blk t3 K3 scope ce fp) ps σ' H' t' → Inv X pins σ H' t' ∧ FpOk X pins H' ce.locals ∧ ∃ m, t'.heap.Ns ce.locals m := fun {ps σ' H' t'} Ib => by
    have z : H' ce.locals = none := Ib.free
    obtain ⟨m, hn, _⟩ := Ib.loc
    refine ⟨I3.call' (ch := fp) Ib.os Ib.base Ib.hok Ib.bare fun b hb => ⟨(f3 b hb).1.2.2.2.1, (f3 b hb).1.2.1, (f3 b hb).1.2.2.2.2.1, (f3 b hb).1.2.2.2.2.2⟩, ?_, m, hn⟩
    exact I3.fpOk (by rw [cL]; exact Nat.le_refl _) z
  -- where an exception goes
  let R : Result → Shared → Prop := compEnds (model X.prog X.w) X.A X.xe use Qf (.ref D) ce
  let N : Value → Shared → Prop := notedBy (model X.prog X.w) X.A ce fun e t => R (.error e) t
  have rEnd : ∀ e t, ErrC X pins σ ce.locals E e t → R (.error e) t := fun e t z => by
    show compEnds (model X.prog X.w) X.A X.xe use Qf (.ref D) ce (.error e) t
    have := err_end (M := model X.prog X.w) tk rfl cF2 z
    cases use <;> exact this
  have erN : ∀ e t, ErrC X pins σ ce.locals E e t → N e t := fun e t z => thn (err_note cF2 z) fun _ t' z' => rEnd e t' z'
  have erO : ∀ e t, XF (X.blk t3 K3 scope ce fp) E e t → N e t := fun e t ⟨ps, σ', H', t', Ib, c⟩ => by
    obtain ⟨J, fC, m, hn⟩ := home Ib
    exact thn (err_call J fC hn hst hfr cF c) fun _ t' z' => rEnd e t' z'
  have erI : ∀ e t, XF (X.blk t3 K3 scope ce fp) E e t → notedBy (model X.prog X.w) X.A ce (fun e t => cameBackBy (model X.prog X.w) X.A ce N e t) e t := fun e t ⟨ps, σ', H', t', Ib, c⟩ => by
    obtain ⟨J, fC, m, hn⟩ := home Ib
    exact thn (err_call J fC hn hst hfr cF c) fun _ t' z' => err_back cF2 z' fun t'' z'' => erN e t'' z''
  have stat : ∀ {ps : List (Addr × Obj)} {σ' : St} {H' : Hp} {t' : Shared}, Inv (X.blkE E t3 K3 scope ce fp) [] σ' H' t' → (∀ b ∈ fp, H' b = none) → ∀ b ∈ fp, FpOk (X.blkE E t3 K3 scope ce fp) [] H' b := fun {ps σ' H' t'} Ib hn b hb =>
    ⟨hn b hb, (Ib.ok.exf b hb).1, Ib.ok.exfs b hb, .inl hb, fun x c z => (Ib.ok.exf b hb).2 x c z, fun p hp => absurd (show p ∈ ([] : List (Addr × Obj)) ++ [] from hp) (by simp)⟩
  have loop : codeAny (model X.prog X.w) X.A (.compLoop (.ListComp elt [⟨tg, iter, ifs, 0⟩, ⟨tg1, iter1, ifs1, 0⟩] scope pos) 0 (.ref it) (.ref D) ce) R t4 := by
    refine loop_outE (hs1 ce) (fun n t => ∃ i H', Inv (X.blkE E t3 K3 scope ce fp) [] (wipe σ (own.map (·.2))) H' t ∧ tn i t.heap ∧ (∀ b ∈ fp, H' b = none) ∧ W i n H') (N := N) rfl ?_ m0 ⟨0, K3, I4, st4, nfp, w0⟩
    rintro n t5 ⟨i, H5, I5, st5, n5, w5⟩
    rcases turn i n H5 w5 with ⟨stop, qq⟩ | ⟨go, Nx, hNx, step⟩
    · refine thnF (T.done (X.blkE E t3 K3 scope ce fp) rfl rfl rfl hc i [] t5 _ H5 (fun _ _ => False) I5 (stat (ps := []) I5 n5) st5 stop) fun r t6 ⟨hr, I6⟩ => ?_
      subst hr
      obtain ⟨J6, fC, m, hn⟩ := home (I6.withXe (fun _ _ => False))
      exact hEnd D ce t6 m H5 J6 qq hn fC
    · refine thnF (T.item (X.blkE E t3 K3 scope ce fp) rfl rfl rfl hc i [] t5 _ H5 (fun _ _ => False) I5 (stat (ps := []) I5 n5) st5 go) fun r t6 ⟨u, hr, h6⟩ => ?_
      subst hr
      refine thnF h6 fun _ t7 ⟨x, H7, I7, r7, y7, st7, n7⟩ => ?_
      have P7 := I7.pinned (stat (ps := []) I7 n7) (T.obj _ _ st7)
      refine thnX (pg.run _ t7 _ H7 x u _ P7 r7 (step x H7 y7)) erO fun _ t8 ⟨σ8, H8, I8, hw8, q8⟩ => ?_
      refine thnX (pt.run _ t8 σ8 H8 _ I8 q8) erO fun b t9 ⟨H9, I9, q9⟩ => ?_
      have fin : ∀ {σ9 : St} {t' : Shared} {H' : Hp}, Inv (X.blkE E t3 K3 scope ce fp) ([] ++ pinsAt fp t7.heap) σ9 H' t' → (wipe σ (own.map (·.2))).length = σ9.length → (∀ (j : Nat) v, (wipe σ (own.map (·.2)))[j]? = some (some v) → σ9[j]? = some (some v)) → Nx H' →
          ∃ m, m < n ∧ ∃ i H', Inv (X.blkE E t3 K3 scope ce fp) [] (wipe σ (own.map (·.2))) H' t' ∧ tn i t'.heap ∧ (∀ b ∈ fp, H' b = none) ∧ W i m H' := fun {σ9 t' H'} Ib hl hk nx => by
        obtain ⟨m', hm, w'⟩ := hNx H' nx
        have pin : ∀ b ∈ fp, ∀ o, t7.heap.get? b = some o → t'.heap.get? b = some o ∧ H' b = none := fun b hb o z =>
          have y := Ib.pin (b, o) (List.mem_append_right _ (List.mem_append_right _ (mem_pinsAt hb z)))
          ⟨y.1, y.2.1⟩
        refine ⟨m', hm, i + 1, H', (Ib.unpinned (pins := [])).weak hl hk, T.keep _ _ _ st7 fun b hb o z => (pin b hb o z).1, fun b hb => ?_, w'⟩
        obtain ⟨o, z, _⟩ := T.obj _ _ st7 b hb
        exact (pin b hb o z).2
      have hl8 : (wipe σ (own.map (·.2))).length = σ8.length := by rw [← hw8, wipe_length]
      have hk8 : ∀ (j : Nat) v, (wipe σ (own.map (·.2)))[j]? = some (some v) → σ8[j]? = some (some v) := fun j v z => by
        rw [← hw8] at z
        exact (wipe_some z).1
      have hk9 : ∀ (j : Nat) v, (wipe σ (own.map (·.2)))[j]? = some (some v) → (wipe σ8 vs1)[j]? = some (some v) := fun j v z => by
        rw [← hw8] at z
        obtain ⟨z1, z2⟩ := wipe_some z
        rw [wipe_out fun y => z2 (hv j y)]
        exact z1
      cases b with
      | false =>
        simp only [Bool.false_eq_true, if_false] at q9 ⊢
        exact fin I9 hl8 hk8 q9
      | true =>
        simp only [if_true] at q9 ⊢
        refine thnX (pi1.run _ t9 σ8 H9 _ I9 q9) erO fun xv t10 hx => thnX hx erO fun itv t11 h11 => ?_
        obtain ⟨it1, fp1, tn1, J1, H11, e1, I11, T1, st11, f11, W1, ⟨m1, w1⟩, turn1⟩ := h11
        subst e1
        have stat1 : ∀ {H' : Hp}, (∀ b ∈ fp1, H' b = none) → ∀ b ∈ fp1, FpOk (X.blkE E t3 K3 scope ce fp) ([] ++ pinsAt fp t7.heap) H' b := fun hn b hb => ⟨hn b hb, (f11 b hb).2⟩
        have inner : codeAny (model X.prog X.w) X.A (.compLoop (.ListComp elt [⟨tg, iter, ifs, 0⟩, ⟨tg1, iter1, ifs1, 0⟩] scope pos) 1 (.ref it1) (.ref D) ce)
            (fun r t => match r with
              | .ok _ => ∃ m, m < n ∧ ∃ i H', Inv (X.blkE E t3 K3 scope ce fp) [] (wipe σ (own.map (·.2))) H' t ∧ tn i t.heap ∧ (∀ b ∈ fp, H' b = none) ∧ W i m H'
              | .error e => cameBackBy (model X.prog X.w) X.A ce N e t) t11 := by
          refine compLoop2_in (fun k t => ∃ j H', Inv (X.blkE E t3 K3 scope ce fp) ([] ++ pinsAt fp t7.heap) (wipe σ8 vs1) H' t ∧ tn1 j t.heap ∧ (∀ b ∈ fp1, H' b = none) ∧ W1 j k H') ?_ m1 ⟨0, H11, I11.weak (wipe_length _ _) (fun j v z => (wipe_some z).1), st11, fun b hb => (f11 b hb).1, w1⟩
          rintro k t12 ⟨j, H12, I12, st12, n12, w12⟩
          rcases turn1 j k H12 w12 with ⟨stop1, nx1⟩ | ⟨go1, Nx1, hNx1, step1⟩
          · refine thnF (T1.done (X.blkE E t3 K3 scope ce fp) rfl rfl rfl hc j _ t12 (wipe σ8 vs1) H12 (fun _ _ => False) I12 (stat1 n12) st12 stop1) fun r t13 ⟨hr, I13⟩ => ?_
            subst hr
            exact fin I13 (hl8.trans (wipe_length σ8 vs1).symm) hk9 nx1
          · refine thnF (T1.item (X.blkE E t3 K3 scope ce fp) rfl rfl rfl hc j _ t12 (wipe σ8 vs1) H12 (fun _ _ => False) I12 (stat1 n12) st12 go1) fun r t13 ⟨u1, hr, h13⟩ => ?_
            subst hr
            refine thnF h13 fun _ t14 ⟨x1, H14, I14, r14, y14, st14, n14⟩ => ?_
            have P14 := I14.pinned (stat1 n14) (T1.obj _ _ st14)
            refine thnX (pg1.run _ t14 (wipe σ8 vs1) H14 x1 u1 _ P14 r14 (step1 x1 H14 y14)) erI fun _ t15 ⟨σ15, H15, I15, hw15, q15⟩ => ?_
            refine thnX (pt1.run _ t15 σ15 H15 _ I15 q15) erI fun b1 t16 ⟨H16, I16, q16⟩ => ?_
            have fin1 : ∀ {t' : Shared} {H' : Hp}, Inv (X.blkE E t3 K3 scope ce fp) (([] ++ pinsAt fp t7.heap) ++ pinsAt fp1 t14.heap) σ15 H' t' → Nx1 H' → ∃ m, m < k ∧ ∃ j H', Inv (X.blkE E t3 K3 scope ce fp) ([] ++ pinsAt fp t7.heap) (wipe σ8 vs1) H' t' ∧ tn1 j t'.heap ∧ (∀ b ∈ fp1, H' b = none) ∧ W1 j m H' := fun {t' H'} Ib nx => by
              obtain ⟨m', hm, w'⟩ := hNx1 H' nx
              have pin : ∀ b ∈ fp1, ∀ o, t14.heap.get? b = some o → t'.heap.get? b = some o ∧ H' b = none := fun b hb o z =>
                have y := Ib.pin (b, o) (List.mem_append_right _ (List.mem_append_right _ (mem_pinsAt hb z)))
                ⟨y.1, y.2.1⟩
              refine ⟨m', hm, j + 1, H', Ib.unpinned.weak (by rw [← hw15, wipe_length]) (fun j v z => by rw [← hw15] at z; exact (wipe_some z).1), T1.keep _ _ _ st14 fun b hb o z => (pin b hb o z).1, fun b hb => ?_, w'⟩
              obtain ⟨o, z, _⟩ := T1.obj _ _ st14 b hb
              exact (pin b hb o z).2
            cases b1 with
            | false =>
              simp only [Bool.false_eq_true, if_false] at q16 ⊢
              exact fin1 I16 q16
            | true =>
              simp only [if_true] at q16 ⊢
              refine thnX (pe.run _ t16 σ15 H16 _ I16 q16) erI fun z t17 ⟨yv, H17, I17, r17, acc, hD17, hz17, nx⟩ => ?_
              exact app_ok (X := X.blkE E t3 K3 scope ce fp) I17 hD17 hz17 r17 fun t18 I18 => fin1 I18 nx
        exact compStart1_ok inner (T1.self X.A 0 _ _ _ st11 inner)
  exact codeAny_compStart_list loop (T.self X.A 0 _ _ _ st4 loop)
/-- name = [..] of two clauses, the element a call that may raise -/
theorem ps_setLc2E {E : XK} {i : Nat} {y : Str} {py : Pos} {elt tg iter tg1 iter1 : Expr} {ifs ifs1 : List Expr} {scope : Scope} {own : List (Str × Nat)} {vs1 : List Nat} {pos spos : Pos} {wi wi1 : TI} {g g1 : TG} {tt tt1 : TT} {te : TE}
    (hst : X.stack = X.env :: X.outer) (hfr : X.env.frame = some X.env.locals) (tk : Takes X (fun cls d _ H => E cls d H)) (hc : X.calm = true) (hN : X.N.Nodup) (hy : X.N[i]? = some y) (hyl : X.env.scope.names.lookup y = some .local)
    (hsw : swapsWith (.ListComp elt [⟨tg, iter, ifs, 0⟩, ⟨tg1, iter1, ifs1, 0⟩] scope pos) (some (.Name y py)) spos.line X.env = pure true) (hi : PI X tg iter wi) (ok : BlkOk X.N X.env.scope scope own) (hv : ∀ i ∈ vs1, i ∈ own.map (·.2))
    (hg : ∀ (s : Shared) (H : Hp) (C : Addr) (cl : List (Str × Addr)) (fp : List Addr), PG (X.blkE E s H scope (compEnvC scope cl C X.env) fp) tg g) (ht : ∀ (s : Shared) (H : Hp) (C : Addr) (cl : List (Str × Addr)) (fp : List Addr), PTs (X.blkE E s H scope (compEnvC scope cl C X.env) fp) ifs tt)
    (hi1 : ∀ (s : Shared) (H : Hp) (C : Addr) (cl : List (Str × Addr)) (fp : List Addr), PI (X.blkE E s H scope (compEnvC scope cl C X.env) fp) tg1 iter1 wi1)
    (hg1 : ∀ (s : Shared) (H : Hp) (C : Addr) (cl : List (Str × Addr)) (fp : List Addr), PG (X.blkE E s H scope (compEnvC scope cl C X.env) fp) tg1 g1) (ht1 : ∀ (s : Shared) (H : Hp) (C : Addr) (cl : List (Str × Addr)) (fp : List Addr), PTs (X.blkE E s H scope (compEnvC scope cl C X.env) fp) ifs1 tt1)
    (he : ∀ (s : Shared) (H : Hp) (C : Addr) (cl : List (Str × Addr)) (fp : List Addr), PE (X.blkE E s H scope (compEnvC scope cl C X.env) fp) elt te) (hs : ∀ x, foldedSetIterable iter X.env x = pure x := by intro _; rfl) (hs1 : ∀ env x, foldedSetIterable iter1 env x = pure x := by intro _ _; rfl) :
    PS X (.Assign [.Name y py] (.ListComp elt [⟨tg, iter, ifs, 0⟩, ⟨tg1, iter1, ifs1, 0⟩] scope pos) spos) (tAsg (tLc2 wi g tt wi1 g1 tt1 te (own.map (·.2)) vs1) (gName i)) := by
  refine ⟨fun pins s σ H D I h => ?_⟩
  rw [exec_Assign_Name_used _ _ _ _ hsw]
  refine wpAny_bind (wpAny_standAt (wpAny_bind ?_))
  show wpAny _ X.A (do let _ ← comprehension (.ListComp elt [⟨tg, iter, ifs, 0⟩, ⟨tg1, iter1, ifs1, 0⟩] scope pos) scope X.env (firstIterPos [⟨tg, iter, ifs, 0⟩, ⟨tg1, iter1, ifs1, 0⟩] pos) (newList []) false (eval iter X.env) (some (assign (.Name y py) X.env))) _ _ s
  have h : tLc2 wi g tt wi1 g1 tt1 te (own.map (·.2)) vs1 σ H (fun x H1 => gName i x σ H1 D.nx) := h
  refine wpAny_bind (thn (lc2_coreE (Qf := fun _ t => SP X pins D .next t) hst hfr tk hc hN I hi ok hv hg ht he hs hi1 hg1 ht1 hs1 h fun L ce t m H' I' q hn f => ?_) fun _ t hq => wpAny_pure (wpAny_pure hq))
  show wpAny _ _ (assign (.Name y py) X.env (.ref L)) _ _ _
  refine wpAny_assign_Name (store_ok2 (v := V.ref L) I' hN hy (.inl hyl) rfl (fun t2 I2 ⟨a, sb, ha⟩ => ?_) (.inr hyl))
  obtain ⟨f0, f1, f2, f3, f4, f5⟩ := f
  have ne : ce.locals ≠ a := by
    rcases ha with z | z
    · rw [z]
      exact f1
    · exact fun e => f4 y a z e.symm
  refine ⟨m, hn.sameBut sb ne, fun h3 sb3 => ?_⟩
  exact ⟨_, H', I2.turned (t' := t2.toks) (fun b o hb e => (sb3.2 b hb).trans e) f0 f1 f3 f4 f5, q⟩
end
end L2
set_option Elab.async false
set_option linter.all false
set_option maxRecDepth 100000
set_option maxHeartbeats 4000000
/-! the entries of a dict by one function of the key, which keeps what is known by the key; the data at an address -/
namespace Q
open PySem PySem.Spec PyProof.Rows L2
theorem keyed_mapP {α : Type} [Inhabited α] {R : V → α → Prop} {P : Str → α → Prop} : ∀ (rs : List (Str × Addr)), (rs.map (·.1)).Nodup → (∀ q ∈ rs, ∃ d, R (.ref q.2) d ∧ P q.1 d) →
    ∃ F : Str → α, KeyedG R (rs.map fun q => ((.inr q.1 : Key), V.ref q.2)) ((rs.map (·.1)).map fun z => ((.inr z : Key), F z)) ∧ ∀ z ∈ rs.map (·.1), P z (F z)
  | [], _, _ => ⟨fun _ => default, .nil, fun z hz => nomatch hz⟩
  | q :: rs, nd, h => by
    rw [List.map_cons, List.nodup_cons] at nd
    obtain ⟨F, hF, hP⟩ := keyed_mapP rs nd.2 fun p hp => h p (List.mem_cons_of_mem _ hp)
    obtain ⟨d, hd, pd⟩ := h q List.mem_cons_self
    refine ⟨fun z => if z = q.1 then d else F z, ?_, fun z hz => ?_⟩
    · rw [List.map_cons, List.map_cons, List.map_cons]
      refine .cons ⟨rfl, by show R _ (if q.1 = q.1 then d else F q.1); rw [if_pos rfl]; exact hd⟩ ?_
      rw [show ((rs.map (·.1)).map fun z => ((.inr z : Key), if z = q.1 then d else F z)) = (rs.map (·.1)).map fun z => ((.inr z : Key), F z) from List.map_congr_left fun z hz => by
        rw [if_neg fun (e : z = q.1) => nd.1 (e ▸ hz)]]
      exact hF
    · show P z (if z = q.1 then d else F z)
      by_cases e : z = q.1
      · rw [if_pos e, e]
        exact pd
      · rw [if_neg e]
        rw [List.map_cons] at hz
        exact hP z ((List.mem_cons.mp hz).resolve_left e)
/-- the data of a tuple of texts -/
def dataV (H : Hp) : V → PyData
  | .ref a => match H a with
    | some (.tup xs) => .tuple (xs.map fun | .str z => .str z | _ => .none)
    | _ => .none
  | _ => .none
theorem dataV_tup {H : Hp} {a : Addr} {ys : List Str} (h : H a = some (.tup (ys.map V.str))) : dataV H (.ref a) = .tuple (ys.map PyData.str) := by
  unfold dataV
  simp only [h]
  rw [List.map_map]
  rfl
/-- .. of a dict of such -/
def rowsAt (H : Hp) (c : Addr) : List (Key × PyData) := match H c with
  | some (.dK rows) => rows.map fun p => (p.1, dataV H p.2)
  | _ => []
theorem keyed_data {H : Hp} {R : V → PyData → Prop} (hR : ∀ v d, R v d → d = dataV H v) : ∀ {rows : List (Key × V)} {Ds : List (Key × PyData)}, KeyedG R rows Ds → Ds = rows.map fun p => (p.1, dataV H p.2)
  | _, _, .nil => rfl
  | _, _, .cons (a := p) (b := q) h t => by
    rw [List.map_cons, ← keyed_data hR t, ← hR _ _ h.2, h.1]
theorem keyed_imp {α : Type} {R S : V → α → Prop} (h : ∀ v d, R v d → S v d) : ∀ {rows : List (Key × V)} {Ds : List (Key × α)}, KeyedG R rows Ds → KeyedG S rows Ds
  | _, _, .nil => .nil
  | _, _, .cons a t => .cons ⟨a.1, h _ _ a.2⟩ (keyed_imp h t)
end Q
set_option Elab.async false
set_option linter.all false
set_option maxRecDepth 100000
set_option maxHeartbeats 4000000
/-! set(xs) of a tuple of texts, whatever comes twice; sorted of it -/
namespace Q
open PySem PySem.Spec PyProof.Rows L2 PySem.Froz
def walkerT (l : Addr) : Obj :=
  { cls := .type "tuple_iterator"
    data := .fields #[.ref l, .int 0 0] }
def laidTup (w : World) (h : Heap) (l : Addr) : Heap := (h.push (noneYet w)).push (walkerT l)
section
variable {P : Program} {w : World} {A : Around} {E : Value → Shared → Prop} {s : Shared}
theorem laidT_set (h : Heap) (l : Addr) : (laidTup w h l).get? h.objs.size = some (noneYet w) := Heap.get?_push_of_some _ (Heap.get?_push_size _ rfl)
theorem laidT_old {h : Heap} {l b : Addr} {o : Obj} (e : h.get? b = some o) : (laidTup w h l).get? b = some o := Heap.get?_push_of_some _ (Heap.get?_push_of_some _ e)
set_option maxRecDepth 100000 in
set_option maxHeartbeats 3200000 in
theorem set_shellT {l : Addr} {items : Array Value} {Q : Value → Shared → Prop} (Post : Heap → Prop) (hl : s.heap.IsTuple l items)
    (loop : codeAny (model P w) A.in1.in1 (.builtin "set.update.loop" ⟨[.ref s.heap.objs.size, .ref (s.heap.push (noneYet w)).objs.size], []⟩)
      (fun r z => r = .ok (.ret .none) ∧ z.gens = s.gens ∧ z.drawn = s.drawn ∧ z.os = s.os ∧ Post z.heap) { s with heap := laidTup w s.heap l })
    (next : ∀ (h' : Heap) (tk : Nat), Post h' → Q (.ref s.heap.objs.size) { s with heap := h', toks := tk }) :
    wpAny (model P w) A (call (.type "set") [.ref l]) Q E s := by
  obtain ⟨mroHead, mroTail, ofMro⟩ := F.called_set.mro
  have g1 := F.called_set.made
  have g2 := F.called_set.sub
  refine wpAny_call (codeAny_of_tree ?_)
  show wpAny _ _ (callAny (.type "set") _) _ _ _
  refine wpAny_pure ⟨Code.quiet_builtin _ (by decide +kernel), codeAny_builtin F.entry_type_call ?_⟩
  rw [Around.under_plain (weight_type_call_type "set" [.ref l] []) rfl]
  have g3 := F.called_set.notType
  have g4 := F.called_set.canCreate
  have g5 := F.typeCall_set_1 (.ref l)
  repeat (any_goals (first | assumption | wp_step))
  refine codeAny_mono (code_set_led1 (.ref l) (E := E) (Q₁ := fun v z => v = .ref s.heap.objs.size ∧ z = { s with heap := s.heap.push (noneYet w) }) ⟨rfl, rfl⟩) fun r z hz => ?_
  cases r with
  | error e => exact hz
  | ok fl =>
    cases fl with
    | ret v =>
      obtain ⟨rfl, rfl⟩ := hz
      have at1 : (s.heap.push (noneYet w)).get? s.heap.objs.size = some (noneYet w) := Heap.get?_push_size _ rfl
      have isSet : Shared.TypeIs { s with heap := s.heap.push (noneYet w) } (.ref s.heap.objs.size) "set" := ⟨_, at1, rfl⟩
      have g6 := F.called_set.init.lookup
      have g7 := F.called_set.init.bind (.ref s.heap.objs.size)
      repeat (any_goals (first | assumption | wp_step))
      refine codeAny_mono (codeAny_call_builtin (R := wants (fun r z => r = .none ∧ ∃ h' tk, z = { s with heap := h', toks := tk } ∧ Post h') E)
        F.called_set.init.plain F.entry_set_init (check_set_init_1 isSet ?_)) fun r z hz => ?_
      · obtain ⟨⟨lcls, ldict, ldata, lslots⟩, lat, lc, ln, ld⟩ := hl
        simp only at lc ld
        subst lc
        subst ld
        have lat1 : (s.heap.push (noneYet w)).get? l = some { cls := .type "tuple", dict := ldict, data := .seq items ln, slots := lslots } := Heap.get?_push_of_some _ lat
        have lis1 : (s.heap.push (noneYet w)).IsTuple l items := ⟨_, lat1, rfl, ln, rfl⟩
        have g8 := F.sub_tuple_set
        have g9 := F.sub_tuple_frozenset
        have g10 : (Value.type "tuple" == Value.type "dict") = false := by decide
        unfold Builtin.«set.__init__» noKeywords Builtin.Frozenset.updateFrom
        generalize hold : pyIter = PI
        wp_walk
        subst hold
        refine wpAny_pyIter_tuple lis1 ?_
        refine wpAny_bind (wpAny_runValue ?_)
        refine codeAny_mono loop fun r z hz => ?_
        obtain ⟨rfl, e1, e2, e3, hp⟩ := hz
        obtain ⟨zh, zg, zd, zt, zo⟩ := z
        dsimp only at e1 e2 e3 hp
        subst e1; subst e2; subst e3
        show wpAny _ _ _ _ _ _
        refine wpAny_pure ?_
        show wpAny _ _ (ret Value.none) _ _ _
        exact wpAny_pure ⟨rfl, zh, zt, rfl, hp⟩
      · cases r with
        | error e => exact hz
        | ok fl =>
          cases fl with
          | ret v =>
            obtain ⟨rfl, h', tk, rfl, hp⟩ := hz
            repeat (any_goals (first | assumption | wp_step))
            exact next _ _ hp
          | _ => exact hz.elim
    | _ => exact hz.elim
/-- a set of a tuple, by what each item's coming in does -/
theorem set_filledT {l : Addr} {items : Array Value} {Q : Value → Shared → Prop} (J : Nat → Heap → Prop) (hh : A.handled = none) (hl : s.heap.IsTuple l items)
    (begin_ : J 0 (laidTup w s.heap l))
    (moves : ∀ i h h', J i h → (∀ b o, b ≠ (s.heap.push (noneYet w)).objs.size → h.get? b = some o → h'.get? b = some o) → J i h')
    (step : ∀ (E : Value → Shared → Prop) (i : Nat) (v : Value) (z : Shared) (Q : Bool → Shared → Prop), i < items.size → items[i]? = some v → J i z.heap →
      (∀ b h' tk, z.toks ≤ tk → Heap.SameBut s.heap.objs.size z.heap h' → J (i + 1) h' → Q b { z with heap := h', toks := tk }) → wpAny (model P w) A.in1.in1.in1 (setAdd s.heap.objs.size v) Q E z)
    (next : ∀ (h' : Heap) (tk : Nat), (∀ b o, s.heap.get? b = some o → h'.get? b = some o) → J items.size h' → Q (.ref s.heap.objs.size) { s with heap := h', toks := tk }) :
    wpAny (model P w) A (call (.type "set") [.ref l]) Q E s := by
  obtain ⟨o, ho, hc, n, hd⟩ := id hl
  have ll : l < s.heap.objs.size := Heap.lt_size ho
  have z1 : (s.heap.push (noneYet w)).objs.size = s.heap.objs.size + 1 := Heap.size_push ..
  have lis1 : (s.heap.push (noneYet w)).IsTuple l items := ⟨o, Heap.get?_push_of_some _ ho, hc, n, hd⟩
  have h3 : A.in1.in1.in1.handled = none := by simp [hh]
  have nI : l ≠ (s.heap.push (noneYet w)).objs.size := by rw [z1]; exact Nat.ne_of_lt (Nat.lt_succ_of_lt ll)
  have apart : s.heap.objs.size ∉ [(s.heap.push (noneYet w)).objs.size, l] := by
    rw [z1]
    simp only [List.mem_cons, List.mem_singleton, List.not_mem_nil, or_false, not_or]
    exact ⟨Nat.ne_of_lt (Nat.lt_succ_self _), Nat.ne_of_gt ll⟩
  refine set_shellT (fun h' => J items.size h' ∧ ∀ b o, s.heap.get? b = some o → h'.get? b = some o) hl ?_ fun h' tk q => next h' tk q.2 q.1
  refine fill_loop (A := A.in1.in1) (n := items.size) (Walks.tuple h3 (s.heap.push (noneYet w)).objs.size l nI items).toS s.heap.objs.size apart J
    (fun i h h' j k => moves i h h' j fun b o nb q => k b o (by simpa using nb) q) (fun E i v z Q lt pv j k => step E i v z Q lt pv j k)
    (items.size - 0) 0 _ rfl (Nat.zero_le _) ⟨⟨_, Heap.get?_push_size _ rfl, rfl, rfl⟩, lis1.push _⟩ begin_ fun z' mv j => ⟨rfl, mv.gens, mv.drawn, mv.os, j, fun b o q => ?_⟩
  have lb : b < s.heap.objs.size := Heap.lt_size q
  refine mv.heap b o ?_ (laidT_old q)
  rw [z1]
  simp only [List.mem_cons, List.mem_singleton, List.not_mem_nil, or_false, not_or]
  exact ⟨Nat.ne_of_lt lb, Nat.ne_of_lt (Nat.lt_succ_of_lt lb)⟩
/-- a text that is there already comes once more -/
theorem add_old {a : Addr} {T : String} {D : SD} {l : List Str} {k : Str} {u : Tok} {Q : Bool → Shared → Prop} (ho : s.heap.get? a = some (sObj T D)) (F : TxOk P w D l) (hk : k ∈ l) (hb : l.length + 1 < scanBound)
    (h : Q false s) : wpAny (model P w) A (setAddHashed a (.str k u) (hashStr w k)) Q E s := by
  obtain ⟨es, ep, t⟩ := D
  have fit : t.fits es.size = true := F.fit
  have els : ElemsOf (strKind P w) es.toList := F.el
  have len : es.size = l.length := F.sz
  have b0 : es.size < scanBound := by omega
  obtain ⟨j, hj⟩ : ∃ j, List.findIdx? (fun e => (strKind P w).is k e.2) es.toList = some j := by
    cases hr : List.findIdx? (fun e => (strKind P w).is k e.2) es.toList with
    | some j => exact ⟨j, rfl⟩
    | none =>
      obtain ⟨e, he, ek⟩ := (F.mem k).mp hk
      have := List.findIdx?_eq_none_iff.mp hr e he
      rw [ek] at this
      cases this
  unfold setAddHashed setAddHashedIn
  refine wpAny_holding (wpAny_bind (wpAny_setState_of ho rfl fit ?_))
  dsimp only
  rw [byScan_of rfl b0 els]
  simp only [↓reduceIte]
  unfold setAddByScan
  refine wpAny_bind ?_
  refine wpAny_bind (wpAny_rule ?_)
  refine wpAny_bind (wpAny_setScan_of (knd := strKind P w) (k := k) (is_str k u) ho rfl fit els ?_)
  rw [hj]
  dsimp only
  exact wpAny_pure (wpAny_pure h)
/-- behind i texts: those met so far, each once -/
def TxtD (P : Program) (w : World) (S : Addr) (ys : List Str) (i : Nat) (h : Heap) : Prop :=
  ∃ (D : SD) (zs : List Str) (us : List Value), h.get? S = some (sObj "set" D) ∧ TxOk P w D zs ∧ Ris D.2.2.place.toList ∧ (w.params.followText "set-order" = true ∨ D.2.2.led = true) ∧
    zs.Nodup ∧ (∀ z, z ∈ zs ↔ z ∈ ys.take i) ∧ zs.length ≤ i ∧ StrsAre us zs ∧ (D.1.toList.map (·.2)).Perm us
theorem set_textsD {l : Addr} {items : Array Value} {ys : List Str} {Q : Value → Shared → Prop} (hh : A.handled = none) (hl : s.heap.IsTuple l items) (r : StrsAre items.toList ys) (few : ys.length < 4000)
    (next : ∀ (h' : Heap) (tk : Nat) (zs : List Str) (us : List Value), (∀ b o, s.heap.get? b = some o → h'.get? b = some o) → zs.Nodup → (∀ z, z ∈ zs ↔ z ∈ ys) → zs.length ≤ ys.length → StrsAre us zs → Members w h' s.heap.objs.size us → Q (.ref s.heap.objs.size) { s with heap := h', toks := tk }) :
    wpAny (model P w) A (call (.type "set") [.ref l]) Q E s := by
  have ly : items.size = ys.length := by rw [← StrsAre.len_eq r, Array.length_toList]
  refine set_filledT (TxtD P w s.heap.objs.size ys) hh hl ?_ (fun i h h' j k => ?_) (fun E i v z Q lt pv j k => ?_) fun h' tk kp j => ?_
  · refine ⟨(#[], 0, .fresh 0 0 (!w.params.followText "set-order")), [], [], laidT_set _ _, TxOk.nil (by rfl), List.Pairwise.nil, ?_, .nil, fun z => by simp, Nat.le_refl _, .nil, .nil⟩
    show _ ∨ (!w.params.followText "set-order") = true
    cases w.params.followText "set-order"
    · exact .inr rfl
    · exact .inl rfl
  · obtain ⟨D, zs, us, e, rest⟩ := j
    refine ⟨D, zs, us, k _ _ ?_ e, rest⟩
    rw [Heap.size_push]
    exact Nat.ne_of_lt (Nat.lt_succ_self _)
  · obtain ⟨D, zs, us, e, tx, ri, ld, nd, mem, len, su, pm⟩ := j
    obtain ⟨y, t, ey, rfl⟩ := strs_get r (i := i) (v := v) (by rw [Array.getElem?_toList]; exact pv)
    have tk1 : ys.take (i + 1) = ys.take i ++ [y] := by
      rw [List.take_add_one, ey]
      rfl
    unfold setAdd
    refine wpAny_holding ?_
    refine wpAny_bind ((PySem.strKind P w).pyHash (k := y) (is_str y t) ?_)
    have lt2 : zs.length + 1 < scanBound := by
      show _ < 4096
      omega
    by_cases hm : y ∈ zs
    · refine add_old (s := { z with toks := z.toks + 1 }) e tx hm lt2 (k false _ _ (Nat.le_succ _) (Heap.SameBut.refl _ _) ⟨D, zs, us, e, tx, ri, ld, nd, fun x => ?_, by omega, su, pm⟩)
      rw [mem, tk1, List.mem_append, List.mem_singleton]
      refine ⟨.inl, fun q => q.elim id fun q => ?_⟩
      rw [q]
      exact (mem y).mp hm
    · refine add_x (s := { z with toks := z.toks + 1 }) e tx hm lt2 (k true _ _ (Nat.le_succ _) (Heap.SameBut.update ..) ?_)
      obtain ⟨m1, m2, m3⟩ := addTx_more (x := hashStr w y) (v := .str y t) ri
      refine ⟨addTx (hashStr w y) (.str y t) D, y :: zs, .str y t :: us, get_upd _ e rfl, add_ok t tx (k := y), m1, by rw [m2]; exact ld, List.nodup_cons.mpr ⟨hm, nd⟩, fun x => ?_, Nat.succ_le_succ len, .cons y t su, (m3.map (·.2)).trans (List.Perm.cons _ pm)⟩
      rw [List.mem_cons, mem, tk1, List.mem_append, List.mem_singleton, or_comm]
  · obtain ⟨D, zs, us, e, tx, ri, ld, nd, mem, len, su, pm⟩ := j
    rw [ly] at len
    refine next h' tk zs us kp nd (fun z => by rw [mem, ly, List.take_length]) len su ⟨D.1, D.2.1, D.2.2, ⟨_, e, rfl, rfl⟩, pm, tx.fit, ?_, ri, ld⟩
    have q := tx.sz
    show _ < 4096
    omega
end
theorem vals_strs : ∀ {us : List Value} {zs : List Str}, StrsAre us zs → Vals (zs.map V.str) us
  | _, _, .nil => .nil
  | _, _, .cons y t r => .cons ⟨t, rfl⟩ (vals_strs r)
section
variable {X : Cx}
def rSetTxD (K : PySem.W.Frag) (w : World) : List V → Hp → VK → Prop := fun xs H Q => ∃ (l : Addr) (ys : List Str), xs = [V.ref l] ∧ SqT K H l (ys.map V.str) ∧ ys.length < 4000 ∧
  ∀ (a : Addr) (us : List Value) (zs : List Str), zs.Nodup → (∀ z, z ∈ zs ↔ z ∈ ys) → zs.length ≤ ys.length → Vals (zs.map V.str) us → H a = none → Q (.ref a) (upd H a (SetM w a us))
theorem cr_setTxD (hc : X.calm = true) : CallR X (.type "set") (rSetTxD X.K X.w) := by
  intro pins s σ H xs us Q I r h
  obtain ⟨l, ys, rfl, hl, few, q⟩ := h
  rw [Vals.ref1 r]
  obtain ⟨its, rv, pl, _⟩ := I.tuple hl
  refine set_textsD (P := X.prog) (w := X.w) (items := its.toArray) (I.ok.hd hc) pl (strsAre_of rv) few fun h' tk zs us kp nd mem len su m => ?_
  exact ⟨.ref s.heap.objs.size, _, I.laid (t' := tk) kp (Nat.le_refl _) (setM_new m), rfl, q _ us zs nd mem len (vals_strs su) (I.hok.fresh (Nat.le_refl _))⟩
end
end Q
set_option Elab.async false
set_option linter.all false
set_option maxRecDepth 100000
set_option maxHeartbeats 4000000
/-! list(zip(t, u)) of two tuples: a new list of new pairs -/
namespace Q.ZL
open PySem PySem.Spec PyProof.Rows L2 RZ
open PySem.Sem (wp)
section
variable {prog : Program} {w : World} {A : Around} {E : Value → Shared → Prop} {s : Shared}
variable {z TI TO T i1 i2 l1 l2 : Addr} {f : Bool} {oT : Obj} {k1 k2 : Nat} {xs ys : Array Value} {x y : Value}
/-- the next pair, while the one before is still kept -/
theorem held_item {R : Option Value → Shared → Prop} (D : ZipApart z TI TO i1 i2 l1 l2) (zz : IsZipHeld s.heap z TI TO T f) (tt : s.heap.get? T = some oT) (ti : IsPair s.heap TI (.ref i1) (.ref i2))
    (j1 : s.heap.IsTupleIter i1 l1 k1) (j2 : s.heap.IsTupleIter i2 l2 k2) (t1 : s.heap.IsTuple l1 xs) (t2 : s.heap.IsTuple l2 ys) (e1 : xs[k1]? = some x) (e2 : ys[k2]? = some y)
    (go : ∀ h', IsZipHeld h' z TI TO T true → h'.IsTupleIter i1 l1 (k1 + 1) → h'.IsTupleIter i2 l2 (k2 + 1) → IsPair h' s.heap.objs.size x y → h'.objs.size = s.heap.objs.size + 1 →
      (∀ c o, c ≠ z → c ≠ i1 → c ≠ i2 → s.heap.get? c = some o → h'.get? c = some o) → R (some (.ref s.heap.objs.size)) { s with heap := h' }) :
    wpAny (model prog w) A (pyNext (.ref z)) R E s := by
  have ty : s.TypeIs (.ref z) "zip" := ⟨_, zz, rfl⟩
  unfold pyNext
  refine wpAny_bind (wpAny_attempt (wpAny_callSpecial?_slot (name := Str.ofString "__next__") ty F.slot_zip_next (wpAny_call_entry F.slot_zip_next ty F.entry_zip_next ?_ (F.args_zip_next_1 _))))
  show wpAny _ _ (field (.ref z) 2 >>= _) _ _ s
  refine wpAny_bind (wpAny_field zz rfl (x := .bool false) rfl (show wpAny _ _ (field (.ref z) 3 >>= _) _ _ s from wpAny_bind (wpAny_field zz rfl (x := .ref TI) rfl (wpAny_bind (wpAny_seqItems ti rfl ?_)))))
  show wpAny _ _ (Builtin.SmallTypes.ownedTupleIsFree (.ref z) >>= _) _ _ s
  refine wpAny_bind (wpAny_tupleHeld_zip zz tt fun g1 za sa => ?_)
  simp only [Bool.false_eq_true, if_false]
  refine wpAny_bind ?_
  rw [← Array.forIn_toList]
  simp only [List.forIn_cons, List.forIn_nil]
  refine wpAny_bind (wpAny_bind (wpAny_holding (show wpAny _ _ (Builtin.SmallTypes.nextOf (.ref i1) >>= _) _ _ _ from wpAny_bind (nextOf_tuple_item (s := { s with heap := g1 }) (j1.extBut sa.extBut D.i1z) (t1.extBut sa.extBut D.l1z) e1 fun g2 ja sb => wpAny_pure (wpAny_pure ?_)))))
  refine wpAny_bind (wpAny_bind (wpAny_holding (show wpAny _ _ (Builtin.SmallTypes.nextOf (.ref i2) >>= _) _ _ _ from wpAny_bind (nextOf_tuple_item (s := { s with heap := g2 }) ((j2.extBut sa.extBut D.i2z).extBut sb.extBut D.i12.symm) ((t2.extBut sa.extBut D.l2z).extBut sb.extBut D.l2i1) e2 fun g3 jb sc => wpAny_pure (wpAny_pure (wpAny_pure ?_))))))
  have zs : g3.objs.size = s.heap.objs.size := by rw [sc.1, sb.1, sa.1]
  have zc : IsZipHeld g3 z TI TO T true := sc.extBut _ _ D.i2z.symm (sb.extBut _ _ D.i1z.symm za)
  have kp : ∀ c o, c ≠ z → c ≠ i1 → c ≠ i2 → s.heap.get? c = some o → g3.get? c = some o := fun c o c1 c2 c3 e => sc.extBut _ _ c3 (sb.extBut _ _ c2 (sa.extBut _ _ c1 e))
  have jc : g3.IsTupleIter i1 l1 (k1 + 1) := ja.extBut sc.extBut D.i12
  show wpAny _ _ (newTuple [x, y] >>= _) _ _ { s with heap := g3 }
  refine wpAny_bind (wpAny_newTuple (wpAny_pure ⟨_, rfl, wpAny_pure ?_⟩))
  have pp : IsPair (g3.push { cls := .type "tuple", data := .seq #[x, y] }) g3.objs.size x y := Heap.get?_push_size _ rfl
  have pz : (g3.push { cls := .type "tuple", data := .seq #[x, y] }).objs.size = g3.objs.size + 1 := Heap.size_push ..
  show R (some (.ref g3.objs.size)) _
  rw [zs] at pp pz ⊢
  exact go _ (Heap.get?_push_of_some _ zc) (jc.at fun o e => Heap.get?_push_of_some _ e) (jb.at fun o e => Heap.get?_push_of_some _ e) pp pz fun c o c1 c2 c3 e => Heap.get?_push_of_some _ (kp c o c1 c2 c3 e)
theorem held_end {R : Option Value → Shared → Prop} (hh : A.handled = none) (D : ZipApart z TI TO i1 i2 l1 l2) (zz : IsZipHeld s.heap z TI TO T f) (tt : s.heap.get? T = some oT) (ti : IsPair s.heap TI (.ref i1) (.ref i2))
    (j1 : s.heap.IsTupleIter i1 l1 k1) (t1 : s.heap.IsTuple l1 xs) (e1 : xs[k1]? = none)
    (go : ∀ h', (∀ c o, c ≠ z → c ≠ i1 → c ≠ i2 → s.heap.get? c = some o → h'.get? c = some o) → R none { s with heap := h' }) : wpAny (model prog w) A (pyNext (.ref z)) R E s := by
  have ty : s.TypeIs (.ref z) "zip" := ⟨_, zz, rfl⟩
  unfold pyNext
  refine wpAny_bind (wpAny_attempt (wpAny_callSpecial?_slot (name := Str.ofString "__next__") ty F.slot_zip_next (wpAny_call_entry F.slot_zip_next ty F.entry_zip_next ?_ (F.args_zip_next_1 _))))
  show wpAny _ _ (field (.ref z) 2 >>= _) _ _ s
  refine wpAny_bind (wpAny_field zz rfl (x := .bool false) rfl (show wpAny _ _ (field (.ref z) 3 >>= _) _ _ s from wpAny_bind (wpAny_field zz rfl (x := .ref TI) rfl (wpAny_bind (wpAny_seqItems ti rfl ?_)))))
  show wpAny _ _ (Builtin.SmallTypes.ownedTupleIsFree (.ref z) >>= _) _ _ s
  refine wpAny_bind (wpAny_tupleHeld_zip zz tt fun g1 za sa => ?_)
  simp only [Bool.false_eq_true, if_false]
  refine wpAny_bind ?_
  rw [← Array.forIn_toList]
  simp only [List.forIn_cons, List.forIn_nil]
  refine wpAny_bind (wpAny_bind (wpAny_holding (show wpAny _ _ (Builtin.SmallTypes.nextOf (.ref i1) >>= _) _ _ _ from wpAny_bind (nextOf_tuple_end (s := { s with heap := g1 }) hh (j1.extBut sa.extBut D.i1z) (t1.extBut sa.extBut D.l1z) e1 fun g2 e sb he => ?_))))
  obtain ⟨o, ho, hc⟩ := he
  exact wpAny_bind (wpAny_isInstance (T := "StopIteration") (b := true) ⟨o, ho, hc⟩ isSubtype_stop (wpAny_pure (go _ fun c o c1 c2 _ e => sb _ _ c2 (sa.extBut _ _ c1 e))))
/-- how the zip stands while it is emptied into the list S -/
structure St (h : Heap) (S z TI TO i1 i2 l1 l2 k : Addr) (xs ys : Array Value) : Prop where
  D : ZipApart z TI TO i1 i2 l1 l2
  at_ : (IsZip h z TI TO .none ∧ ∃ a b, IsPair h TO a b) ∨ ∃ T f oT, IsZipHeld h z TI TO T f ∧ h.get? T = some oT ∧ S < T
  ti : IsPair h TI (.ref i1) (.ref i2)
  j1 : h.IsTupleIter i1 l1 k
  j2 : h.IsTupleIter i2 l2 k
  t1 : h.IsTuple l1 xs
  t2 : h.IsTuple l2 ys
  low : z < S ∧ TI < S ∧ TO < S ∧ i1 < S ∧ i2 < S ∧ l1 < S ∧ l2 < S
theorem St.keep {h h' : Heap} {S k : Addr} (q : St h S z TI TO i1 i2 l1 l2 k xs ys) (kp : ∀ b o, b ≠ S → h.get? b = some o → h'.get? b = some o) : St h' S z TI TO i1 i2 l1 l2 k xs ys := by
  obtain ⟨D, at_, ti, j1, j2, t1, t2, lz, lt, lo, la, lb, lc, ld⟩ := q
  refine ⟨D, ?_, kp _ _ (Nat.ne_of_lt lt) ti, j1.at fun o e => kp _ o (Nat.ne_of_lt la) e, j2.at fun o e => kp _ o (Nat.ne_of_lt lb) e, ?_, ?_, lz, lt, lo, la, lb, lc, ld⟩
  · rcases at_ with ⟨e, a, b, e2⟩ | ⟨T, f, oT, e, e2, l⟩
    · exact .inl ⟨kp _ _ (Nat.ne_of_lt lz) e, a, b, kp _ _ (Nat.ne_of_lt lo) e2⟩
    · exact .inr ⟨T, f, oT, kp _ _ (Nat.ne_of_lt lz) e, kp _ _ (Nat.ne_of_gt l) e2, l⟩
  · obtain ⟨o, e, r⟩ := t1
    exact ⟨o, kp _ _ (Nat.ne_of_lt lc) e, r⟩
  · obtain ⟨o, e, r⟩ := t2
    exact ⟨o, kp _ _ (Nat.ne_of_lt ld) e, r⟩
theorem St.item {S k : Addr} {R : Option Value → Shared → Prop} (q : St s.heap S z TI TO i1 i2 l1 l2 k xs ys) (hS : S < s.heap.objs.size) (e1 : xs[k]? = some x) (e2 : ys[k]? = some y)
    (go : ∀ h', St h' S z TI TO i1 i2 l1 l2 (k + 1) xs ys → IsPair h' s.heap.objs.size x y → (∀ c o, S ≤ c → s.heap.get? c = some o → h'.get? c = some o) → (∀ c o, c ∉ [z, TO, i1, i2] → s.heap.get? c = some o → h'.get? c = some o) → R (some (.ref s.heap.objs.size)) { s with heap := h' }) :
    wpAny (model prog w) A (pyNext (.ref z)) R E s := by
  obtain ⟨D, at_, ti, j1, j2, t1, t2, lz, lt, lo, la, lb, lc, ld⟩ := q
  have tk : ∀ {h' : Heap} {l : Addr} {us : Array Value}, (∀ c o, c ∉ [z, TO, i1, i2] → s.heap.get? c = some o → h'.get? c = some o) → l ∉ [z, TO, i1, i2] → s.heap.IsTuple l us → h'.IsTuple l us := fun kp n t => by
    obtain ⟨o, e, r⟩ := t
    exact ⟨o, kp _ _ n e, r⟩
  have n1 : l1 ∉ [z, TO, i1, i2] := by
    simp only [List.mem_cons, List.not_mem_nil, or_false, not_or]
    exact ⟨D.l1z, D.l1TO, D.l1i1, D.l1i2⟩
  have n2 : l2 ∉ [z, TO, i1, i2] := by
    simp only [List.mem_cons, List.not_mem_nil, or_false, not_or]
    exact ⟨D.l2z, D.l2TO, D.l2i1, D.l2i2⟩
  have nt : TI ∉ [z, TO, i1, i2] := by
    simp only [List.mem_cons, List.not_mem_nil, or_false, not_or]
    exact ⟨D.TIz, D.TITO, D.TIi1, D.TIi2⟩
  have hi : ∀ c, S ≤ c → c ∉ [z, TO, i1, i2] := fun c l => by
    simp only [List.mem_cons, List.not_mem_nil, or_false, not_or]
    exact ⟨Nat.ne_of_gt (Nat.lt_of_lt_of_le lz l), Nat.ne_of_gt (Nat.lt_of_lt_of_le lo l), Nat.ne_of_gt (Nat.lt_of_lt_of_le la l), Nat.ne_of_gt (Nat.lt_of_lt_of_le lb l)⟩
  rcases at_ with ⟨zz, a, b, to⟩ | ⟨T, f, oT, zz, tt, l⟩
  · refine pyNext_zipT_item D zz ti to j1 j2 t1 t2 e1 e2 fun h' z' to' j1' j2' pp sz kp => ?_
    have kp' : ∀ c o, c ∉ [z, TO, i1, i2] → s.heap.get? c = some o → h'.get? c = some o := fun c o n e => by
      simp only [List.mem_cons, List.not_mem_nil, or_false, not_or] at n
      exact kp c o n.1 n.2.1 n.2.2.1 n.2.2.2 e
    exact go h' ⟨D, .inr ⟨s.heap.objs.size, false, _, z', pp, hS⟩, kp' _ _ nt ti, j1', j2', tk kp' n1 t1, tk kp' n2 t2, lz, lt, lo, la, lb, lc, ld⟩ pp (fun c o h e => kp' c o (hi c h) e) kp'
  · refine held_item D zz tt ti j1 j2 t1 t2 e1 e2 fun h' z' j1' j2' pp sz kp => ?_
    have kp' : ∀ c o, c ∉ [z, TO, i1, i2] → s.heap.get? c = some o → h'.get? c = some o := fun c o n e => by
      simp only [List.mem_cons, List.not_mem_nil, or_false, not_or] at n
      exact kp c o n.1 n.2.2.1 n.2.2.2 e
    exact go h' ⟨D, .inr ⟨T, true, oT, z', kp' _ _ (hi T (Nat.le_of_lt l)) tt, l⟩, kp' _ _ nt ti, j1', j2', tk kp' n1 t1, tk kp' n2 t2, lz, lt, lo, la, lb, lc, ld⟩ pp (fun c o h e => kp' c o (hi c h) e) kp'
theorem St.done {S k : Addr} {R : Option Value → Shared → Prop} (hh : A.handled = none) (q : St s.heap S z TI TO i1 i2 l1 l2 k xs ys) (e1 : xs[k]? = none)
    (go : ∀ h', (∀ c o, c ∉ [z, TO, i1, i2] → s.heap.get? c = some o → h'.get? c = some o) → R none { s with heap := h' }) : wpAny (model prog w) A (pyNext (.ref z)) R E s := by
  obtain ⟨D, at_, ti, j1, j2, t1, t2, _⟩ := q
  rcases at_ with ⟨zz, a, b, to⟩ | ⟨T, f, oT, zz, tt, l⟩
  · exact pyNext_zipT_end hh D zz ti to j1 j2 t1 t2 (.inl e1) fun h' kp => go h' fun c o n e => by
      simp only [List.mem_cons, List.not_mem_nil, or_false, not_or] at n
      exact kp c o n.1 n.2.1 n.2.2.1 n.2.2.2 e
  · exact held_end hh D zz tt ti j1 t1 e1 fun h' kp => go h' fun c o n e => by
      simp only [List.mem_cons, List.not_mem_nil, or_false, not_or] at n
      exact kp c o n.1 n.2.2.1 n.2.2.2 e
/-- the pairs that have been laid -/
structure Prs (h : Heap) (S : Addr) (xs ys : Array Value) (as : List Addr) : Prop where
  rise : as.Pairwise (· < ·)
  above : ∀ a ∈ as, S < a
  at_ : ∀ (j : Nat) (a : Addr), as[j]? = some a → ∃ x y, xs[j]? = some x ∧ ys[j]? = some y ∧ IsPair h a x y
theorem Prs.lt {h : Heap} {S : Addr} {as : List Addr} (p : Prs h S xs ys as) {a : Addr} (m : a ∈ as) : a < h.objs.size := by
  obtain ⟨j, hj⟩ := List.getElem?_of_mem m
  obtain ⟨_, _, _, _, e⟩ := p.at_ j a hj
  exact Heap.lt_size e
theorem empties {S : Addr} {R : Result → Shared → Prop} (hh : A.handled = none) (res : Value) (few : xs.size ≤ sizeLine) (same : ys.size = xs.size) (h0 : Heap)
    (fin : ∀ h' tk acc c as, (∀ b o, b ∉ [S, z, TO, i1, i2] → h0.get? b = some o → h'.get? b = some o) → h'.get? S = some { cls := .type "list", dict := none, data := .seq acc c, slots := #[] } → as.length = xs.size → Prs h' S xs ys as →
      acc.toList = as.map Value.ref → R (.ok (.ret res)) { s with heap := h', toks := tk }) :
    ∀ (n i : Nat) (h : Heap) (tk c : Nat) (acc : Array Value) (as : List Addr), i + n = xs.size → St h S z TI TO i1 i2 l1 l2 i xs ys → (∀ b o, b ∉ [S, z, TO, i1, i2] → h0.get? b = some o → h.get? b = some o) →
      h.get? S = some { cls := .type "list", dict := none, data := .seq acc c, slots := #[] } → acc.toList = as.map Value.ref → as.length = i → Prs h S xs ys as →
      codeAny (model prog w) A (.builtin "list.extend.loop" ⟨[.ref S, .ref z, res], []⟩) R { s with heap := h, toks := tk } := fun n => by
  induction n with
  | zero =>
    intro i h tk c acc as hi q kp hS ha hl hp
    refine codeAny_builtin PySem.F.entry_extend_loop ?_
    rw [Around.under_plainId PySem.F.plain_extend_loop _]
    refine show wpAny _ A.in1 (pyNext (.ref z) >>= _) _ _ _ from wpAny_bind (St.done (s := { s with heap := h, toks := tk }) (A := A.in1) hh q (Array.getElem?_eq_none (by omega)) fun h' k' => ?_)
    have ns : ∀ c, S ≤ c → c ∉ [z, TO, i1, i2] := fun c l => by
      obtain ⟨lz, _, lo, la, lb, _⟩ := q.low
      simp only [List.mem_cons, List.not_mem_nil, or_false, not_or]
      exact ⟨Nat.ne_of_gt (Nat.lt_of_lt_of_le lz l), Nat.ne_of_gt (Nat.lt_of_lt_of_le lo l), Nat.ne_of_gt (Nat.lt_of_lt_of_le la l), Nat.ne_of_gt (Nat.lt_of_lt_of_le lb l)⟩
    refine wpAny_pure (fin h' tk acc c as (fun b o n e => k' b o (fun m => n (List.mem_cons_of_mem _ m)) (kp b o n e)) (k' S _ (ns S (Nat.le_refl _)) hS) (by omega) ⟨hp.rise, hp.above, fun j a hj => ?_⟩ ha)
    obtain ⟨x, y, e1, e2, e3⟩ := hp.at_ j a hj
    exact ⟨x, y, e1, e2, k' a _ (ns a (Nat.le_of_lt (hp.above a (List.mem_of_getElem? hj)))) e3⟩
  | succ n ih =>
    intro i h tk c acc as hi q kp hS ha hl hp
    have i1' : i < xs.size := by omega
    have i2' : i < ys.size := by omega
    have sz : acc.size = i := by rw [← Array.length_toList, ha, List.length_map, hl]
    have Sl : S < h.objs.size := Heap.lt_size hS
    refine codeAny_builtin PySem.F.entry_extend_loop ?_
    rw [Around.under_plainId PySem.F.plain_extend_loop _]
    refine show wpAny _ A.in1 (pyNext (.ref z) >>= _) _ _ _ from wpAny_bind (St.item (s := { s with heap := h, toks := tk }) (A := A.in1) q Sl (Array.getElem?_eq_getElem i1') (Array.getElem?_eq_getElem i2') fun h' q' pp kS kn => ?_)
    dsimp only at pp kS kn ⊢
    have hS' := kS S _ (Nat.le_refl _) hS
    have up : ∀ b o, b ≠ S → h'.get? b = some o → (h'.update S (Obj.mapSeq (·.push (Value.ref h.objs.size)))).get? b = some o := fun b o nb e => by
      rw [Heap.get?_update_other _ _ (Ne.symm nb)]
      exact e
    refine show wpAny _ A.in1 (updateSeq S (·.push (Value.ref h.objs.size)) >>= _) _ _ _ from wpAny_bind (wpAny_updateSeq hS' rfl (wpAny_pure ⟨plainId_quiet PySem.F.plain_extend_loop _, ?_⟩) (by rw [sz]; omega) (by show (acc.push (Value.ref h.objs.size)).size ≤ sizeLine + 1; rw [Array.size_push, sz]; omega))
    refine ih (i + 1) _ tk _ (acc.push (Value.ref h.objs.size)) (as ++ [h.objs.size]) (by omega) (q'.keep up) (fun b o nb e => up b o (fun z => nb (by rw [z]; exact List.mem_cons_self)) (kn b o (fun m => nb (List.mem_cons_of_mem _ m)) (kp b o nb e))) (Heap.get?_update_self _ hS' rfl)
      (by rw [Array.toList_push, ha, List.map_append]; rfl) (by rw [List.length_append, hl]; rfl) ⟨?_, ?_, ?_⟩
    · refine List.pairwise_append.mpr ⟨hp.rise, List.pairwise_singleton _ _, fun a m b mb => ?_⟩
      rw [List.mem_singleton.mp mb]
      exact hp.lt m
    · intro a m
      rcases List.mem_append.mp m with m | m
      · exact hp.above a m
      · rw [List.mem_singleton.mp m]
        exact Sl
    · intro j a hj
      by_cases lj : j < as.length
      · rw [List.getElem?_append_left lj] at hj
        obtain ⟨x, y, e1, e2, e3⟩ := hp.at_ j a hj
        have ab := hp.above a (List.mem_of_getElem? hj)
        exact ⟨x, y, e1, e2, up a _ (Nat.ne_of_gt ab) (kS a _ (Nat.le_of_lt ab) e3)⟩
      · rw [List.getElem?_append_right (by omega)] at hj
        obtain ⟨e0, e⟩ := List.getElem?_eq_some_iff.mp hj
        have e0 : j - as.length < 1 := e0
        have jj : j = i := by omega
        subst jj
        have ea : h.objs.size = a := by
          rw [← e]
          simp
        subst ea
        exact ⟨_, _, Array.getElem?_eq_getElem i1', Array.getElem?_eq_getElem i2', up _ _ (Nat.ne_of_gt Sl) pp⟩
theorem no_len : typeLookup (.type "zip") "__len__" = pure none := am_miss_of_fast (by decide +kernel)
theorem no_hint : typeLookup (.type "zip") "__length_hint__" = pure none := am_miss_of_fast (by decide +kernel)
/-- list(z) of a zip that nothing was drawn from -/
theorem call_list {Q : Value → Shared → Prop} (hh : A.handled = none) (few : xs.size ≤ sizeLine) (same : ys.size = xs.size) (D : ZipApart z TI TO i1 i2 l1 l2) (zz : IsZip s.heap z TI TO .none) (ti : IsPair s.heap TI (.ref i1) (.ref i2)) (to : ∃ a b, IsPair s.heap TO a b)
    (j1 : s.heap.IsTupleIter i1 l1 0) (j2 : s.heap.IsTupleIter i2 l2 0) (t1 : s.heap.IsTuple l1 xs) (t2 : s.heap.IsTuple l2 ys)
    (go : ∀ h' tk acc c as, (∀ b o, b ∉ [z, TO, i1, i2] → s.heap.get? b = some o → h'.get? b = some o) → h'.get? s.heap.objs.size = some { cls := .type "list", dict := none, data := .seq acc c, slots := #[] } → as.length = xs.size → Prs h' s.heap.objs.size xs ys as →
      acc.toList = as.map Value.ref → Q (.ref s.heap.objs.size) { s with heap := h', toks := tk }) :
    wpAny (model prog w) A (call (.type "list") [.ref z]) Q E s := by
  have lz : z < s.heap.objs.size := Heap.lt_size zz
  have nz : s.heap.objs.size ≠ z := Nat.ne_of_gt lz
  refine callType_codes (Q₁ := fun obj s₁ => obj = .ref s.heap.objs.size ∧ s₁ = { s with heap := s.heap.push { cls := .type "list", data := .seq #[] } }) F.called_list (F.typeCall_list_1 _) F.entry_list_init (code_list_new _ ⟨rfl, rfl⟩) fun obj s₁ h₁ => ?_
  obtain ⟨rfl, rfl⟩ := h₁
  have S1 : (s.heap.push { cls := .type "list", data := .seq #[] }).get? s.heap.objs.size = some { cls := .type "list", data := .seq #[] } := Heap.get?_push_size _ rfl
  refine ⟨⟨_, S1, rfl⟩, F.args_list_init_2 _ _, ?_⟩
  show wpAny _ A.in1.in1 (do let old ← Builtin.List.listItems (.ref s.heap.objs.size); Builtin.List.listUpdate (.ref s.heap.objs.size) (fun _ => #[]); letGo old.toList.reverse; Builtin.List.listExtendWith (.ref s.heap.objs.size) (.ref z) .none) _ _ _
  refine wpAny_bind ?_
  unfold Builtin.List.listItems
  refine wpAny_bind (wpAny_seqItems S1 rfl (wpAny_pure (show wpAny _ A.in1.in1 (updateSeq s.heap.objs.size (fun _ => #[]) >>= fun _ => letGo (#[] : Array Value).toList.reverse >>= fun _ => Builtin.List.listExtendWith (.ref s.heap.objs.size) (.ref z) .none) _ _ _ from wpAny_bind (wpAny_updateSeq S1 rfl (wpAny_bind (wpAny_letGo ?_))))))
  have S2 := Heap.get?_update_self (Obj.mapSeq (fun _ => (#[] : Array Value))) S1 rfl
  have up : ∀ (h : Heap) (g : Obj → Obj), (∀ b o, s.heap.get? b = some o → h.get? b = some o) → ∀ b o, s.heap.get? b = some o → (h.update s.heap.objs.size g).get? b = some o := fun h g q b o e => by
    rw [Heap.get?_update_other _ _ (Ne.symm (Nat.ne_of_lt (Heap.lt_size e)))]
    exact q b o e
  have k1 : ∀ b o, s.heap.get? b = some o → (s.heap.push { cls := .type "list", data := .seq #[] }).get? b = some o := fun b o e => Heap.get?_push_of_some _ e
  have k2 := up _ (Obj.mapSeq (fun _ => (#[] : Array Value))) k1
  unfold Builtin.List.listExtendWith
  have z2 := k2 _ _ zz
  have ty : ∀ {h : Heap} {tk : Nat}, IsZip h z TI TO .none → ({ s with heap := h, toks := tk } : Shared).TypeIs (.ref z) "zip" := fun {h tk} e => ⟨_, e, rfl⟩
  refine wpAny_bind (wpAny_typeOf (ty z2) ?_)
  have b1 : Builtin.List.listSameRef (.ref s.heap.objs.size) (.ref z) = false := by simp [Builtin.List.listSameRef, nz]
  have b2 : (Value.type "zip" == Value.type "list") = false := by decide
  have b3 : (Value.type "zip" == Value.type "tuple") = false := by decide
  simp only [b1, b2, b3, Bool.or_false, Bool.false_eq_true, if_false]
  refine wpAny_bind (wpAny_pyIter_zip z2 (wpAny_bind (wpAny_holding ?_)))
  unfold Builtin.List.listLengthHint
  refine wpAny_bind (wpAny_specialOf (ty z2) no_len (show wpAny _ A.in1.in1 (specialOf (Value.ref z) (Str.ofString "__length_hint__") >>= _) _ _ _ from wpAny_bind (wpAny_specialOf (ty z2) no_hint (wpAny_pure ?_))))
  show wpAny _ A.in1.in1 (rule "list.extend.makes-room" >>= fun _ => Builtin.List.listTouch (.ref s.heap.objs.size) >>= fun _ => again (.builtin "list.extend.loop" ⟨[.ref s.heap.objs.size, .ref z, .none], []⟩)) _ _ _
  refine wpAny_bind (wpAny_rule (wpAny_bind (show wpAny _ A.in1.in1 (updateSeq s.heap.objs.size (·.push .none) >>= fun _ => updateSeq s.heap.objs.size (·.pop)) _ _ _ from wpAny_bind (wpAny_updateSeq S2 rfl ?_))))
  have S3 := Heap.get?_update_self (Obj.mapSeq (·.push Value.none)) S2 rfl
  refine wpAny_updateSeq (hz := by seq_fits) S3 rfl ?_
  have S4 := Heap.get?_update_self (Obj.mapSeq (·.pop)) S3 rfl
  have k4 := up _ (Obj.mapSeq (·.pop)) (up _ (Obj.mapSeq (·.push Value.none)) k2)
  obtain ⟨a, b, to⟩ := to
  have lt_ : ∀ {l : Addr} {us : Array Value}, s.heap.IsTuple l us → l < s.heap.objs.size := fun t => by
    obtain ⟨o, e, _⟩ := t
    exact Heap.lt_size e
  have li_ : ∀ {i l : Addr} {k : Nat}, s.heap.IsTupleIter i l k → i < s.heap.objs.size := fun t => by
    obtain ⟨o, e, _⟩ := t
    exact Heap.lt_size e
  refine wpAny_pure ⟨plainId_quiet F.plain_extend_loop _, empties (s := s) (A := A.in1) hh .none few same s.heap (fun h' tk acc c as kp hS hl hp ha => ⟨rfl, go h' tk acc c as (fun b o n e => kp b o (fun m => ?_) e) hS hl hp ha⟩) xs.size 0 _ _ _ #[] [] (Nat.zero_add _)
    ⟨D, .inl ⟨k4 _ _ zz, a, b, k4 _ _ to⟩, k4 _ _ ti, j1.at fun o e => k4 _ o e, j2.at fun o e => k4 _ o e, ?_, ?_, lz, Heap.lt_size ti, Heap.lt_size to, li_ j1, li_ j2, lt_ t1, lt_ t2⟩ (fun b o _ e => k4 b o e) S4 rfl rfl ⟨List.Pairwise.nil, (fun _ m => (nomatch m)), (fun j a hj => by simp at hj)⟩⟩
  · obtain ⟨o, e, r⟩ := t1
    exact ⟨o, k4 _ _ e, r⟩
  · obtain ⟨o, e, r⟩ := t2
    exact ⟨o, k4 _ _ e, r⟩
  · rcases List.mem_cons.mp m with m | m
    · exact absurd (Heap.lt_size e) (by rw [m]; exact Nat.lt_irrefl _)
    · exact n m
end
end Q.ZL
set_option Elab.async false
set_option linter.all false
set_option maxRecDepth 100000
set_option maxHeartbeats 4000000
/-! list(zip(t, u)), by hand -/
namespace Q
open PySem PySem.Spec PyProof.Rows L2 RZ
/-- pairs tracked at their addresses -/
def putP : Hp → List Addr → List (V × V) → Hp
  | H, a :: as, p :: ps => putP (upd H a (.tup [p.1, p.2])) as ps
  | H, _, _ => H
theorem putP_off {b : Addr} : ∀ (as : List Addr) (ps : List (V × V)) (H : Hp), b ∉ as → putP H as ps b = H b
  | [], _, _, _ => rfl
  | _ :: _, [], _, _ => rfl
  | a :: as, p :: ps, H, h => by
    show putP (upd H a (.tup [p.1, p.2])) as ps b = _
    rw [putP_off as ps _ fun m => h (List.mem_cons_of_mem _ m)]
    exact upd_ne fun e => h (e ▸ List.mem_cons_self)
theorem putP_at : ∀ (as : List Addr) (ps : List (V × V)) (H : Hp), as.Nodup → ∀ (j : Nat) (a : Addr) (p : V × V), as[j]? = some a → ps[j]? = some p → putP H as ps a = some (.tup [p.1, p.2])
  | [], _, _, _, j, a, p, h, _ => by simp at h
  | _ :: _, [], _, _, j, a, p, _, h => by simp at h
  | a :: as, p :: ps, H, nd, 0, b, q, h1, h2 => by
    have e1 : a = b := by simpa using h1
    have e2 : p = q := by simpa using h2
    subst e1
    subst e2
    show putP (upd H a (.tup [p.1, p.2])) as ps a = _
    rw [putP_off as ps _ (List.nodup_cons.mp nd).1, upd_same]
  | a :: as, p :: ps, H, nd, j + 1, b, q, h1, h2 => putP_at as ps _ (List.nodup_cons.mp nd).2 j b q (by simpa using h1) (by simpa using h2)
/-- what list(zip(t, u)) promises of two tuples of one length -/
def rListZip (K : PySem.W.Frag) : List V → Hp → VK → Prop := fun vs H Q => ∃ (a b : Addr) (xs ys : List V), vs = [.ref a, .ref b] ∧ SqT K H a xs ∧ SqT K H b ys ∧ ys.length = xs.length ∧
  ∀ (H' : Hp) (p : Addr) (ts : List Addr), (∀ b o, H b = some o → H' b = some o) → H p = none → (∀ t ∈ ts, H t = none) → p ∉ ts → ts.Nodup → H' p = some (.lst (ts.map V.ref)) → ts.length = xs.length →
    (∀ (j : Nat) (t : Addr), ts[j]? = some t → ∃ x y, xs[j]? = some x ∧ ys[j]? = some y ∧ H' t = some (.tup [x, y])) → Q (.ref p) H'
def tListZip (K : PySem.W.Frag) (ta : TA) : TE := fun σ H Q => ta σ H fun vs H1 => rListZip K vs H1 Q
section
variable {X : Cx} {e e2 : Expr} {ta : TA} {p p2 q pos : Pos}
theorem zip_laid {pins : List (Addr × Obj)} {σ : L2.St} {H : Hp} {s : Shared} {h' : Heap} {tk c : Nat} {S : Addr} {xs ys : List V} {us ws : List Value} {acc : Array Value} {as : List Addr} (I : Inv X pins σ H s) (few : xs.length ≤ sizeLine) (vx : Vals xs us) (vy : Vals ys ws) (same : ys.length = xs.length) (hS0 : s.heap.objs.size ≤ S)
    (hk : ∀ b o, s.heap.get? b = some o → h'.get? b = some o) (hS : h'.get? S = some { cls := .type "list", dict := none, data := .seq acc c, slots := #[] }) (hl : as.length = xs.length) (hp : ZL.Prs h' S us.toArray ws.toArray as) (ha : acc.toList = as.map Value.ref) :
    ∃ H' : Hp, (∀ b o, H b = some o → H' b = some o) ∧ H S = none ∧ (∀ t ∈ as, H t = none) ∧ S ∉ as ∧ as.Nodup ∧ H' S = some (.lst (as.map V.ref)) ∧ (∀ (j : Nat) (t : Addr), as[j]? = some t → ∃ x y, xs[j]? = some x ∧ ys[j]? = some y ∧ H' t = some (.tup [x, y])) ∧ Inv X pins σ H' { s with heap := h', toks := tk } := by
  have nS : S ∉ as := fun m => Nat.lt_irrefl _ (hp.above _ m)
  have nd : as.Nodup := hp.rise.imp fun l => Nat.ne_of_lt l
  have new : ∀ t ∈ as, H t = none := fun t m => I.hok.fresh (Nat.le_trans hS0 (Nat.le_of_lt (hp.above t m)))
  have newS : H S = none := I.hok.fresh hS0
  have H'e : ∃ H', H' = putP (upd H S (.lst (as.map V.ref))) as (xs.zip ys) := ⟨_, rfl⟩
  obtain ⟨H', eH⟩ := H'e
  have pr : ∀ (j : Nat) (t : Addr), as[j]? = some t → ∃ x y, xs[j]? = some x ∧ ys[j]? = some y ∧ H' t = some (.tup [x, y]) := fun j t hj => by
    have jl : j < xs.length := by
      rw [← hl]
      exact (List.getElem?_eq_some_iff.mp hj).1
    have jy : j < ys.length := by omega
    refine ⟨xs[j], ys[j], List.getElem?_eq_getElem jl, List.getElem?_eq_getElem jy, ?_⟩
    rw [eH]
    exact putP_at as (xs.zip ys) _ nd j t (xs[j], ys[j]) hj (by rw [List.getElem?_zip_eq_some]; exact ⟨List.getElem?_eq_getElem jl, List.getElem?_eq_getElem jy⟩)
  have off : ∀ b, b ∉ as → b ≠ S → H' b = H b := fun b h1 h2 => by
    rw [eH, putP_off as _ _ h1, upd_ne h2]
  have eS : H' S = some (.lst (as.map V.ref)) := by
    rw [eH, putP_off as _ _ nS, upd_same]
  have kp : ∀ b u, H b = some u → H' b = some u := fun b u e => by
    rw [off b (fun z => by rw [new b z] at e; cases e) (fun z => by rw [z, newS] at e; cases e)]
    exact e
  have low : ∀ b o, s.heap.get? b = some o → b ∉ as ∧ b ≠ S := fun b o e =>
    ⟨fun z => Nat.lt_irrefl _ (Nat.lt_of_lt_of_le (Heap.lt_size e) (Nat.le_trans hS0 (Nat.le_of_lt (hp.above b z)))), Nat.ne_of_lt (Nat.lt_of_lt_of_le (Heap.lt_size e) hS0)⟩
  refine ⟨H', kp, newS, new, nS, nd, eS, pr, ?_⟩
  refine I.call' (ch := []) rfl ⟨fun b o q _ _ _ => hk b o q, fun b o q _ _ _ => ⟨o.slots, hk b o q⟩, fun b o q n _ => ?_, fun b o q _ => ⟨o, hk b o q⟩, fun b xs q => kp b _ q, fun b o u q => kp b _ q, fun b ps q => ⟨#[], by rw [kp b _ q]; simp⟩⟩ (fun b u q => ?_) I.bare fun b z => by simp at z
  · obtain ⟨z1, z2⟩ := low b o q
    rw [off b z1 z2]
    exact n
  · by_cases hb : b ∈ as
    · obtain ⟨j, hj⟩ := List.getElem?_of_mem hb
      obtain ⟨x, y, e1, e2, e3⟩ := pr j b hj
      obtain ⟨u, v, f1, f2, f3⟩ := hp.at_ j b hj
      rw [e3] at q
      cases q
      obtain ⟨u', g1, r1⟩ := vx.get e1
      obtain ⟨v', g2, r2⟩ := vy.get e2
      have q1 : us[j]? = some u := by simpa using f1
      have q2 : ws[j]? = some v := by simpa using f2
      rw [q1] at g1
      rw [q2] at g2
      cases g1
      cases g2
      exact ⟨by show 2 ≤ sizeLine; decide, [u, v], .cons r1 (.cons r2 .nil), ⟨_, f3, rfl, _, rfl⟩⟩
    · by_cases hb2 : b = S
      · rw [hb2] at q ⊢
        rw [eS] at q
        cases q
        refine ⟨by rw [List.length_map]; omega, acc.toList, c, by rw [ha]; exact LiI.vals_refs as, ?_⟩
        rw [Array.toArray_toList]
        exact hS
      · rw [off b hb hb2] at q
        exact (I.hok b u q).stay (fun d v _ y => hk d v y) (fun d y => kp d _ y) fun d xs y => kp d _ y
/-- list(zip(e, e2)) of two tuples -/
theorem pe_listZip (hc : X.calm = true) (hg : Gl X "list") (hm : X.mg "list" = none) (hg2 : Gl X "zip") (hm2 : X.mg "zip" = none) (ha : PA X [e, e2] ta)
    (hs : starEach [.Call (.Name "zip" p2) [e, e2] [] q] X.env = (false, eval (.Call (.Name "zip" p2) [e, e2] [] q) X.env) :: starEach [] X.env := by rfl)
    (hs2 : starEach [e, e2] X.env = (false, eval e X.env) :: starEach [e2] X.env := by rfl) (hpl : (backTo q (starEach [e2] X.env)).any (·.1) = false := by rfl) :
    PE X (.Call (.Name "list" p) [.Call (.Name "zip" p2) [e, e2] [] q] [] pos) (tListZip X.K ta) := by
  refine ⟨fun pins s σ H R I h => ?_⟩
  refine Call_ (ld_blt I hg hm boot_list ?_)
  refine PyProof.Rows.callWith_type1 ?_ hs rfl
  rw [hs]
  show wpAny _ _ (spliced ((false, eval (.Call (.Name "zip" p2) [e, e2] [] q) X.env) :: backTo pos (starEach [] X.env))) _ _ s
  refine Calls.spliced_cons ?_
  refine Call_ (ld_blt I hg2 hm2 boot_zip (PyProof.Rows.callWith_type1 (thn (ha.run q pins s σ H _ I h) fun us s1 ⟨vs, H1, I1, r1, q1⟩ => ?_) hs2 hpl))
  obtain ⟨a, b, xs, ys, ex, hx, hy, same, go⟩ := q1
  subst ex
  cases r1 with
  | cons r rr =>
    cases rr with
    | cons r' rr =>
      cases rr
      cases r
      cases r'
      obtain ⟨its, rv, t1, few⟩ := I1.tuple hx
      obtain ⟨its2, rv2, t2, _⟩ := I1.tuple hy
      obtain ⟨o1, ho1, _⟩ := id t1
      obtain ⟨o2, ho2, _⟩ := id t2
      have l1 := rv.length
      have l2 := rv2.length
      refine call_zipT (show s1.heap.IsTuple a its.toArray from t1) (show s1.heap.IsTuple b its2.toArray from t2) fun h' zz ti to j1 j2 sz hk => ?_
      refine Calls.spliced_nil ?_
      refine ZL.call_list (I1.ok.hd hc) (show its.length ≤ sizeLine by omega) (show its2.length = its.length by omega) (PySem.W.ktu_apart s1.heap.objs.size a b (Heap.lt_size ho1) (Heap.lt_size ho2)) zz ti ⟨_, _, to⟩ j1 j2 ?_ ?_ fun h2 tk acc c as kp hS hl hp ea => ?_
      · obtain ⟨o, e, r⟩ := t1
        exact ⟨o, hk _ _ e, r⟩
      · obtain ⟨o, e, r⟩ := t2
        exact ⟨o, hk _ _ e, r⟩
      · have hk2 : ∀ b o, s1.heap.get? b = some o → h2.get? b = some o := fun b o e => kp b o (fun m => by
          have lt := Heap.lt_size e
          simp only [List.mem_cons, List.not_mem_nil, or_false] at m
          rcases m with m | m | m | m
          · rw [m] at lt
            exact Nat.lt_irrefl _ (Nat.lt_of_le_of_lt (Nat.le_add_right _ 4) lt)
          · rw [m] at lt
            exact Nat.lt_irrefl _ (Nat.lt_of_le_of_lt (Nat.le_add_right _ 3) lt)
          · rw [m] at lt
            exact Nat.lt_irrefl _ lt
          · rw [m] at lt
            exact Nat.lt_irrefl _ (Nat.lt_of_le_of_lt (Nat.le_add_right _ 1) lt)) (hk b o e)
        obtain ⟨H', k1, k2, k3, k4, k5, k6, k7, J⟩ := zip_laid (tk := tk) I1 few rv rv2 same (show s1.heap.objs.size ≤ h'.objs.size by rw [sz]; exact Nat.le_add_right _ 5) hk2 hS (by rw [hl, List.size_toArray, l1]) hp ea
        exact ⟨.ref _, H', J, rfl, go H' _ as k1 k2 k3 k4 k5 k6 (by rw [hl, List.size_toArray, l1]) k7⟩
end
end Q
set_option Elab.async false
set_option linter.all false
set_option maxRecDepth 100000
namespace Q
open PySem PySem.Spec PyProof.Rows L2
/-- len(s), whatever else the set carries -/
theorem len_set {prog : Program} {w : World} {A : Around} {E : Value → Shared → Prop} {s : Shared} {a : Addr} {o : Obj} {es : Array (Int × Value)} {ep : Nat} {t : SetTable} {R : Value → Shared → Prop}
    (at_ : s.heap.get? a = some o) (cls : o.cls = .type "set") (dat : o.data = .set es ep t) (fit : t.fits es.size = true) (few : (es.size : Int) < 2 ^ 63)
    (go : R (.int es.size (s.toks + 1)) { s with toks := s.toks + 1 + 1 }) : wpAny (model prog w) A (call (.builtin "len") [.ref a]) R E s := by
  have ty : s.TypeIs (.ref a) "set" := ⟨o, at_, cls⟩
  refine Calls.call_function_entry kind_len plain_len entry_len (args_len1 _) (show wpAny _ _ (Builtin.«len» ⟨[.ref a], []⟩) _ _ s from ?_)
  unfold Builtin.«len»
  refine wpAny_bind (m := oneArg "len" _) (wpAny_pure (wpAny_bind (m := callSpecial? (.ref a) (Str.ofString "__len__")) (wpAny_callSpecial?_slot (name := Str.ofString "__len__") ty F.slot_set_len (wpAny_call_entry F.slot_set_len ty entry_set_len ?_ (F.args_set_len_1 _)))))
  unfold Builtin.«frozenset.__len__» Builtin.Frozenset.slot0 slotArgs
  simp only [List.isEmpty_nil, List.length_nil, Bool.not_true, bne_self_eq_false, Bool.false_eq_true, bind_assoc, ↓reduceIte]
  unfold Builtin.Frozenset.sizeOf Builtin.Frozenset.addrOf
  refine wpAny_bind (wpAny_pure ?_)
  try dsimp only
  refine wpAny_bind (wpAny_pure (wpAny_bind (wpAny_bind (wpAny_setEntries_of at_ dat fit (wpAny_pure (show wpAny _ _ (retInt _) _ _ s from ?_))))))
  unfold retInt
  refine wpAny_bind (wpAny_mkInt (wpAny_pure ⟨_, rfl, ?_⟩))
  refine wpAny_bind (wpAny_holding (wpAny_pure (wpAny_bind (wpAny_letGo (show wpAny _ _ (if ((es.size : Nat) : Int) < 0 then _ else _) _ _ _ from ?_)))))
  rw [if_neg (by omega)]
  refine show wpAny _ _ (if ((es.size : Nat) : Int) ≥ 2 ^ 63 then _ else _) _ _ _ from ?_
  rw [if_neg (by omega)]
  exact wpAny_bind (wpAny_mkInt (wpAny_pure ⟨_, rfl, go⟩))
/-- .. of a set whose members are known -/
theorem cr_lenSet {X : Cx} : CallR X (.builtin "len") (fun xs H Q => ∃ (a : Addr) (us : List Value), xs = [V.ref a] ∧ H a = some (SetM X.w a us) ∧ us.length ≤ 100000 ∧ Q (.int (us.length : Nat)) H) := by
  intro pins s σ H xs vs Q I r h
  obtain ⟨a, us, rfl, hs, few, q⟩ := h
  rw [Vals.ref1 r]
  obtain ⟨m, _, _⟩ := I.hok a _ hs
  obtain ⟨es, ep, t, ⟨o, ho, hc, hd⟩, pm, hf, _⟩ := m
  have e : es.size = us.length := by
    have := pm.length_eq
    rw [List.length_map] at this
    exact this
  exact len_set ho hc hd hf (by rw [e]; omega) ⟨.int us.length, H, I.tok _, ⟨_, by rw [e]⟩, q⟩
end Q
set_option Elab.async false
set_option linter.all false
set_option maxRecDepth 100000
set_option maxHeartbeats 4000000
/-! set(xs) of tuples of texts and whole numbers, whatever comes twice -/
namespace Q
open PySem PySem.Spec PyProof.Rows L2 PySem.W
section
variable {P : Program} {w : World} {A : Around} {E : Value → Shared → Prop} {s : Shared} {a : Addr} {es : Array (Int × Value)} {ep : Nat} {t : SetTable}
/-- a key that is there: the search meets it ahead of the first empty slot -/
theorem search_seen (R : Bag P w s.heap a es ep t) {x : Addr} {k : List Key} (hx : TupAt P w s.heap k x) (hu : A.units < cLine)
    {i0 : Nat} {b0 : Addr} (h0 : es.toList[i0]? = some (tkh P w k, Value.ref b0)) (x0 : TupAt P w s.heap k b0) {K : Nat} (hK1 : K < 10 * SetTable.turns t.mask)
    (hK2 : (spot t.mask (tkh P w k) K).j ∉ t.place.toList) (hK3 : ∀ c, c < K → (spot t.mask (tkh P w k) c).j ∈ t.place.toList)
    {c0 : Nat} (hc0 : c0 < K) (p0 : t.place.toList[i0]? = some (spot t.mask (tkh P w k) c0).j)
    {Q : SetFound → Shared → Prop} (next : Q (.there none) s) :
    ∀ (f c : Nat) (stand : Option SetTable.Probe), stand.getD (t.probeStart (tkh P w k)) = spot t.mask (tkh P w k) c → c ≤ c0 → K - c < f →
      wpAny (model P w) A (setSearchFrom a (.ref x) (tkh P w k) true f stand) Q E s := by
  obtain ⟨o, ho, hex, hd⟩ := R.ob
  have at0 : (es[i0]?.map (·.1)).getD 0 = tkh P w k := by
    rw [Array.getElem?_toList] at h0
    rw [h0]
    rfl
  intro f
  induction f with
  | zero => exact fun c stand _ _ z => absurd z (Nat.not_lt_zero _)
  | succ f ih =>
    intro c stand st hc hf
    rw [setSearchFrom_succ]
    refine wpAny_bind (wpAny_setState_of ho hd R.fits ?_)
    dsimp only
    refine wp_if_neg (by unfold SetTable.gaveWay; rw [mask_odd R.tab.mok]; decide) ?_
    try refine wpAny_bind (wpAny_pure ?_)
    have spec := go_spec t R.tab.ris R.tab.dm (fun i => (es[i]?.map (·.1)).getD 0) (tkh P w k) (10 * SetTable.turns t.mask) (K - c) (spot t.mask (tkh P w k) c) (spot_dummy _ _ _) (by omega)
      (fun d hd => by rw [spot_shift]; exact hK3 _ (by omega)) (by rw [spot_shift, Nat.add_sub_cancel' (by omega)]; exact hK2)
    rcases spec with ⟨d, i, hd1, hi, hh, first, pr⟩ | ⟨never, _⟩
    · rw [spot_shift] at hi
      rw [spot_shift, spot_shift] at pr
      have pr2 : t.probe (fun i => (es[i]?.map (·.1)).getD 0) (tkh P w k) (stand.getD (t.probeStart (tkh P w k))) = some (.candidate (spot t.mask (tkh P w k) (c + d)).j i (spot t.mask (tkh P w k) (c + (d + 1)))) := by
        rw [st]
        exact pr
      rw [pr2]
      dsimp only
      -- the one that is sought has not been passed
      have behind : c + d ≤ c0 := by
        rcases Nat.lt_or_ge c0 (c + d) with z | z
        · exfalso
          refine first (c0 - c) i0 (by omega) ?_ at0
          rw [spot_shift, Nat.add_sub_cancel' hc]
          exact p0
        · exact z
      have il : i < es.size := by
        have q1 := (List.getElem?_eq_some_iff.mp hi).1
        have q2 := R.tab.sz
        rw [List.length_map, Array.length_toList] at q2
        rw [Array.length_toList] at q1
        omega
      have ei : es[i]? = some es[i] := Array.getElem?_eq_getElem il
      have em : es[i] ∈ es.toList := Array.getElem_mem_toList il
      obtain ⟨b, k2, e2, xb⟩ := R.el _ em
      rw [e2] at ei
      have onward : wpAny (model P w) A (searchRest a (.ref x) (tkh P w k) true f es t (spot t.mask (tkh P w k) (c + d)).j i (spot t.mask (tkh P w k) (c + (d + 1)))) Q E s := by
        unfold searchRest
        rw [ei]
        dsimp only
        refine wpAny_bind (wpAny_holding (wpAny_eqBool_tuple hu xb hx ?_))
        refine wpAny_bind (wpAny_setState_of ho hd R.fits ?_)
        dsimp only
        by_cases same : k2 = k
        · refine wp_if_pos (by simp [same]) ?_
          exact wpAny_pure next
        · refine wp_if_neg (by simp [same]) ?_
          try refine wpAny_bind (wpAny_pure ?_)
          rw [sameMem]
          dsimp only
          have live := slot_live R.tab.ris hi
          simp only [if_true, live, ei]
          refine wpAny_bind (wpAny_isSame_ref_self (wpAny_bind (wpAny_pure ?_)))
          simp only [if_true]
          refine wp_if_neg (by simp [same]) ?_
          have further : c + (d + 1) ≤ c0 := by
            rcases Nat.lt_or_ge (c + d) c0 with z | z
            · omega
            · exfalso
              have e : c0 = c + d := by omega
              rw [e] at p0
              have l2 := slot_live R.tab.ris p0
              rw [live] at l2
              injection l2 with l2
              rw [Array.getElem?_toList, ← l2, ei] at h0
              injection h0 with h0
              injection h0 with h1 h2
              injection h2 with h2
              rw [h2] at xb
              exact same (xb.inj x0)
          exact ih (c + (d + 1)) _ rfl further (by omega)
      by_cases hl : t.led = true
      · refine wp_if_neg (by simp [hl]) ?_
        try refine wpAny_bind (wpAny_pure ?_)
        exact onward
      · refine wp_if_pos (by simp [hl]) ?_
        refine wpAny_bind (tup_seen hx (fun y hy => ?_) ?_)
        · obtain ⟨e, he, ee⟩ := List.mem_map.mp hy
          have inE : e ∈ es.toList := by
            have z : e ∈ es ∧ e.1 = tkh P w k := by simpa using he
            simpa using z.1
          obtain ⟨b2, k3, e3, x3⟩ := R.el e inE
          exact ⟨b2, k3, by rw [← ee, e3], x3⟩
        · refine wp_if_neg (by decide) ?_
          try refine wpAny_bind (wpAny_pure ?_)
          exact onward
    · exfalso
      refine never (c0 - c) i0 (by omega) ?_ at0
      rw [spot_shift, Nat.add_sub_cancel' hc]
      exact p0
/-- a tuple that is there already comes once more -/
theorem add_seen (R : Bag P w s.heap a es ep t) {x : Addr} {k : List Key} (hx : TupAt P w s.heap k x) (hu : A.units < cLine)
    {b0 : Addr} (h0 : (tkh P w k, Value.ref b0) ∈ es.toList) (x0 : TupAt P w s.heap k b0) {Q : Bool → Shared → Prop} (next : Q false s) :
    wpAny (model P w) A (setAddHashed a (.ref x) (tkh P w k)) Q E s := by
  obtain ⟨o, ho, hex, hd⟩ := R.ob
  have room := R.room
  have lh : (es.toList.map (·.1)).length = es.size := by rw [List.length_map, Array.length_toList]
  obtain ⟨K, hK1, hK2, hK3⟩ := R.tab.first (by rw [lh]; omega) (tkh P w k)
  have hK4 : K < 100000 := by
    have q : 10 * SetTable.turns t.mask ≤ 1420 := by
      unfold SetTable.turns
      rcases R.tab.mok with e | e | e <;> omega
    omega
  obtain ⟨i0, hi0, e0⟩ := List.getElem_of_mem h0
  have g0 : es.toList[i0]? = some (tkh P w k, Value.ref b0) := by rw [List.getElem?_eq_getElem hi0, e0]
  have gh : (es.toList.map (·.1))[i0]? = some (tkh P w k) := by
    rw [List.getElem?_map, g0]
    rfl
  have lp : i0 < t.place.toList.length := by
    have q := R.tab.sz
    rw [lh] at q
    rw [Array.length_toList] at hi0 ⊢
    omega
  obtain ⟨c0, hc0, ec0⟩ := R.tab.before hK2 gh (List.getElem?_eq_getElem lp)
  have p0 : t.place.toList[i0]? = some (spot t.mask (tkh P w k) c0).j := by
    rw [List.getElem?_eq_getElem lp, ← ec0]
  unfold setAddHashed
  refine wpAny_holding ?_
  rw [show (100000 : Nat) = 99999 + 1 from rfl, setAddHashedIn_succ]
  refine wpAny_bind (wpAny_setState_of ho hd R.fits ?_)
  dsimp only
  refine wp_if_neg (by simp [byScan, Value.scannable]) ?_
  try refine wpAny_bind (wpAny_pure ?_)
  unfold setSearch
  refine wpAny_bind (search_seen R hx hu g0 x0 hK1 hK2 hK3 hc0 p0 ?_ 100000 0 none rfl (Nat.zero_le _) (by omega))
  dsimp only
  exact wpAny_pure next
/-- behind i tuples: those met so far, each once -/
def TupD (P : Program) (w : World) (S : Addr) (h0 : Heap) (ks : List (Addr × List Key)) (i : Nat) (h : Heap) : Prop :=
  (∀ b o, h0.get? b = some o → h.get? b = some o) ∧ ∃ (es : Array (Int × Value)) (ep : Nat) (t : SetTable) (L : List (Addr × List Key)), Bag P w h S es ep t ∧ es.toList.Perm (L.map fun p => (tkh P w p.2, Value.ref p.1)) ∧
    (∀ p ∈ L, p ∈ ks.take i) ∧ (∀ p ∈ ks.take i, p.2 ∈ L.map (·.2)) ∧ (L.map (·.2)).Nodup ∧ L.length ≤ i
theorem set_tupsD {l : Addr} {items : Array Value} {ks : List (Addr × List Key)} {Q : Value → Shared → Prop} (hh : A.handled = none) (hu : A.units + 3 < cLine) (hl : s.heap.IsList l items)
    (it : items.toList = ks.map fun p => Value.ref p.1) (tp : ∀ p ∈ ks, TupAt P w s.heap p.2 p.1) (few : ks.length < 64)
    (next : ∀ (h' : Heap) (tk : Nat) (L : List (Addr × List Key)), (∀ b o, s.heap.get? b = some o → h'.get? b = some o) → (∀ p ∈ L, p ∈ ks) → (∀ p ∈ ks, p.2 ∈ L.map (·.2)) → (L.map (·.2)).Nodup → L.length ≤ ks.length → Members w h' s.heap.objs.size (L.map fun p => Value.ref p.1) → Q (.ref s.heap.objs.size) { s with heap := h', toks := tk }) :
    wpAny (model P w) A (call (.type "set") [.ref l]) Q E s := by
  have lk : items.size = ks.length := by rw [← Array.length_toList, it, List.length_map]
  have none_ : ∀ b, s.heap.objs.size ≤ b → ∀ c o, s.heap.get? c = some o → c ≠ b := fun b hb c o q e => by
    have lt := Heap.lt_size q
    rw [e] at lt
    exact absurd (Nat.lt_of_lt_of_le lt hb) (Nat.lt_irrefl _)
  refine set_filled (TupD P w s.heap.objs.size s.heap ks) hh hl ?_ (fun i h h' j k => ?_) (fun E i v z Q lt pv j k => ?_) fun h' tk kp j => ?_
  · refine ⟨fun b o q => laid_old q, #[], 0, .fresh 0 0 (!w.params.followText "set-order"), [], ⟨⟨_, laid_set _ _, ⟨rfl, rfl, rfl⟩, rfl⟩, ?_, fun e he => (by cases he), ?_, ?_, ?_⟩, .nil, fun p hp => (nomatch hp), fun p hp => (by simp at hp), .nil, Nat.le_refl _⟩
    · exact ⟨List.Pairwise.nil, rfl, rfl, .inl rfl, fun x hx => (by cases hx), fun i x j hi => (by simp at hi)⟩
    · show _ ∨ (!w.params.followText "set-order") = true
      cases w.params.followText "set-order"
      · exact .inr rfl
      · exact .inl rfl
    · show 0 * 5 < 7 * 3
      decide
    · show 0 < 64
      decide
  · obtain ⟨old, es, ep, t, L, B, pm, sub, all, nd, le⟩ := j
    have kb : ∀ b o, s.heap.get? b = some o → h'.get? b = some o := fun b o q => k b o (none_ _ (by rw [Heap.size_push]; exact Nat.le_succ _) b o q) (old b o q)
    obtain ⟨o, ho, rest⟩ := B.ob
    refine ⟨kb, es, ep, t, L, ⟨⟨o, k _ _ ?_ ho, rest⟩, B.tab, fun e he => ?_, B.led, B.room, B.few⟩, pm, sub, all, nd, le⟩
    · rw [Heap.size_push]
      exact Nat.ne_of_lt (Nat.lt_succ_self _)
    · obtain ⟨p, hp, ep⟩ := List.mem_map.mp (pm.mem_iff.mp he)
      exact ⟨p.1, p.2, ep.symm, (tp p (List.mem_of_mem_take (sub p hp))).mono fun o q => kb _ o q⟩
  · obtain ⟨old, es, ep, t, L, B, pm, sub, all, nd, le⟩ := j
    have sz : es.size = L.length := by
      have q := pm.length_eq
      rw [List.length_map, Array.length_toList] at q
      exact q
    have hi : i < ks.length := by omega
    have ev : v = .ref ks[i].1 := by
      have q : items.toList[i]? = some v := by rw [Array.getElem?_toList]; exact pv
      rw [it, List.getElem?_map, List.getElem?_eq_getElem hi] at q
      exact (Option.some.inj q).symm
    have eg : ks[i]? = some ks[i] := List.getElem?_eq_getElem hi
    have hm : ks[i] ∈ ks := List.getElem_mem hi
    generalize ks[i] = p at ev eg hm
    subst ev
    have e3 : ks.take (i + 1) = ks.take i ++ [p] := by
      rw [List.take_add_one, eg]
      rfl
    have xp : TupAt P w z.heap p.2 p.1 := (tp p hm).mono fun o q => old _ o q
    have xl : ∀ q ∈ L, TupAt P w z.heap q.2 q.1 := fun q hq => (tp q (List.mem_of_mem_take (sub q hq))).mono fun o z => old _ o z
    have sub2 : ∀ q ∈ L, q ∈ ks.take (i + 1) := fun q hq => by
      rw [e3]
      exact List.mem_append_left _ (sub q hq)
    unfold setAdd
    refine wpAny_holding ?_
    refine wpAny_bind (wpAny_pyHash_tuple (by show A.units + 3 < cLine; exact hu) xp ?_)
    by_cases there : p.2 ∈ L.map (·.2)
    · obtain ⟨p2, hp2, ek⟩ := List.mem_map.mp there
      have x2 := xl p2 hp2
      rw [ek] at x2
      refine add_seen (s := { z with toks := z.toks + (p.2.length + 1) }) B xp (by show A.units + 3 < cLine; exact hu) (b0 := p2.1) (pm.mem_iff.mpr (List.mem_map.mpr ⟨p2, hp2, by rw [ek]⟩)) x2 (k false z.heap _ (Nat.le_add_right _ _) (Heap.SameBut.refl _ _) ⟨old, es, ep, t, L, B, pm, sub2, fun q hq => ?_, nd, by omega⟩)
      rw [e3] at hq
      rcases List.mem_append.mp hq with hq | hq
      · exact all q hq
      · rw [List.mem_singleton.mp hq]
        exact there
    · refine add_new (s := { z with toks := z.toks + (p.2.length + 1) }) B xp (by show A.units + 3 < cLine; exact hu) (fun e he b k2 ee xb => ?_) (by omega) fun h' es2 ep2 t2 sb B2 pm2 => ?_
      · obtain ⟨p2, hp2, e2⟩ := List.mem_map.mp (pm.mem_iff.mp he)
        rw [ee] at e2
        injection e2 with _ e4
        injection e4 with e4
        have x2 := xl p2 hp2
        rw [e4] at x2
        have ek : k2 = p2.2 := xb.inj x2
        rw [ek]
        exact fun same => there (List.mem_map.mpr ⟨p2, hp2, same⟩)
      · refine k true h' _ (Nat.le_add_right _ _) sb ⟨fun b o q => ?_, es2, ep2, t2, p :: L, B2, pm2.trans (List.Perm.cons _ pm), fun q hq => ?_, fun q hq => ?_, List.nodup_cons.mpr ⟨there, nd⟩, by rw [List.length_cons]; omega⟩
        · rw [sb.2 b (none_ _ (Nat.le_refl _) b o q)]
          exact old b o q
        · rcases List.mem_cons.mp hq with rfl | hq
          · rw [e3]
            exact List.mem_append_right _ List.mem_cons_self
          · exact sub2 q hq
        · rw [e3] at hq
          rcases List.mem_append.mp hq with hq | hq
          · exact List.mem_cons_of_mem _ (all q hq)
          · rw [List.mem_singleton.mp hq]
            exact List.mem_cons_self
  · obtain ⟨old, es, ep, t, L, B, pm, sub, all, nd, le⟩ := j
    have el : ks.take items.size = ks := List.take_of_length_le (by omega)
    rw [el] at sub all
    rw [lk] at le
    have sz : es.size = L.length := by
      have q := pm.length_eq
      rw [List.length_map, Array.length_toList] at q
      exact q
    obtain ⟨o, ho, hex, hd⟩ := B.ob
    refine next h' tk L kp sub all nd le ?_
    have pm2 := pm.map (fun e : Int × Value => e.2)
    rw [List.map_map] at pm2
    exact ⟨es, ep, t, ⟨o, ho, hex.1, hd⟩, pm2, tab_fits B.tab (by have := B.room; omega), by rw [sz]; show _ < 4096; omega, B.tab.ris, B.led⟩
end
section
variable {X : Cx} {pins : List (Addr × Obj)} {σ : L2.St} {H : Hp} {s : Shared}
/-- set(xs), xs a list of tuples of texts and numbers -/
def rSetTuD (K : PySem.W.Frag) (w : World) : List V → Hp → VK → Prop := fun xs H Q => ∃ (l : Addr) (ks : List (Addr × List Key)), xs = [V.ref l] ∧ SqL K H l (ks.map fun p => V.ref p.1) ∧
  (∀ p ∈ ks, SqT K H p.1 (p.2.map kV)) ∧ ks.length < 64 ∧ ∀ (a : Addr) (L : List (Addr × List Key)), (∀ p ∈ L, p ∈ ks) → (∀ p ∈ ks, p.2 ∈ L.map (·.2)) → (L.map (·.2)).Nodup → L.length ≤ ks.length → H a = none → Q (.ref a) (upd H a (SetM w a (L.map fun p => Value.ref p.1)))
theorem cr_setTuD (hc : X.calm = true) (hu : X.A.units + 3 < cLine) : CallR X (.type "set") (rSetTuD X.K X.w) := by
  intro pins s σ H xs us Q I r h
  obtain ⟨l, ks, rfl, hl, hk, few, q⟩ := h
  rw [Vals.ref1 r]
  obtain ⟨its, rv, pl, _⟩ := I.list hl
  have ei := vals_rows rv
  refine set_tupsD (P := X.prog) (w := X.w) (items := its.toArray) (ks := ks) (I.ok.hd hc) hu pl.isList (by simpa using ei) (fun p hp => tupAt_of I (hk p hp)) few fun h' tk L kp sub all nd le m => ?_
  exact ⟨.ref s.heap.objs.size, _, I.laid (t' := tk) kp (Nat.le_refl _) (setM_new m), rfl, q _ L sub all nd le (I.hok.fresh (Nat.le_refl _))⟩
/-! the order of rows of texts, of any lengths -/
def rowLt : List Str → List Str → Bool
  | [], [] => false
  | [], _ :: _ => true
  | _ :: _, [] => false
  | a :: as, b :: bs => if a = b then rowLt as bs else decide (tLt a b)
theorem row_lt (ks ls : List Str) : dataLt (.tuple (ks.map PyData.str)) (.tuple (ls.map PyData.str)) = rowLt ks ls := by
  have main : ∀ ks ls : List Str, lexLt itemOrd (keyToksAll (ks.map PyData.str)) (keyToksAll (ls.map PyData.str)) = rowLt ks ls := by
    intro ks
    induction ks with
    | nil =>
      intro ls
      cases ls with
      | nil => exact lex_irrefl _
      | cons b ls =>
        rw [List.map_nil, List.map_cons, keyToksAll, keyToksAll]
        rfl
    | cons a ks ih =>
      intro ls
      cases ls with
      | nil =>
        rw [List.map_nil, List.map_cons, keyToksAll, keyToksAll]
        rfl
      | cons b ls =>
        rw [List.map_cons, List.map_cons, dataLt_cons (by simp [alike]), ih ls]
        unfold rowLt
        by_cases e : a = b
        · rw [if_pos e, if_pos (by simp [PyData.eqv, e])]
          cases ks <;> cases ls <;> rfl
        · rw [if_neg e, if_neg (by simp [PyData.eqv, e]), dataLt_str]
  rw [dataLt_tuple]
  exact main ks ls
theorem rowLt_total : ∀ {ks ls : List Str}, ks ≠ ls → rowLt ls ks = false → rowLt ks ls = true
  | [], [], ne, _ => absurd rfl ne
  | [], _ :: _, _, _ => rfl
  | _ :: _, [], _, q => by
    unfold rowLt at q
    cases q
  | a :: ks, b :: ls, ne, q => by
    unfold rowLt at q ⊢
    by_cases e : a = b
    · subst e
      rw [if_pos rfl] at q ⊢
      exact rowLt_total (fun z => ne (by rw [z])) q
    · rw [if_neg (Ne.symm e), decide_eq_false_iff_not] at q
      rw [if_neg e, decide_eq_true_eq]
      exact tLe_lt (List.not_lt.mp q) e
theorem alike_rows : ∀ ks ls : List Str, alikeAll (ks.map PyData.str) (ls.map PyData.str) = true
  | [], [] => by simp [alikeAll]
  | [], _ :: _ => by simp [alikeAll]
  | _ :: _, [] => by simp [alikeAll]
  | a :: ks, b :: ls => by
    rw [List.map_cons, List.map_cons, alikeAll, alike_rows ks ls]
    simp [alike]
theorem depth_strs : ∀ ks : List Str, PyData.depthAll (ks.map PyData.str) = 0
  | [] => by simp [PyData.depthAll]
  | x :: ks => by
    rw [List.map_cons, PyData.depthAll, depth_strs ks]
    simp [PyData.depth]
theorem kD_strs (ks : List Str) : (ks.map Sum.inr : List Key).map kD = ks.map PyData.str := by
  rw [List.map_map]
  rfl
theorem kV_strs (ks : List Str) : (ks.map Sum.inr : List Key).map kV = ks.map V.str := by
  rw [List.map_map]
  rfl
theorem inr_inj : ∀ {ks ls : List Str}, (ks.map Sum.inr : List Key) = ls.map Sum.inr → ks = ls
  | [], [], _ => rfl
  | [], _ :: _, h => nomatch h
  | _ :: _, [], h => nomatch h
  | a :: ks, b :: ls, h => by
    injection h with h1 h2
    injection h1 with h1
    rw [h1, inr_inj h2]
/-- x < y of two tuples of texts -/
def rLtR (K : PySem.W.Frag) : R2 := fun x y H Q => ∃ (a b : Addr) (ks ls : List Str), x = V.ref a ∧ y = V.ref b ∧ SqT K H a (ks.map V.str) ∧ SqT K H b (ls.map V.str) ∧ Q (.bl (rowLt ks ls)) H
theorem op_ltR (hu : X.A.units + 1 < cLine) : OpR X (compareOp .Lt) (rLtR X.K) := by
  intro pins s σ H x y v u Q I rx ry h
  obtain ⟨a, b, ks, ls, rfl, rfl, ha, hb, q⟩ := h
  cases rx
  cases ry
  rw [← kV_strs] at ha hb
  have ra := (tupAt_of I ha).reads
  have rb := (tupAt_of I hb).reads
  rw [kD_strs] at ra rb
  have da : (PyData.tuple (ks.map PyData.str)).depth = 1 := by rw [PyData.depth, depth_strs]
  refine lt_data ra rb (by simpa [alike] using alike_rows ks ls) (by simp) (by
    have m := Nat.min_le_left (PyData.tuple (ks.map PyData.str)).depth (PyData.tuple (ls.map PyData.str)).depth
    omega) ?_
  rw [row_lt]
  exact ⟨.bl (rowLt ks ls), H, I, rfl, q⟩
/-- sorted(a set of tuples of texts, none empty) -/
def rSortTuR (K : PySem.W.Frag) (w : World) : List V → Hp → VK → Prop := fun xs H Q => ∃ (a : Addr) (ks : List (Addr × List Str)), xs = [V.ref a] ∧ H a = some (SetM w a (ks.map fun p => Value.ref p.1)) ∧
  (∀ p ∈ ks, SqT K H p.1 (p.2.map V.str)) ∧ (∀ p ∈ ks, p.2 ≠ []) ∧ (ks.map (·.2)).Nodup ∧ ks.length < 4000 ∧
  ∀ (p : Addr) (zs : List (Addr × List Str)), zs.Perm ks → zs.Pairwise (fun x y => rowLt x.2 y.2 = true) → H p = none → Q (.ref p) (upd H p (.lst (zs.map fun q => V.ref q.1)))
theorem each_rowsR {P : Program} {w : World} {h : Heap} : ∀ {ks : List (Addr × List Str)}, (∀ p ∈ ks, TupAt P w h (p.2.map Sum.inr) p.1) →
    EachIs (fun v p => v = Value.ref p.1 ∧ Reads h v (.tuple (p.2.map PyData.str)) []) (ks.map fun p => Value.ref p.1) ks
  | [], _ => .nil
  | p :: ks, x => .cons ⟨rfl, by
      have := (x p List.mem_cons_self).reads
      rw [kD_strs] at this
      exact this⟩ (each_rowsR fun q hq => x q (List.mem_cons_of_mem _ hq))
theorem rows_eachR {us : List Value} {ks : List (Addr × List Str)} (e : EachIs (fun v p => v = Value.ref p.1) us ks) : us = ks.map fun p => Value.ref p.1 := by
  induction e with
  | nil => rfl
  | cons h _ ih => rw [h, ih, List.map_cons]
theorem rows_valsR : ∀ (ks : List (Addr × List Str)), Vals (ks.map fun p => V.ref p.1) (ks.map fun p => Value.ref p.1)
  | [] => .nil
  | _ :: ks => .cons rfl (rows_valsR ks)
theorem cr_sortTuR (hc : X.calm = true) (hu : X.A.units + 3 < cLine) : CallR X (.builtin "sorted") (rSortTuR X.K X.w) := by
  intro pins s σ H xs us0 Q I r h
  obtain ⟨a, ks, rfl, ha, hk, ne, nd, few, q⟩ := h
  rw [Vals.ref1 r]
  have m : Members X.w s.heap a (ks.map fun p => Value.ref p.1) := (I.hok a _ ha).1
  have key : (fun (p : Addr × List Str) => PyData.tuple (p.2.map PyData.str)) = fun p => PyData.tuple (p.2.map PyData.str) := rfl
  refine sorted_members (P := X.prog) (R := fun v p => v = Value.ref p.1) (enc := fun p : Addr × List Str => PyData.tuple (p.2.map PyData.str)) m (I.ok.hd hc) (each_rowsR fun p hp => tupAt_of I (by rw [kV_strs]; exact hk p hp)) (fun cs pc => ?_) (fun cs pc => ?_) (fun b _ => ?_)
    fun z p out c cs kp g o le e pc eo => ?_
  · intro d hd d' hd'
    obtain ⟨p, hp, rfl⟩ := List.mem_map.mp hd
    obtain ⟨p', hp', rfl⟩ := List.mem_map.mp hd'
    simpa [alike] using alike_rows p.2 p'.2
  · refine .inl fun d hd => ?_
    obtain ⟨p, hp, rfl⟩ := List.mem_map.mp hd
    have e := ne p (pc.mem_iff.mp hp)
    cases hq : p.2 with
    | nil => exact absurd hq e
    | cons k0 r0 => exact ⟨_, _, by rw [List.map_cons]⟩
  · have e : (PyData.tuple (b.2.map PyData.str)).depth ≤ 1 := by
      simp [PyData.depth, depth_strs]
    show X.A.units + 2 + (PyData.tuple (b.2.map PyData.str)).depth < cLine
    omega
  · have pz : (cs.mergeSort (dataLe false fun p : Addr × List Str => PyData.tuple (p.2.map PyData.str))).Perm ks := (List.mergeSort_perm cs _).trans pc
    have pw : (cs.mergeSort (dataLe false fun p : Addr × List Str => PyData.tuple (p.2.map PyData.str))).Pairwise fun x y => rowLt x.2 y.2 = true := by
      have w1 := sort_pairwise (sortLe_total (listOrd itemOrd) false fun p : Addr × List Str => keyToks (PyData.tuple (p.2.map PyData.str))) cs
      have nd2 : ((cs.mergeSort (dataLe false fun p : Addr × List Str => PyData.tuple (p.2.map PyData.str))).map (·.2)).Nodup := (pz.map (·.2)).nodup_iff.mpr nd
      have nd3 := List.pairwise_map.mp nd2
      refine List.Pairwise.imp (fun {x y} h => ?_) (List.Pairwise.and w1 nd3)
      have e1 : (!dataLt (.tuple (y.2.map PyData.str)) (.tuple (x.2.map PyData.str))) = true := h.1
      rw [row_lt, Bool.not_eq_true'] at e1
      exact rowLt_total h.2 e1
    generalize cs.mergeSort (dataLe false fun p : Addr × List Str => PyData.tuple (p.2.map PyData.str)) = zs at pz pw eo
    have few2 : (zs.map fun q => V.ref q.1).length ≤ sizeLine := by
      rw [List.length_map, pz.length_eq, sizeLine_eq]
      omega
    have rv : Vals (zs.map fun q => V.ref q.1) out.toList := by
      rw [rows_eachR eo]
      exact rows_valsR zs
    exact ⟨.ref p, _, laid_list I kp g o le e rv few2, rfl, q p zs pz pw (I.hok.fresh le)⟩
end
end Q
set_option Elab.async false
set_option linter.all false
set_option maxRecDepth 100000
set_option maxHeartbeats 4000000
namespace Q
open PySem PySem.Spec PyProof.Rows L2 PySem.Froz
/-! sets of members of one kind, whatever they are, that stand in the heap; only new ones come -/
structure MK (P : Program) (w : World) (κ : Type) [DecidableEq κ] where
  At : Heap → κ → Addr → Prop
  hs : κ → Int
  keep : ∀ {h h' : Heap} {k : κ} {b : Addr}, At h k b → (∀ c o its n, h.get? c = some o → o.data = .seq its n → h'.get? c = some o) → At h' k b
  inj : ∀ {h : Heap} {x y : κ} {b : Addr}, At h x b → At h y b → x = y
  hash : ∀ {A : Around} {E : Value → Shared → Prop} {s : Shared} {k : κ} {b : Addr} {Q : Int → Shared → Prop}, A.units + 4 < cLine → At s.heap k b → (∀ tk, s.toks ≤ tk → Q (hs k) { s with toks := tk }) → wpAny (model P w) A (pyHash (.ref b)) Q E s
  eqb : ∀ {A : Around} {E : Value → Shared → Prop} {s : Shared} {x y : κ} {b c : Addr} {Q : Bool → Shared → Prop}, A.units + 4 < cLine → At s.heap x b → At s.heap y c → Q (decide (x = y)) s → wpAny (model P w) A (eqBool (.ref b) (.ref c)) Q E s
  quiet : ∀ {A : Around} {E : Value → Shared → Prop} {s : Shared} {k : κ} {b : Addr} {Q : Bool → Shared → Prop}, At s.heap k b → Q true s → wpAny (model P w) A (eqIsQuiet 8 (.ref b)) Q E s
  cls : ∀ {A : Around} {E : Value → Shared → Prop} {s : Shared} {k : κ} {b : Addr} {Q : Bool → Shared → Prop}, At s.heap k b → Q false s → wpAny (model P w) A (ofAClassStatement 8 (.ref b)) Q E s
  hby : ∀ {A : Around} {E : Value → Shared → Prop} {s : Shared} {k : κ} {b : Addr} {Q : Bool → Shared → Prop}, At s.heap k b → (∀ y, Q y s) → wpAny (model P w) A (hashByValue 8 (.ref b)) Q E s
/-- a change of a set alone keeps all tuples -/
theorem seq_kept {h h' : Heap} {a : Addr} {o : Obj} {es : Array (Int × Value)} {ep : Nat} {t : SetTable} (q : h.get? a = some o) (d : o.data = .set es ep t) (sb : Heap.SameBut a h h') : ∀ c o its n, h.get? c = some o → o.data = .seq its n → h'.get? c = some o := fun c o2 its n q2 d2 => by
  have ne : c ≠ a := by
    rintro rfl
    rw [q] at q2
    cases q2
    rw [d] at d2
    cases d2
  exact (sb.2 c ne).trans q2
/-- the set at a with its table; the members are tuples that stand in the heap -/
structure BagM {P : Program} {w : World} {κ : Type} [DecidableEq κ] (M : MK P w κ) (h : Heap) (a : Addr) (es : Array (Int × Value)) (ep : Nat) (t : SetTable) : Prop where
  ob : ∃ o, h.get? a = some o ∧ o.ExactSet ∧ o.data = .set es ep t
  tab : TabOk t (es.toList.map (·.1))
  el : ∀ e ∈ es.toList, ∃ b k, e = (M.hs k, Value.ref b) ∧ M.At h k b
  led : w.params.followText "set-order" = true ∨ t.led = true
  room : es.size * 5 < t.mask * 3
  few : es.size < 70

section
variable {P : Program} {w : World} {A : Around} {E : Value → Shared → Prop} {s : Shared} {a : Addr} {es : Array (Int × Value)} {ep : Nat} {t : SetTable} {κ : Type} [DecidableEq κ] {M : MK P w κ}
theorem BagM.fits (R : BagM M s.heap a es ep t) : t.fits es.size = true := tab_fits R.tab (by have := R.room; omega)

theorem mem_seen {k : κ} {b : Addr} {Q : Bool → Shared → Prop} (x : M.At s.heap k b) {ys : List Value} (hy : ∀ y ∈ ys, ∃ c k2, y = Value.ref c ∧ M.At s.heap k2 c) (h : Q false s) :
    wpAny (model P w) A (searchCouldBeSeen (.ref b) ys) Q E s := by
  unfold searchCouldBeSeen
  refine wpAny_bind ?_
  refine wpAny_forIn_list _ (fun left r z => r.1 = none ∧ z = s ∧ ∀ y ∈ left, ∃ c k2, y = Value.ref c ∧ M.At s.heap k2 c) _ ?_ ?_ _ _ ⟨rfl, rfl, hy⟩
  · rintro v left r z ⟨_, rfl, all⟩
    obtain ⟨c, k2, rfl, xc⟩ := all v List.mem_cons_self
    have all2 : ∀ y ∈ left, ∃ c k2, y = Value.ref c ∧ M.At z.heap k2 c := fun u hu => all u (List.mem_cons_of_mem _ hu)
    dsimp only
    by_cases same : (b == c || (carriedByValue (.ref b) && carriedByValue (.ref c))) = true
    · exact wp_if_pos same (wpAny_pure ⟨rfl, rfl, all2⟩)
    · refine wp_if_neg same (wpAny_bind (M.quiet x ?_))
      simp only [Bool.not_true, Bool.false_eq_true, if_false]
      refine wpAny_bind (M.quiet xc ?_)
      simp only [Bool.not_true, Bool.false_eq_true, if_false]
      refine wpAny_bind (M.cls x ?_)
      simp only [Bool.false_eq_true, if_false]
      refine wpAny_bind (M.cls xc ?_)
      simp only [Bool.false_eq_true, if_false]
      exact wpAny_pure ⟨rfl, rfl, all2⟩
  · rintro ⟨r1, r2⟩ z ⟨hr, rfl, _⟩
    simp only at hr
    subst hr
    exact wpAny_pure h
theorem search_newM (R : BagM M s.heap a es ep t) {x : Addr} {k : κ} (hx : M.At s.heap k x) (hu : A.units + 4 < cLine)
    (new : ∀ e ∈ es.toList, ∀ b k2, e = (M.hs k2, Value.ref b) → M.At s.heap k2 b → k2 ≠ k) {K : Nat} (hK1 : K < 10 * SetTable.turns t.mask)
    (hK2 : (spot t.mask (M.hs k) K).j ∉ t.place.toList) (hK3 : ∀ c, c < K → (spot t.mask (M.hs k) c).j ∈ t.place.toList)
    {Q : SetFound → Shared → Prop} (next : Q (.free (spot t.mask (M.hs k) K).j false) s) :
    ∀ (f c : Nat) (stand : Option SetTable.Probe), stand.getD (t.probeStart (M.hs k)) = spot t.mask (M.hs k) c → c ≤ K → K - c < f →
      wpAny (model P w) A (setSearchFrom a (.ref x) (M.hs k) true f stand) Q E s := by
  obtain ⟨o, ho, hex, hd⟩ := R.ob
  intro f
  induction f with
  | zero => exact fun c stand _ _ z => absurd z (Nat.not_lt_zero _)
  | succ f ih =>
    intro c stand st hc hf
    rw [setSearchFrom_succ]
    refine wpAny_bind (wpAny_setState_of ho hd R.fits ?_)
    dsimp only
    refine wp_if_neg (by unfold SetTable.gaveWay; rw [mask_odd R.tab.mok]; decide) ?_
    try refine wpAny_bind (wpAny_pure ?_)
    have spec := go_spec t R.tab.ris R.tab.dm (fun i => (es[i]?.map (·.1)).getD 0) (M.hs k) (10 * SetTable.turns t.mask) (K - c) (spot t.mask (M.hs k) c) (spot_dummy _ _ _) (by omega)
      (fun d hd => by rw [spot_shift]; exact hK3 _ (by omega)) (by rw [spot_shift, Nat.add_sub_cancel' hc]; exact hK2)
    rcases spec with ⟨d, i, hd1, hi, hh, _, pr⟩ | ⟨_, pr⟩
    · rw [spot_shift] at hi
      rw [spot_shift, spot_shift] at pr
      have pr2 : t.probe (fun i => (es[i]?.map (·.1)).getD 0) (M.hs k) (stand.getD (t.probeStart (M.hs k))) = some (.candidate (spot t.mask (M.hs k) (c + d)).j i (spot t.mask (M.hs k) (c + (d + 1)))) := by
        rw [st]
        exact pr
      rw [pr2]
      dsimp only
      have il : i < es.size := by
        have q1 := (List.getElem?_eq_some_iff.mp hi).1
        have q2 := R.tab.sz
        rw [List.length_map, Array.length_toList] at q2
        rw [Array.length_toList] at q1
        omega
      have ei : es[i]? = some es[i] := Array.getElem?_eq_getElem il
      have em : es[i] ∈ es.toList := Array.getElem_mem_toList il
      obtain ⟨b, k2, e2, xb⟩ := R.el _ em
      have ne : k2 ≠ k := new _ em b k2 e2 xb
      rw [e2] at ei
      have onward : wpAny (model P w) A (searchRest a (.ref x) (M.hs k) true f es t (spot t.mask (M.hs k) (c + d)).j i (spot t.mask (M.hs k) (c + (d + 1)))) Q E s := by
        unfold searchRest
        rw [ei]
        dsimp only
        refine wpAny_bind (wpAny_holding (M.eqb hu xb hx ?_))
        refine wpAny_bind (wpAny_setState_of ho hd R.fits ?_)
        dsimp only
        refine wp_if_neg (by simp [ne]) ?_
        try refine wpAny_bind (wpAny_pure ?_)
        rw [sameMem]
        dsimp only
        simp only [if_true, slot_live R.tab.ris hi, ei]
        refine wpAny_bind (wpAny_isSame_ref_self (wpAny_bind (wpAny_pure ?_)))
        simp only [if_true]
        refine wp_if_neg (by simp [ne]) ?_
        exact ih (c + (d + 1)) _ rfl (by omega) (by omega)
      by_cases hl : t.led = true
      · refine wp_if_neg (by simp [hl]) ?_
        try refine wpAny_bind (wpAny_pure ?_)
        exact onward
      · refine wp_if_pos (by simp [hl]) ?_
        refine wpAny_bind (mem_seen hx (fun y hy => ?_) ?_)
        · obtain ⟨e, he, ee⟩ := List.mem_map.mp hy
          have inE : e ∈ es.toList := by
            have z : e ∈ es ∧ e.1 = M.hs k := by simpa using he
            simpa using z.1
          obtain ⟨b2, k3, e3, x3⟩ := R.el e inE
          exact ⟨b2, k3, by rw [← ee, e3], x3⟩
        · refine wp_if_neg (by decide) ?_
          try refine wpAny_bind (wpAny_pure ?_)
          exact onward
    · rw [spot_shift, Nat.add_sub_cancel' hc] at pr
      have pr2 : t.probe (fun i => (es[i]?.map (·.1)).getD 0) (M.hs k) (stand.getD (t.probeStart (M.hs k))) = some (.empty (spot t.mask (M.hs k) K).j none) := by
        rw [st]
        exact pr
      rw [pr2]
      dsimp only
      exact wpAny_pure next

/-- the table grows -/
theorem relay_bagM {o : Obj} (ho : s.heap.get? a = some o) (hex : o.ExactSet) (hd : o.data = .set es ep t) (T : TabOk t (es.toList.map (·.1))) (fit : es.size ≤ t.mask)
    (el : ∀ e ∈ es.toList, ∃ b k, e = (M.hs k, Value.ref b) ∧ M.At s.heap k b) (ld : w.params.followText "set-order" = true ∨ t.led = true) (few : es.size < 70) {n mk : Nat}
    (hn1 : SetTable.sizeAbove n - 1 = mk) (hM : MaskOk mk) (hn2 : SetTable.sizeAbove n ≤ 128) (hn3 : es.size * 5 < mk * 3) {Q : Unit → Shared → Prop}
    (next : ∀ h' es2 ep2 t2, Heap.SameBut a s.heap h' → BagM M h' a es2 ep2 t2 → es2.toList.Perm es.toList → Q () { s with heap := h' }) : wpAny (model P w) A (setRelay a n) Q E s := by
  obtain ⟨t2, order, e, po, T2, m2, l2, _, _⟩ := relaid_ok t (hs := es.map (·.1)) (wanted := n) hn1 hM (by rw [Array.size_map]; omega)
  rw [Array.size_map] at po
  obtain ⟨r1, r2⟩ := reorder es order (·.1) po
  rw [← r2] at T2
  have z2 : (order.filterMap (es[·]?)).size = es.size := by
    have q := r1.length_eq
    rw [Array.length_toList, Array.length_toList] at q
    exact q
  rw [setRelay_eq]
  refine wpAny_bind (wpAny_setState_of ho hd (tab_fits T fit) ?_)
  dsimp only
  refine wp_if_neg (by rw [sizeLine_eq]; omega) ?_
  try refine wpAny_bind (wpAny_pure ?_)
  rw [e]
  dsimp only
  refine wpAny_bind ?_
  refine wp_if_neg (by rw [z2]; simp) ?_
  try refine wpAny_bind (wpAny_pure ?_)
  refine wpAny_pure ?_
  dsimp only
  refine wpAny_storeSet_of ho hd ?_ (by rw [z2, sizeLine_eq]; omega)
  have sb : Heap.SameBut a s.heap (s.heap.update a (Obj.putSet (order.filterMap (es[·]?)) t2)) := Heap.SameBut.update ..
  refine next _ (order.filterMap (es[·]?)) (ep + 1) t2 sb ⟨⟨_, store_at ho hd, ⟨hex.1, hex.2.1, hex.2.2⟩, rfl⟩, T2, fun e1 he => ?_, by rw [l2]; exact ld, by rw [z2, m2]; exact hn3, by rw [z2]; exact few⟩ r1
  obtain ⟨b, k, e3, x3⟩ := el e1 (r1.mem_iff.mp he)
  exact ⟨b, k, e3, M.keep x3 (seq_kept ho hd sb)⟩

/-- a new tuple comes in -/
theorem add_newM (R : BagM M s.heap a es ep t) {x : Addr} {k : κ} (hx : M.At s.heap k x) (hu : A.units + 4 < cLine)
    (new : ∀ e ∈ es.toList, ∀ b k2, e = (M.hs k2, Value.ref b) → M.At s.heap k2 b → k2 ≠ k) (few : es.size + 1 < 70) {Q : Bool → Shared → Prop}
    (next : ∀ h' es2 ep2 t2, Heap.SameBut a s.heap h' → BagM M h' a es2 ep2 t2 → es2.toList.Perm ((M.hs k, Value.ref x) :: es.toList) → Q true { s with heap := h' }) :
    wpAny (model P w) A (setAddHashed a (.ref x) (M.hs k)) Q E s := by
  obtain ⟨o, ho, hex, hd⟩ := R.ob
  have room := R.room
  have lh : (es.toList.map (·.1)).length = es.size := by rw [List.length_map, Array.length_toList]
  obtain ⟨K, hK1, hK2, hK3⟩ := R.tab.first (by rw [lh]; omega) (M.hs k)
  have hK4 : K < 100000 := by
    have q : 10 * SetTable.turns t.mask ≤ 1420 := by
      unfold SetTable.turns
      rcases R.tab.mok with e | e | e <;> omega
    omega
  unfold setAddHashed
  refine wpAny_holding ?_
  rw [show (100000 : Nat) = 99999 + 1 from rfl, setAddHashedIn_succ]
  refine wpAny_bind (wpAny_setState_of ho hd R.fits ?_)
  dsimp only
  refine wp_if_neg (by simp [byScan, Value.scannable]) ?_
  try refine wpAny_bind (wpAny_pure ?_)
  unfold setSearch
  refine wpAny_bind (search_newM R hx hu new hK1 hK2 hK3 ?_ 100000 0 none rfl (Nat.zero_le _) (by omega))
  dsimp only
  refine wpAny_bind (wpAny_setState_of ho hd R.fits ?_)
  dsimp only
  obtain ⟨q1, q2, q3, q4, q5, q6, q7, q8, q9⟩ := R.tab.put hK2 hK3
  rw [lh] at q2 q9
  generalize hput : t.put (spot t.mask (M.hs k) K).j = pt at q1 q3 q4 q5 q6 q7 q8 q9 ⊢
  obtain ⟨t1, p⟩ := pt
  dsimp only at q1 q3 q4 q5 q6 q7 q8 q9 ⊢
  subst q1
  have goal2 : ∀ t2 : SetTable, t2 = t1 ∨ t2 = { t1 with plain := false } → wpAny (model P w) A (do
      storeSet a (SetTable.insertAt es (SetTable.below t.place (spot t.mask (M.hs k) K).j) (M.hs k, Value.ref x)) t2
      if (!false && t2.tooFull) = true then setRelay a (SetTable.grown (es.size + 1))
      return true) Q E s := fun t2 ht2 => by
    have T2 : TabOk t2 ((es.toList.map (·.1)).take (SetTable.below t.place (spot t.mask (M.hs k) K).j) ++ M.hs k :: (es.toList.map (·.1)).drop (SetTable.below t.place (spot t.mask (M.hs k) K).j)) := by
      rcases ht2 with rfl | rfl
      · exact q3
      · exact tab_plain q3
    have m2 : t2.mask = t.mask := by rcases ht2 with rfl | rfl <;> exact q4
    have l2 : t2.led = t.led := by rcases ht2 with rfl | rfl <;> exact q5
    have f2 : t2.fill = es.size + 1 := by rcases ht2 with rfl | rfl <;> exact q9
    clear q3 q4 q5 q6 q7 q8 q9 ht2 hput
    generalize SetTable.below t.place (spot t.mask (M.hs k) K).j = p at q2 T2 ⊢
    have i1 : (SetTable.insertAt es p (M.hs k, Value.ref x)).toList = es.toList.take p ++ (M.hs k, Value.ref x) :: es.toList.drop p := SetTable.toList_insertAt ..
    have pm : (SetTable.insertAt es p (M.hs k, Value.ref x)).toList.Perm ((M.hs k, Value.ref x) :: es.toList) := by
      rw [i1]
      exact put_perm _ _ _
    rw [← List.map_take, ← List.map_drop, ← List.map_cons (f := fun e : Int × Value => e.1) (a := (M.hs k, Value.ref x)), ← List.map_append, ← i1] at T2
    generalize SetTable.insertAt es p (M.hs k, Value.ref x) = es1 at pm T2 ⊢
    have z1 : es1.size = es.size + 1 := by
      have q := pm.length_eq
      rw [List.length_cons, Array.length_toList, Array.length_toList] at q
      exact q
    refine wpAny_bind (wpAny_storeSet_of ho hd ?_ (by rw [z1, sizeLine_eq]; omega))
    have sb : Heap.SameBut a s.heap (s.heap.update a (Obj.putSet es1 t2)) := Heap.SameBut.update ..
    have ho1 := store_at (es' := es1) (t' := t2) ho hd
    generalize s.heap.update a (Obj.putSet es1 t2) = h1 at sb ho1 ⊢
    have el1 : ∀ e ∈ es1.toList, ∃ b k, e = (M.hs k, Value.ref b) ∧ M.At h1 k b := fun e he => by
      rcases List.mem_cons.mp (pm.mem_iff.mp he) with q | q
      · exact ⟨x, k, q, M.keep hx (seq_kept ho hd sb)⟩
      · obtain ⟨b, k3, e3, x3⟩ := R.el e q
        exact ⟨b, k3, e3, M.keep x3 (seq_kept ho hd sb)⟩
    have ld1 : w.params.followText "set-order" = true ∨ t2.led = true := by rw [l2]; exact R.led
    have full : t2.tooFull = decide ((es.size + 1) * 5 ≥ t.mask * 3) := by
      unfold SetTable.tooFull
      rw [f2, m2]
    by_cases hf : t2.tooFull = true
    · have big : (es.size + 1) * 5 ≥ t.mask * 3 := by
        rw [full, decide_eq_true_eq] at hf
        exact hf
      first
        | (refine wpAny_bind ?_; refine wp_if_pos (by simp [hf]) ?_)
        | (refine wp_if_pos (by simp [hf]) ?_; refine wpAny_bind ?_)
      have two : (t.mask = 7 ∧ es.size = 4) ∨ (t.mask = 31 ∧ es.size = 18) := by
        rcases R.tab.mok with e | e | e <;> rw [e] at big room <;> first | (exact .inl ⟨e, by omega⟩) | (exact .inr ⟨e, by omega⟩) | (exfalso; omega)
      have grow : ∀ mk, SetTable.sizeAbove (SetTable.grown (es.size + 1)) - 1 = mk → MaskOk mk → SetTable.sizeAbove (SetTable.grown (es.size + 1)) ≤ 128 → (es.size + 1) * 5 < mk * 3 →
          wpAny (model P w) A (setRelay a (SetTable.grown (es.size + 1))) (fun _ z => wpAny (model P w) A (pure true) Q E z) E { s with heap := h1 } := fun mk c1 c2 c3 c4 => by
        refine relay_bagM (s := { s with heap := h1 }) ho1 ⟨hex.1, hex.2.1, hex.2.2⟩ rfl T2 (by rw [m2, z1]; rcases two with ⟨e, e2⟩ | ⟨e, e2⟩ <;> omega) el1 ld1 (by rw [z1]; exact few) c1 c2 c3 (by rw [z1]; exact c4) ?_
        intro h2 es2 ep2 t3 sb2 R2 pm2
        exact wpAny_pure (next h2 es2 ep2 t3 (sb.trans sb2) R2 (pm2.trans pm))
      rcases two with ⟨_, e2⟩ | ⟨_, e2⟩
      · exact grow 31 (by rw [e2, size_20]) (.inr (.inl rfl)) (by rw [e2, size_20]; decide) (by omega)
      · exact grow 127 (by rw [e2, size_76]) (.inr (.inr rfl)) (by rw [e2, size_76]; decide) (by omega)
    · first
        | refine wp_if_neg (by simp [hf]) ?_
        | (refine wpAny_bind ?_; refine wp_if_neg (by simp [hf]) ?_; refine wpAny_pure ?_)
      refine wpAny_pure (next h1 es1 (ep + 1) t2 sb ⟨⟨_, ho1, ⟨hex.1, hex.2.1, hex.2.2⟩, rfl⟩, T2, el1, ld1, ?_, by rw [z1]; exact few⟩ pm)
      rw [full, decide_eq_true_eq] at hf
      rw [z1, m2]
      omega
  by_cases hp : t1.plain = true
  · first
      | (refine wpAny_bind ?_; refine wp_if_pos hp ?_; refine M.hby hx fun y => ?_)
      | refine wp_if_pos hp (wpAny_bind (M.hby hx fun y => ?_))
    cases y
    · exact goal2 _ (.inr rfl)
    · exact goal2 _ (.inl rfl)
  · first
      | (refine wpAny_bind ?_; refine wp_if_neg hp ?_; refine wpAny_pure ?_)
      | refine wp_if_neg hp (wpAny_bind (wpAny_pure ?_))
      | refine wp_if_neg hp ?_
    exact goal2 _ (.inl rfl)
def MemJ (M : MK P w κ) (S : Addr) (h0 : Heap) (ks : List (Addr × κ)) (i : Nat) (h : Heap) : Prop :=
  (∀ b o, h0.get? b = some o → h.get? b = some o) ∧ ∃ es ep t, BagM M h S es ep t ∧ es.toList.Perm ((ks.take i).map fun p => (M.hs p.2, Value.ref p.1))

theorem set_mems {l : Addr} {items : Array Value} {ks : List (Addr × κ)} {Q : Value → Shared → Prop} (hh : A.handled = none) (hu : A.units + 7 < cLine) (hl : s.heap.IsList l items)
    (it : items.toList = ks.map fun p => Value.ref p.1) (tp : ∀ p ∈ ks, M.At s.heap p.2 p.1) (nd : (ks.map (·.2)).Nodup) (few : ks.length < 70)
    (next : ∀ (h' : Heap) (tk : Nat), (∀ b o, s.heap.get? b = some o → h'.get? b = some o) → Members w h' s.heap.objs.size items.toList → Q (.ref s.heap.objs.size) { s with heap := h', toks := tk }) :
    wpAny (model P w) A (call (.type "set") [.ref l]) Q E s := by
  have lk : items.size = ks.length := by rw [← Array.length_toList, it, List.length_map]
  have none_ : ∀ b, s.heap.objs.size ≤ b → ∀ c o, s.heap.get? c = some o → c ≠ b := fun b hb c o q e => by
    have lt := Heap.lt_size q
    rw [e] at lt
    exact absurd (Nat.lt_of_lt_of_le lt hb) (Nat.lt_irrefl _)
  refine set_filled (MemJ M s.heap.objs.size s.heap ks) hh hl ?_ (fun i h h' j k => ?_) (fun E i v z Q lt pv j k => ?_) fun h' tk kp j => ?_
  · refine ⟨fun b o q => laid_old q, #[], 0, .fresh 0 0 (!w.params.followText "set-order"), ⟨⟨_, laid_set _ _, ⟨rfl, rfl, rfl⟩, rfl⟩, ?_, fun e he => (by cases he), ?_, ?_, ?_⟩, .nil⟩
    · exact ⟨List.Pairwise.nil, rfl, rfl, .inl rfl, fun x hx => (by cases hx), fun i x j hi => (by simp at hi)⟩
    · show _ ∨ (!w.params.followText "set-order") = true
      cases w.params.followText "set-order"
      · exact .inr rfl
      · exact .inl rfl
    · show 0 * 5 < 7 * 3
      decide
    · show 0 < 70
      decide
  · obtain ⟨old, es, ep, t, B, pm⟩ := j
    have kb : ∀ b o, s.heap.get? b = some o → h'.get? b = some o := fun b o q => k b o (none_ _ (by rw [Heap.size_push]; exact Nat.le_succ _) b o q) (old b o q)
    obtain ⟨o, ho, rest⟩ := B.ob
    refine ⟨kb, es, ep, t, ⟨⟨o, k _ _ ?_ ho, rest⟩, B.tab, fun e he => ?_, B.led, B.room, B.few⟩, pm⟩
    · rw [Heap.size_push]
      exact Nat.ne_of_lt (Nat.lt_succ_self _)
    · obtain ⟨p, hp, ep⟩ := List.mem_map.mp (pm.mem_iff.mp he)
      exact ⟨p.1, p.2, ep.symm, M.keep (tp p (List.mem_of_mem_take hp)) fun c o _ _ q _ => kb c o q⟩
  · obtain ⟨old, es, ep, t, B, pm⟩ := j
    have sz : es.size = i := by
      have q := pm.length_eq
      rw [List.length_map, List.length_take, Array.length_toList] at q
      omega
    have hi : i < ks.length := by omega
    have ev : v = .ref ks[i].1 := by
      have q : items.toList[i]? = some v := by rw [Array.getElem?_toList]; exact pv
      rw [it, List.getElem?_map, List.getElem?_eq_getElem hi] at q
      exact (Option.some.inj q).symm
    have eg : ks[i]? = some ks[i] := List.getElem?_eq_getElem hi
    have hm : ks[i] ∈ ks := List.getElem_mem hi
    generalize ks[i] = p at ev eg hm
    subst ev
    have xp : M.At z.heap p.2 p.1 := M.keep (tp p hm) fun c o _ _ q _ => old c o q
    unfold setAdd
    refine wpAny_holding ?_
    have hu3 : A.in1.in1.in1.in1.units ≤ A.units + 4 := Nat.le_refl _
    refine wpAny_bind (M.hash (by show A.units + 3 + 4 < cLine; exact hu) xp fun tk htk => ?_)
    refine add_newM (s := { z with toks := tk }) B xp (by show A.units + 3 + 4 < cLine; exact hu) (fun e he b k2 ee xb => ?_) (by omega) fun h' es2 ep2 t2 sb B2 pm2 => ?_
    · obtain ⟨p2, hp2, e2⟩ := List.mem_map.mp (pm.mem_iff.mp he)
      rw [ee] at e2
      injection e2 with _ e3
      injection e3 with e3
      have x2 : M.At z.heap p2.2 p2.1 := M.keep (tp p2 (List.mem_of_mem_take hp2)) fun c o _ _ q _ => old c o q
      rw [e3] at x2
      have ek : k2 = p2.2 := M.inj xb x2
      rw [ek]
      intro same
      obtain ⟨j, hj, ej⟩ := List.getElem_of_mem hp2
      rw [List.length_take] at hj
      rw [List.getElem_take] at ej
      have e4 : ks[i] = p := by
        rw [List.getElem?_eq_getElem hi] at eg
        exact Option.some.inj eg
      exact List.pairwise_iff_getElem.mp nd j i (by rw [List.length_map]; omega) (by rw [List.length_map]; omega) (by omega) (by simp [ej, e4, same])
    · refine k true h' _ htk sb ⟨fun b o q => ?_, es2, ep2, t2, B2, ?_⟩
      · rw [sb.2 b (none_ _ (Nat.le_refl _) b o q)]
        exact old b o q
      · have e3 : ks.take (i + 1) = ks.take i ++ [p] := by
          rw [List.take_add_one, eg]
          rfl
        rw [e3, List.map_append]
        exact (pm2.trans (List.Perm.cons _ pm)).trans (List.perm_append_singleton _ _).symm
  · obtain ⟨old, es, ep, t, B, pm⟩ := j
    have el : ks.take items.size = ks := List.take_of_length_le (by omega)
    rw [el] at pm
    obtain ⟨o, ho, hx, hd⟩ := B.ob
    refine next h' tk kp ⟨es, ep, t, ⟨o, ho, hx.1, hd⟩, ?_, tab_fits B.tab (by have := B.room; omega), ?_, B.tab.ris, B.led⟩
    · have q := pm.map (·.2)
      rw [List.map_map] at q
      rw [it]
      exact q
    · have q := B.few
      show _ < 4096
      omega
end
end Q
set_option Elab.async false
set_option linter.all false
set_option maxRecDepth 100000
set_option maxHeartbeats 4000000
namespace Q
open PySem PySem.Spec PyProof.Rows L2 PySem.Froz
/-! members that are tuples of texts, whole numbers and tuples of such -/
abbrev NK := List (Key ⊕ List Key)
def ItN (P : Program) (w : World) (h : Heap) : Key ⊕ List Key → Value → Prop
  | .inl k, v => (mixKind P w).is k v = true
  | .inr ks, v => ∃ c, v = .ref c ∧ TupAt P w h ks c
inductive ItsN (P : Program) (w : World) (h : Heap) : NK → List Value → Prop
  | nil : ItsN P w h [] []
  | cons {k : Key ⊕ List Key} {v : Value} {ks : NK} {vs : List Value} : ItN P w h k v → ItsN P w h ks vs → ItsN P w h (k :: ks) (v :: vs)
def nkSh (k : NK) : List Bool := k.map Sum.isLeft
def NAt (P : Program) (w : World) (sh : List Bool) (h : Heap) (k : NK) (b : Addr) : Prop := nkSh k = sh ∧ ∃ o its n, h.get? b = some o ∧ o.cls = .type "tuple" ∧ o.data = .seq its n ∧ ItsN P w h k its.toList
def ih (P : Program) (w : World) : Key ⊕ List Key → Int
  | .inl k => (mixKind P w).hash k
  | .inr ks => tkh P w ks
def nkHash (P : Program) (w : World) (k : NK) : Int := reduceHash (Builtin.Tuple.tupleHashOf (k.map (ih P w)))
section
variable {P : Program} {w : World} {A : Around} {E : Value → Shared → Prop} {s : Shared} {sh : List Bool}
theorem ItN.inj {h : Heap} {x y : Key ⊕ List Key} {v : Value} (hx : ItN P w h x v) (hy : ItN P w h y v) (e : x.isLeft = y.isLeft) : x = y := by
  cases x with
  | inl k =>
    cases y with
    | inl k' => exact congrArg _ ((mixKind P w).inj _ _ _ hx hy)
    | inr _ => cases e
  | inr ks =>
    cases y with
    | inl _ => cases e
    | inr ks' =>
      obtain ⟨c, rfl, hx⟩ := hx
      obtain ⟨c', e2, hy⟩ := hy
      injection e2 with e2
      subst e2
      exact congrArg _ (hx.inj hy)
theorem ItsN.inj {h : Heap} {x y : NK} {vs : List Value} (hx : ItsN P w h x vs) (hy : ItsN P w h y vs) (e : nkSh x = nkSh y) : x = y := by
  induction hx generalizing y with
  | nil => cases hy; rfl
  | cons h1 _ ih2 =>
    cases hy with
    | cons h2 t2 =>
      unfold nkSh at e
      rw [List.map_cons, List.map_cons] at e
      injection e with e1 e2
      rw [h1.inj h2 e1, ih2 t2 e2]
theorem ItN.keep {h h' : Heap} {x : Key ⊕ List Key} {v : Value} (hx : ItN P w h x v) (kp : ∀ c o its n, h.get? c = some o → o.data = .seq its n → h'.get? c = some o) : ItN P w h' x v := by
  cases x with
  | inl k => exact hx
  | inr ks =>
    obtain ⟨c, e, o, its, n, q, cl, d, r⟩ := hx
    exact ⟨c, e, o, its, n, kp c o its n q d, cl, d, r⟩
theorem ItsN.keep {h h' : Heap} {x : NK} {vs : List Value} (hx : ItsN P w h x vs) (kp : ∀ c o its n, h.get? c = some o → o.data = .seq its n → h'.get? c = some o) : ItsN P w h' x vs := by
  induction hx with
  | nil => exact .nil
  | cons h1 _ ih2 => exact .cons (h1.keep kp) ih2
theorem ItsN.each {h : Heap} {x : NK} {vs : List Value} (hx : ItsN P w h x vs) : ∀ v ∈ vs, ∃ k, ItN P w h k v := by
  induction hx with
  | nil => intro v hv; cases hv
  | cons h1 _ ih2 =>
    intro v hv
    rcases List.mem_cons.mp hv with rfl | hv
    · exact ⟨_, h1⟩
    · exact ih2 v hv
theorem NAt.typeIs {k : NK} {b : Addr} (x : NAt P w sh s.heap k b) : s.TypeIs (.ref b) "tuple" := let ⟨_, o, _, _, ho, hc, _⟩ := x; ⟨o, ho, hc⟩
theorem NAt.keep {h h' : Heap} {k : NK} {b : Addr} (x : NAt P w sh h k b) (kp : ∀ c o its n, h.get? c = some o → o.data = .seq its n → h'.get? c = some o) : NAt P w sh h' k b := by
  obtain ⟨e, o, its, n, q, cl, d, r⟩ := x
  exact ⟨e, o, its, n, kp _ o its n q d, cl, d, r.keep kp⟩
theorem NAt.inj {h : Heap} {x y : NK} {b : Addr} (hx : NAt P w sh h x b) (hy : NAt P w sh h y b) : x = y := by
  obtain ⟨e1, o, its, n, q, _, d, r⟩ := hx
  obtain ⟨e2, o', its', n', q', _, d', r'⟩ := hy
  rw [q] at q'
  cases q'
  rw [d] at d'
  injection d' with d1 _
  subst d1
  exact r.inj r' (e1.trans e2.symm)
/-- the same three questions of a plain tuple, one turn further in -/
theorem tup_quietN (m : Nat) {ks : List Key} {b : Addr} {Q : Bool → Shared → Prop} (x : TupAt P w s.heap ks b) (h : Q true s) : wpAny (model P w) A (eqIsQuiet (m + 1) (.ref b)) Q E s := by
  have ty := x.typeIs
  obtain ⟨o, its, n, q, _, d, r⟩ := x
  unfold eqIsQuiet
  refine wpAny_bind (wpAny_specialOf ty F.slot_tuple_eq.lookup ?_)
  show wpAny _ _ (isInstance (.ref b) (.type "tuple") >>= _) _ _ s
  refine wpAny_bind (wpAny_isInstance ty isSubtype_tuple_tuple ?_)
  simp only [Bool.not_true, Bool.false_eq_true, if_false]
  refine wpAny_bind (wpAny_seqItems q d (wpAny_bind ?_))
  show wpAny _ _ (forIn its _ _) _ _ s
  rw [← Array.forIn_toList]
  refine wpAny_forIn_list _ (fun left r z => r.1 = none ∧ z = s ∧ ∀ v ∈ left, carriedByValue v = true) _ ?_ ?_ _ _ ⟨rfl, rfl, r.byValue⟩
  · rintro v left r z ⟨_, rfl, all⟩
    rw [eqIsQuiet_byValue _ (all v List.mem_cons_self)]
    refine wpAny_bind (wpAny_pure ?_)
    simp only [Bool.not_true, Bool.false_eq_true, if_false]
    exact wpAny_pure ⟨rfl, rfl, fun u hu => all u (List.mem_cons_of_mem _ hu)⟩
  · rintro ⟨r1, r2⟩ z ⟨hr, rfl, _⟩
    simp only at hr
    subst hr
    exact wpAny_pure h
theorem nk_quiet {k : NK} {b : Addr} {Q : Bool → Shared → Prop} (x : NAt P w sh s.heap k b) (h : Q true s) : wpAny (model P w) A (eqIsQuiet 8 (.ref b)) Q E s := by
  have ty := x.typeIs
  obtain ⟨_, o, its, n, q, _, d, r⟩ := x
  unfold eqIsQuiet
  refine wpAny_bind (wpAny_specialOf ty F.slot_tuple_eq.lookup ?_)
  show wpAny _ _ (isInstance (.ref b) (.type "tuple") >>= _) _ _ s
  refine wpAny_bind (wpAny_isInstance ty isSubtype_tuple_tuple ?_)
  simp only [Bool.not_true, Bool.false_eq_true, if_false]
  refine wpAny_bind (wpAny_seqItems q d (wpAny_bind ?_))
  show wpAny _ _ (forIn its _ _) _ _ s
  rw [← Array.forIn_toList]
  refine wpAny_forIn_list _ (fun left r z => r.1 = none ∧ z = s ∧ ∀ v ∈ left, ∃ k, ItN P w s.heap k v) _ ?_ ?_ _ _ ⟨rfl, rfl, r.each⟩
  · rintro v left r z ⟨_, rfl, all⟩
    have rest : wpAny (model P w) A (eqIsQuiet 7 v) (fun y z' => y = true ∧ z' = z) E z := by
      obtain ⟨k1, h1⟩ := all v List.mem_cons_self
      cases k1 with
      | inl k1 =>
        rw [eqIsQuiet_byValue _ ((mixKind P w).byValue _ _ h1)]
        exact wpAny_pure ⟨rfl, rfl⟩
      | inr ks =>
        obtain ⟨c, rfl, xc⟩ := h1
        exact tup_quietN 6 xc ⟨rfl, rfl⟩
    refine wpAny_bind (thn rest fun y z' ⟨ey, ez⟩ => ?_)
    subst ey ez
    simp only [Bool.not_true, Bool.false_eq_true, if_false]
    exact wpAny_pure ⟨rfl, rfl, fun u hu => all u (List.mem_cons_of_mem _ hu)⟩
  · rintro ⟨r1, r2⟩ z ⟨hr, rfl, _⟩
    simp only at hr
    subst hr
    exact wpAny_pure h
theorem tup_classN (m : Nat) {ks : List Key} {b : Addr} {Q : Bool → Shared → Prop} (x : TupAt P w s.heap ks b) (h : Q false s) : wpAny (model P w) A (ofAClassStatement (m + 1) (.ref b)) Q E s := by
  have ty := x.typeIs
  obtain ⟨o, its, n, q, _, d, r⟩ := x
  unfold ofAClassStatement
  refine wpAny_bind (wpAny_typeOf ty ?_)
  dsimp only
  simp only [show (("tuple" : String) == "tuple") = true by decide, if_true, Bool.not_true, Bool.false_eq_true, if_false]
  try refine wpAny_bind (wpAny_pure ?_)
  try simp only [Bool.not_true, Bool.false_eq_true, if_false]
  show wpAny _ _ (seqItems? (.ref b) >>= _) _ _ s
  refine wpAny_bind (wpAny_seqItems q d ?_)
  dsimp only
  refine wpAny_bind ?_
  show wpAny _ _ (forIn its _ _) _ _ s
  rw [← Array.forIn_toList]
  refine wpAny_forIn_list _ (fun left r z => r.1 = none ∧ z = s ∧ ∀ v ∈ left, ∃ k, (mixKind P w).is k v = true) _ ?_ ?_ _ _ ⟨rfl, rfl, items_shape r⟩
  · rintro v left r z ⟨_, rfl, all⟩
    obtain ⟨k1, h1⟩ := all v List.mem_cons_self
    rw [key_class _ h1]
    refine wpAny_bind (wpAny_pure ?_)
    simp only [Bool.false_eq_true, if_false]
    exact wpAny_pure ⟨rfl, rfl, fun u hu => all u (List.mem_cons_of_mem _ hu)⟩
  · rintro ⟨r1, r2⟩ z ⟨hr, rfl, _⟩
    simp only at hr
    subst hr
    exact wpAny_pure h
theorem nk_class {k : NK} {b : Addr} {Q : Bool → Shared → Prop} (x : NAt P w sh s.heap k b) (h : Q false s) : wpAny (model P w) A (ofAClassStatement 8 (.ref b)) Q E s := by
  have ty := x.typeIs
  obtain ⟨_, o, its, n, q, _, d, r⟩ := x
  unfold ofAClassStatement
  refine wpAny_bind (wpAny_typeOf ty ?_)
  dsimp only
  simp only [show (("tuple" : String) == "tuple") = true by decide, if_true, Bool.not_true, Bool.false_eq_true, if_false]
  try refine wpAny_bind (wpAny_pure ?_)
  try simp only [Bool.not_true, Bool.false_eq_true, if_false]
  show wpAny _ _ (seqItems? (.ref b) >>= _) _ _ s
  refine wpAny_bind (wpAny_seqItems q d ?_)
  dsimp only
  refine wpAny_bind ?_
  show wpAny _ _ (forIn its _ _) _ _ s
  rw [← Array.forIn_toList]
  refine wpAny_forIn_list _ (fun left r z => r.1 = none ∧ z = s ∧ ∀ v ∈ left, ∃ k, ItN P w s.heap k v) _ ?_ ?_ _ _ ⟨rfl, rfl, r.each⟩
  · rintro v left r z ⟨_, rfl, all⟩
    have rest : wpAny (model P w) A (ofAClassStatement 7 v) (fun y z' => y = false ∧ z' = z) E z := by
      obtain ⟨k1, h1⟩ := all v List.mem_cons_self
      cases k1 with
      | inl k1 =>
        rw [key_class _ h1]
        exact wpAny_pure ⟨rfl, rfl⟩
      | inr ks =>
        obtain ⟨c, rfl, xc⟩ := h1
        exact tup_classN 6 xc ⟨rfl, rfl⟩
    refine wpAny_bind (thn rest fun y z' ⟨ey, ez⟩ => ?_)
    subst ey ez
    simp only [Bool.false_eq_true, if_false]
    exact wpAny_pure ⟨rfl, rfl, fun u hu => all u (List.mem_cons_of_mem _ hu)⟩
  · rintro ⟨r1, r2⟩ z ⟨hr, rfl, _⟩
    simp only at hr
    subst hr
    exact wpAny_pure h
theorem tup_hashByN (m : Nat) {ks : List Key} {b : Addr} {Q : Bool → Shared → Prop} (x : TupAt P w s.heap ks b) (h : ∀ y, Q y s) : wpAny (model P w) A (hashByValue (m + 1) (.ref b)) Q E s := by
  have ty := x.typeIs
  obtain ⟨o, its, n, q, _, d, r⟩ := x
  unfold hashByValue
  refine wpAny_bind (wpAny_specialOf ty F.slot_tuple_hash.lookup ?_)
  show wpAny _ _ (seqItems? (.ref b) >>= _) _ _ s
  refine wpAny_bind (wpAny_seqItems q d (wpAny_bind ?_))
  show wpAny _ _ (forIn its _ _) _ _ s
  rw [← Array.forIn_toList]
  refine wpAny_forIn_list _ (fun left r z => z = s ∧ (∀ v ∈ left, ∃ k, (mixKind P w).is k v = true)) _ ?_ ?_ _ _ ⟨rfl, items_shape r⟩
  · rintro v left r z ⟨rfl, all⟩
    obtain ⟨k1, h1⟩ := all v List.mem_cons_self
    obtain ⟨y, hy⟩ := key_hashBy (P := P) (w := w) m h1
    rw [hy]
    refine wpAny_bind (wpAny_pure ?_)
    cases y
    · simp only [Bool.not_false, if_true]
      exact wpAny_pure (by dsimp only; exact wpAny_pure (h _))
    · simp only [Bool.not_true, Bool.false_eq_true, if_false]
      exact wpAny_pure ⟨rfl, fun u hu => all u (List.mem_cons_of_mem _ hu)⟩
  · rintro ⟨r1, r2⟩ z ⟨rfl, _⟩
    cases r1
    · exact wpAny_pure (h _)
    · exact wpAny_pure (h _)
theorem nk_hashBy {k : NK} {b : Addr} {Q : Bool → Shared → Prop} (x : NAt P w sh s.heap k b) (h : ∀ y, Q y s) : wpAny (model P w) A (hashByValue 8 (.ref b)) Q E s := by
  have ty := x.typeIs
  obtain ⟨_, o, its, n, q, _, d, r⟩ := x
  unfold hashByValue
  refine wpAny_bind (wpAny_specialOf ty F.slot_tuple_hash.lookup ?_)
  show wpAny _ _ (seqItems? (.ref b) >>= _) _ _ s
  refine wpAny_bind (wpAny_seqItems q d (wpAny_bind ?_))
  show wpAny _ _ (forIn its _ _) _ _ s
  rw [← Array.forIn_toList]
  refine wpAny_forIn_list _ (fun left r z => z = s ∧ (∀ v ∈ left, ∃ k, ItN P w s.heap k v)) _ ?_ ?_ _ _ ⟨rfl, r.each⟩
  · rintro v left r z ⟨rfl, all⟩
    have rest : wpAny (model P w) A (hashByValue 7 v) (fun y z' => z' = z) E z := by
      obtain ⟨k1, h1⟩ := all v List.mem_cons_self
      cases k1 with
      | inl k1 =>
        obtain ⟨y, hy⟩ := key_hashBy (P := P) (w := w) 7 h1
        rw [hy]
        exact wpAny_pure rfl
      | inr ks =>
        obtain ⟨c, rfl, xc⟩ := h1
        exact tup_hashByN 6 xc fun _ => rfl
    refine wpAny_bind (thn rest fun y z' ez => ?_)
    subst ez
    cases y
    · simp only [Bool.not_false, if_true]
      exact wpAny_pure (by dsimp only; exact wpAny_pure (h _))
    · simp only [Bool.not_true, Bool.false_eq_true, if_false]
      exact wpAny_pure ⟨rfl, fun u hu => all u (List.mem_cons_of_mem _ hu)⟩
  · rintro ⟨r1, r2⟩ z ⟨rfl, _⟩
    cases r1
    · exact wpAny_pure (h _)
    · exact wpAny_pure (h _)
theorem nk_hash {k : NK} {b : Addr} {Q : Int → Shared → Prop} (hu : A.units + 4 < cLine) (x : NAt P w sh s.heap k b) (h : ∀ tk, s.toks ≤ tk → Q (nkHash P w k) { s with toks := tk }) : wpAny (model P w) A (pyHash (.ref b)) Q E s := by
  have ty := x.typeIs
  obtain ⟨_, o, its, n, q, _, d, r⟩ := x
  unfold pyHash
  first | unfold pyHashByItsType | skip
  first | refine wpAny_bind (wpAny_cRoomFor_or (.inr (by omega)) ?_) | skip
  refine wpAny_bind (wpAny_specialOf ty F.slot_tuple_hash.lookup ?_)
  show wpAny _ _ (if (some (Value.builtin "tuple.__hash__") == some Value.none) = true then _ else _) Q E s
  rw [if_neg (by rw [beq_builtin_none]; exact Bool.false_ne_true)]
  refine wpAny_bind (wpAny_specialOf ty F.slot_tuple_hash.lookup ?_)
  show wpAny _ _ (callSpecialIfBoundUnlessNone? (.ref b) "__hash__" _ >>= _) Q E s
  refine wpAny_bind (wpAny_callSpecialIfBoundUnlessNone?_slot ty F.slot_tuple_hash (wpAny_call_entry F.slot_tuple_hash ty F.entry_tuple_hash ?_ (F.args_tuple_hash_1 _)))
  show wpAny _ _ (Builtin.Tuple.tupleItemsOf (.ref b) >>= _) _ _ s
  refine wpAny_bind (wpAny_tupleItemsOf q d (wpAny_bind ?_))
  rw [← Array.forIn_toList]
  refine wpAny_forIn_list _
    (fun rest (hs : Array Int) z => ∃ old left, k = old ++ left ∧ ItsN P w s.heap left rest ∧ hs.toList = old.map (ih P w) ∧ ∃ tk, s.toks ≤ tk ∧ z = { s with toks := tk })
    _ ?_ ?_ _ _ ⟨[], k, rfl, r, rfl, s.toks, Nat.le_refl _, rfl⟩
  · rintro v rest hs z ⟨old, left, rfl, hl, eh, tk, le, rfl⟩
    cases hl with
    | @cons k1 _ left' _ h1 hl' =>
      cases k1 with
      | inl k1 =>
        refine wpAny_bind ((mixKind P w).pyHash h1 ?_)
        first
          | exact wpAny_pure ⟨old ++ [.inl k1], left', by simp, hl', by simp [eh, ih], _, Nat.le_succ_of_le le, rfl⟩
          | exact wpAny_bind (wpAny_pure (wpAny_pure ⟨old ++ [.inl k1], left', by simp, hl', by simp [eh, ih], _, Nat.le_succ_of_le le, rfl⟩))
      | inr ks =>
        obtain ⟨c, rfl, xc⟩ := h1
        refine wpAny_bind (wpAny_pyHash_tuple (s := { s with toks := tk }) ?_ xc ?_)
        · show A.units + 1 < cLine
          omega
        · first
            | exact wpAny_pure ⟨old ++ [.inr ks], left', by simp, hl', by simp [eh, ih], _, Nat.le_trans le (Nat.le_add_right _ _), rfl⟩
            | exact wpAny_bind (wpAny_pure (wpAny_pure ⟨old ++ [.inr ks], left', by simp, hl', by simp [eh, ih], _, Nat.le_trans le (Nat.le_add_right _ _), rfl⟩))
  · rintro hs z ⟨old, left, rfl, hl, eh, tk, le, rfl⟩
    cases hl
    rw [List.append_nil] at h
    show wpAny _ _ (retInt (Builtin.Tuple.tupleHashOf hs.toList)) _ _ _
    rw [eh]
    refine wpAny_ret_mkInt ?_
    have h := h (tk + 1) (Nat.le_succ_of_le le)
    show wpAny _ _ (if (decide (-(2 : Int) ^ 63 ≤ Builtin.Tuple.tupleHashOf (old.map (ih P w))) && decide (Builtin.Tuple.tupleHashOf (old.map (ih P w)) < 2 ^ 63)) = true then _ else _) Q E _
    unfold nkHash reduceHash at h
    by_cases hr : (decide (-(2 : Int) ^ 63 ≤ Builtin.Tuple.tupleHashOf (old.map (ih P w))) && decide (Builtin.Tuple.tupleHashOf (old.map (ih P w)) < 2 ^ 63)) = true
    · rw [if_pos hr] at h ⊢
      exact wpAny_pure h
    · rw [if_neg hr] at h ⊢
      exact wpAny_bind (wpAny_rule (wpAny_pure h))
theorem nk_eqTree {x y : NK} {b c : Addr} {R : Fin → Shared → Prop} (hu : A.units + 1 < cLine) (hx : NAt P w sh s.heap x b) (hy : NAt P w sh s.heap y c) (h : R (.done (.ret (.bool (decide (x = y))))) s) :
    wpAny (model P w) A (Builtin.«tuple.__eq__» ⟨[.ref b, .ref c], []⟩) R E s := by
  have tyc := hy.typeIs
  obtain ⟨e1, o, xs, n, q, _, d, r⟩ := hx
  obtain ⟨e2, o', ys, n', q', _, d', r'⟩ := hy
  have es : nkSh x = nkSh y := e1.trans e2.symm
  show wpAny _ _ (isInstance (.ref c) (.type "tuple") >>= _) _ _ s
  refine wpAny_bind (wpAny_isInstance tyc isSubtype_tuple_tuple ?_)
  simp only [Bool.not_true, Bool.false_eq_true, if_false]
  refine wpAny_bind (wpAny_tupleItemsOf q d (wpAny_bind (wpAny_tupleItemsOf q' d' (wpAny_bind ?_))))
  refine wpAny_forIn_list _
    (fun rest r z => r.1 = none ∧ z = s ∧ ∃ x' y' xs' ys', rest = List.zip xs' ys' ∧ ItsN P w s.heap x' xs' ∧ ItsN P w s.heap y' ys' ∧ nkSh x' = nkSh y' ∧ decide (x' = y') = decide (x = y) ∧ (xs'.length == ys'.length) = (xs.size == ys.size))
    _ ?_ ?_ _ _ ⟨rfl, rfl, x, y, xs.toList, ys.toList, rfl, r, r', es, rfl, by simp⟩
  · rintro ⟨u, v⟩ rest r z ⟨hr, rfl, x', y', xs', ys', hz, hx', hy', es', de, le⟩
    cases hx' with
    | nil => simp at hz
    | @cons k1 u' x2 xs2 h1 hx2 =>
      cases hy' with
      | nil => simp at hz
      | @cons k2 v' y2 ys2 h2 hy2 =>
        simp only [List.zip_cons_cons, List.cons.injEq, Prod.mk.injEq] at hz
        obtain ⟨⟨rfl, rfl⟩, rfl⟩ := hz
        unfold nkSh at es'
        rw [List.map_cons, List.map_cons] at es'
        injection es' with ea eb
        have one : wpAny (model P w) A (eqBool u v) (fun g z' => g = decide (k1 = k2) ∧ z' = z) E z := by
          cases k1 with
          | inl i =>
            cases k2 with
            | inl j =>
              refine (mixKind P w).eqBool (a := i) (b := j) h1 h2 ⟨?_, rfl⟩
              rw [Bool.eq_iff_iff, decide_eq_true_iff, decide_eq_true_iff]
              exact ⟨congrArg _, Sum.inl.inj⟩
            | inr _ => cases ea
          | inr ks =>
            cases k2 with
            | inl _ => cases ea
            | inr ls =>
              obtain ⟨c1, rfl, x1⟩ := h1
              obtain ⟨c2, rfl, x2⟩ := h2
              refine wpAny_eqBool_tuple (by omega) x1 x2 ⟨?_, rfl⟩
              rw [Bool.eq_iff_iff, decide_eq_true_iff, decide_eq_true_iff]
              exact ⟨congrArg _, Sum.inr.inj⟩
        refine wpAny_bind (thn one fun g z' ⟨eg, ez⟩ => ?_)
        subst eg ez
        by_cases hk : k1 = k2
        · subst hk
          rw [decide_eq_true rfl]
          simp only [Bool.not_true, Bool.false_eq_true, if_false]
          refine wpAny_pure ⟨rfl, rfl, x2, y2, xs2, ys2, rfl, hx2, hy2, eb, ?_, by simpa using le⟩
          rw [← de]
          by_cases hxy : x2 = y2
          · simp [hxy]
          · simp [hxy]
        · rw [decide_eq_false hk]
          simp only [Bool.not_false, if_true]
          have hf : decide (x = y) = false := by rw [← de]; simp [hk]
          rw [hf] at h
          exact wpAny_bind (wpAny_pure (wpAny_pure (wpAny_pure h)))
  · rintro ⟨r1, r2⟩ z ⟨hr, rfl, x', y', xs', ys', hz, hx', hy', _, de, le⟩
    simp only at hr
    subst hr
    refine wpAny_pure ?_
    have fin : (xs.size == ys.size) = decide (x = y) := by
      rw [← de, ← le]
      cases hx' with
      | nil =>
        cases hy' with
        | nil => simp
        | cons _ _ => simp
      | cons _ _ =>
        cases hy' with
        | nil => simp
        | cons _ _ => simp at hz
    show R (.done (.ret (.bool (xs.size == ys.size)))) z
    rw [fin]
    exact h
theorem nk_eqb {x y : NK} {b c : Addr} {Q : Bool → Shared → Prop} (hu : A.units + 4 < cLine) (hx : NAt P w sh s.heap x b) (hy : NAt P w sh s.heap y c) (h : Q (decide (x = y)) s) :
    wpAny (model P w) A (eqBool (.ref b) (.ref c)) Q E s := by
  unfold eqBool
  try with_reducible refine wpAny_holding ?_
  show wpAny _ _ (if (Value.ref b == Value.ref c) = true then _ else _) Q E s
  by_cases hab : (Value.ref b == Value.ref c) = true
  · rw [if_pos hab]
    have e : b = c := by have := eq_of_beq hab; injection this
    subst e
    have e := hx.inj hy
    subst e
    exact wpAny_bind (wpAny_rule (wpAny_pure (by simpa using h)))
  · rw [if_neg hab]
    exact wpAny_bind (wpAny_richCompare_same_room (op := .Eq) hx.typeIs hy.typeIs F.slot_tuple_eq
      (wpAny_call_entry F.slot_tuple_eq hx.typeIs F.entry_tuple_eq (nk_eqTree (by show A.units + 1 + 1 < cLine; omega) hx hy ⟨_, rfl, (fun e => nomatch e), wpAny_truthy_bool h⟩) (F.args_tuple_eq_2 _ _)) (by omega))
def nkKind (P : Program) (w : World) (sh : List Bool) : MK P w NK where
  At := NAt P w sh
  hs := nkHash P w
  keep := fun x kp => x.keep kp
  inj := fun x y => x.inj y
  hash := fun hu x h => nk_hash hu x h
  eqb := fun hu x y h => nk_eqb hu x y h
  quiet := fun x h => nk_quiet x h
  cls := fun x h => nk_class x h
  hby := fun x h => nk_hashBy x h
end
end Q
set_option Elab.async false
set_option linter.all false
set_option maxRecDepth 100000
set_option maxHeartbeats 4000000
namespace Q
open PySem PySem.Spec PyProof.Rows L2 PySem.Froz
/-! set and sorted of tuples with tuples within, as the heap tells them -/
inductive NIt (K : PySem.W.Frag) (H : Hp) : NK → List V → Prop
  | nil : NIt K H [] []
  | key {k : Key} {ks : NK} {vs : List V} : NIt K H ks vs → NIt K H (.inl k :: ks) (kV k :: vs)
  | tup {l : List Key} {c : Addr} {ks : NK} {vs : List V} : SqT K H c (l.map kV) → NIt K H ks vs → NIt K H (.inr l :: ks) (.ref c :: vs)
def NSq (K : PySem.W.Frag) (H : Hp) (b : Addr) (k : NK) : Prop := ∃ vs, SqT K H b vs ∧ NIt K H k vs
theorem NIt.same {K : PySem.W.Frag} {H H' : Hp} {k : NK} {vs : List V} (h : NIt K H k vs) (s : ∀ b o, H b = some o → H' b = some o) : NIt K H' k vs := by
  induction h with
  | nil => exact .nil
  | key _ ih => exact .key ih
  | tup q _ ih => exact .tup (SqT.same s q) ih
theorem NSq.same {K : PySem.W.Frag} {H H' : Hp} {b : Addr} {k : NK} (h : NSq K H b k) (s : ∀ b o, H b = some o → H' b = some o) : NSq K H' b k := let ⟨vs, h1, h2⟩ := h; ⟨vs, SqT.same s h1, h2.same s⟩
def rSetN (K : PySem.W.Frag) (w : World) : List V → Hp → VK → Prop := fun xs H Q => ∃ (l : Addr) (ks : List (Addr × NK)) (sh : List Bool), xs = [V.ref l] ∧ SqL K H l (ks.map fun p => V.ref p.1) ∧
  (∀ p ∈ ks, NSq K H p.1 p.2 ∧ nkSh p.2 = sh) ∧ (ks.map (·.2)).Nodup ∧ ks.length < 70 ∧ ∀ a, H a = none → Q (.ref a) (upd H a (SetM w a (ks.map fun p => Value.ref p.1)))
theorem vals_refs {κ : Type} : ∀ {ks : List (Addr × κ)} {us : List Value}, Vals (ks.map fun p => V.ref p.1) us → us = ks.map fun p => Value.ref p.1
  | [], _, .nil => rfl
  | _ :: ks, _, .cons r t => by
    cases r
    rw [vals_refs t, List.map_cons]
section
variable {X : Cx} {pins : List (Addr × Obj)} {σ : L2.St} {H : Hp} {s : Shared}
theorem its_of (I : Inv X pins σ H s) : ∀ {k : NK} {vs : List V} {us : List Value}, NIt X.K H k vs → Vals vs us → ItsN X.prog X.w s.heap k us
  | _, _, _, .nil, .nil => .nil
  | _, _, _, .key (k := .inl i) t, .cons r rt => by
    obtain ⟨tk, rfl⟩ := r
    exact .cons (mixKind_int X.prog X.w i tk) (its_of I t rt)
  | _, _, _, .key (k := .inr x) t, .cons r rt => by
    obtain ⟨tk, rfl⟩ := r
    exact .cons (mixKind_str X.prog X.w x tk) (its_of I t rt)
  | _, _, _, .tup q t, .cons r rt => by
    cases r
    exact .cons ⟨_, rfl, tupAt_of I q⟩ (its_of I t rt)
theorem nAt_of (I : Inv X pins σ H s) {b : Addr} {k : NK} {sh : List Bool} (h : NSq X.K H b k) (e : nkSh k = sh) : NAt X.prog X.w sh s.heap k b := by
  obtain ⟨vs, h1, h2⟩ := h
  obtain ⟨its, r, ⟨o, ho, hc, n, hd⟩, _⟩ := I.tuple h1
  exact ⟨e, o, its.toArray, n, ho, hc, hd, by simpa using its_of I h2 r⟩
end
theorem cr_setN {X : Cx} (hc : X.calm = true) (hu : X.A.units + 7 < cLine) : CallR X (.type "set") (rSetN X.K X.w) := by
  intro pins s σ H xs us Q I r h
  obtain ⟨l, ks, sh, rfl, hl, hk, nd, few, q⟩ := h
  rw [Vals.ref1 r]
  obtain ⟨its, rv, pl, _⟩ := I.list hl
  have ei := vals_refs rv
  refine set_mems (M := nkKind X.prog X.w sh) (items := its.toArray) (ks := ks) (I.ok.hd hc) hu pl.isList (by simpa using ei) (fun p hp => nAt_of I (hk p hp).1 (hk p hp).2) nd few fun h' tk kp m => ?_
  rw [List.toList_toArray, ei] at m
  exact ⟨.ref s.heap.objs.size, _, I.laid (t' := tk) kp (Nat.le_refl _) (setM_new m), rfl, q _ (I.hok.fresh (Nat.le_refl _))⟩
end Q
set_option Elab.async false
set_option linter.all false
set_option maxRecDepth 100000
set_option maxHeartbeats 4000000
namespace Q
open PySem PySem.Spec PyProof.Rows L2 PySem.W
/-! sorted of a set of tuples: texts and whole numbers of one shape ahead, a tuple of texts last -/
abbrev NR := List Key × List Str
def nrK (p : NR) : NK := p.1.map Sum.inl ++ [Sum.inr (p.2.map Sum.inr)]
def nrD (p : NR) : PyData := .tuple (p.1.map kD ++ [.tuple (p.2.map PyData.str)])
def nrLt (p q : NR) : Bool := if p.1 = q.1 then rowLt p.2 q.2 else ksLt p.1 q.1
theorem rowLt_irr : ∀ l : List Str, rowLt l l = false
  | [] => rfl
  | a :: l => by
    unfold rowLt
    rw [if_pos rfl]
    exact rowLt_irr l
theorem eqvAll_texts : ∀ ys us : List Str, PyData.eqvAll (ys.map PyData.str) (us.map PyData.str) = decide (ys = us)
  | [], [] => by simp [PyData.eqvAll]
  | [], u :: us => by simp [PyData.eqvAll]
  | y :: ys, [] => by simp [PyData.eqvAll]
  | y :: ys, u :: us => by
    rw [List.map_cons, List.map_cons, PyData.eqvAll, eqvAll_texts ys us]
    have e : PyData.eqv (.str y) (.str u) = decide (y = u) := by
      simp [PyData.eqv]
      rw [Bool.eq_iff_iff, decide_eq_true_iff]
      exact beq_iff_eq
    rw [e, Bool.eq_iff_iff]
    simp
theorem alike_tail (l l' : List Str) : alike (.tuple (l.map PyData.str)) (.tuple (l'.map PyData.str)) = true := by
  simpa [alike] using alike_rows l l'
theorem nr_alike {p q : NR} (h : shape p.1 = shape q.1) : alike (nrD p) (nrD q) = true := by
  have main : ∀ {ks ls : List Key}, shape ks = shape ls → alikeAll (ks.map kD ++ [.tuple (p.2.map PyData.str)]) (ls.map kD ++ [.tuple (q.2.map PyData.str)]) = true := by
    intro ks
    induction ks with
    | nil =>
      intro ls h
      cases ls with
      | nil =>
        show alikeAll [_] [_] = true
        rw [alikeAll, alike_tail]
        simp [alikeAll]
      | cons b ls => cases h
    | cons a ks ih =>
      intro ls h
      cases ls with
      | nil => cases h
      | cons b ls =>
        simp only [shape, List.map_cons, List.cons.injEq] at h
        show alikeAll (kD a :: _) (kD b :: _) = true
        rw [alikeAll, kD_alike h.1]
        exact ih h.2
  unfold nrD
  simpa [alike] using main h
theorem nr_lt {p q : NR} (h : shape p.1 = shape q.1) : dataLt (nrD p) (nrD q) = nrLt p q := by
  have main : ∀ {ks ls : List Key}, shape ks = shape ls → lexLt itemOrd (keyToksAll (ks.map kD ++ [.tuple (p.2.map PyData.str)])) (keyToksAll (ls.map kD ++ [.tuple (q.2.map PyData.str)])) = if ks = ls then rowLt p.2 q.2 else ksLt ks ls := by
    intro ks
    induction ks with
    | nil =>
      intro ls h
      cases ls with
      | nil =>
        show lexLt itemOrd (keyToksAll [_]) (keyToksAll [_]) = _
        rw [dataLt_cons (alike_tail _ _), if_pos rfl, row_lt]
        have e : PyData.eqv (.tuple (p.2.map PyData.str)) (.tuple (q.2.map PyData.str)) = decide (p.2 = q.2) := by
          rw [← eqvAll_texts]
          simp [PyData.eqv]
        by_cases z : p.2 = q.2
        · rw [if_pos (by rw [e]; exact decide_eq_true z), z, rowLt_irr]
          rfl
        · rw [if_neg (by rw [e]; simp [z])]
      | cons b ls => cases h
    | cons a ks ih =>
      intro ls h
      cases ls with
      | nil => cases h
      | cons b ls =>
        simp only [shape, List.map_cons, List.cons.injEq] at h
        rw [List.map_cons, List.map_cons, List.cons_append, List.cons_append]
        rw [dataLt_cons (kD_alike h.1), ih h.2, kD_lt h.1]
        by_cases e : a = b
        · rw [if_pos ((kD_eqv h.1).2 e)]
          by_cases e2 : ks = ls
          · rw [if_pos e2, if_pos (by rw [e, e2])]
          · rw [if_neg e2, if_neg (fun z => e2 (by injection z))]
            unfold ksLt
            rw [if_pos e]
            cases ks <;> cases ls <;> rfl
        · rw [if_neg (fun q => e ((kD_eqv h.1).1 q)), if_neg (fun z => e (by injection z))]
          conv => rhs; unfold ksLt
          rw [if_neg e]
  unfold nrD nrLt
  rw [dataLt_tuple]
  exact main h
theorem nrLt_total {p q : NR} (h : shape p.1 = shape q.1) (ne : p ≠ q) (l : nrLt q p = false) : nrLt p q = true := by
  unfold nrLt at l ⊢
  by_cases e : p.1 = q.1
  · rw [if_pos e.symm] at l
    rw [if_pos e]
    exact rowLt_total (fun z => ne (Prod.ext e z)) l
  · rw [if_neg (Ne.symm e)] at l
    rw [if_neg e]
    exact ksLt_total h e l
theorem reads_nr {P : Program} {w : World} {h : Heap} (last : List Str) (k : List Key) : ∀ {us : List Value}, ItsN P w h (k.map Sum.inl ++ [Sum.inr (last.map Sum.inr)]) us → ReadsAll h us (k.map kD ++ [.tuple (last.map PyData.str)]) [] := by
  induction k with
  | nil =>
    intro us x
    have x : ItsN P w h [Sum.inr (last.map Sum.inr)] us := x
    cases x with
    | cons h1 t =>
      cases t
      obtain ⟨c, rfl, xc⟩ := h1
      have r := xc.reads
      rw [kD_strs] at r
      exact .cons (as := []) r .nil
  | cons k0 ks ih =>
    intro us x
    rw [List.map_cons, List.cons_append] at x
    rw [List.map_cons, List.cons_append]
    cases x with
    | cons h1 t =>
      have h1 : (mixKind P w).is k0 _ = true := h1
      rcases keyIs_shape h1 with ⟨i, tk, rfl, rfl⟩ | ⟨y, tk, rfl, rfl⟩
      · exact .cons (as := []) (.int i tk) (ih t)
      · exact .cons (as := []) (.str y tk) (ih t)
theorem nrSh (p : NR) : nkSh (nrK p) = (p.1.map fun _ => true) ++ [false] := by
  unfold nkSh nrK
  rw [List.map_append, List.map_map]
  rfl
theorem NSq.readsR {X : Cx} {pins : List (Addr × Obj)} {σ : L2.St} {H : Hp} {s : Shared} (I : Inv X pins σ H s) {b : Addr} {p : NR} (h : NSq X.K H b (nrK p)) : Reads s.heap (.ref b) (nrD p) [] := by
  obtain ⟨_, o, its, n, q, c, d, r⟩ := nAt_of I h rfl
  exact .tuple q c d (reads_nr p.2 p.1 r)
def rSortN (K : PySem.W.Frag) (w : World) : List V → Hp → VK → Prop := fun xs H Q => ∃ (a : Addr) (ks : List (Addr × NR)) (sh : List Bool), xs = [V.ref a] ∧ H a = some (SetM w a (ks.map fun p => Value.ref p.1)) ∧
  (∀ p ∈ ks, NSq K H p.1 (nrK p.2)) ∧ (∀ p ∈ ks, shape p.2.1 = sh) ∧ sh ≠ [] ∧ (ks.map (·.2)).Nodup ∧ ks.length < 4000 ∧
  ∀ (p : Addr) (zs : List (Addr × NR)), zs.Perm ks → zs.Pairwise (fun x y => nrLt x.2 y.2 = true) → H p = none → Q (.ref p) (upd H p (.lst (zs.map fun q => V.ref q.1)))
theorem each_nr {h : Heap} : ∀ {ks : List (Addr × NR)}, (∀ p ∈ ks, Reads h (.ref p.1) (nrD p.2) []) →
    EachIs (fun v p => v = Value.ref p.1 ∧ Reads h v (nrD p.2) []) (ks.map fun p => Value.ref p.1) ks
  | [], _ => .nil
  | p :: ks, x => .cons ⟨rfl, x p List.mem_cons_self⟩ (each_nr fun q hq => x q (List.mem_cons_of_mem _ hq))
theorem nr_each {us : List Value} {ks : List (Addr × NR)} (e : EachIs (fun v p => v = Value.ref p.1) us ks) : us = ks.map fun p => Value.ref p.1 := by
  induction e with
  | nil => rfl
  | cons h _ ih => rw [h, ih, List.map_cons]
theorem nr_vals : ∀ (ks : List (Addr × NR)), Vals (ks.map fun p => V.ref p.1) (ks.map fun p => Value.ref p.1)
  | [] => .nil
  | _ :: ks => .cons rfl (nr_vals ks)
theorem nr_depth (p : NR) : (nrD p).depth ≤ 2 := by
  have main : ∀ ks : List Key, PyData.depthAll (ks.map kD ++ [.tuple (p.2.map PyData.str)]) ≤ 1 := by
    intro ks
    induction ks with
    | nil => simp [PyData.depthAll, PyData.depth, depth_strs]
    | cons k ks ih =>
      rw [List.map_cons, List.cons_append, PyData.depthAll]
      have e : (kD k).depth = 0 := by cases k <;> simp [kD, PyData.depth]
      rw [e]
      omega
  unfold nrD
  rw [PyData.depth]
  have := main p.1
  omega
theorem cr_sortN {X : Cx} (hc : X.calm = true) (hu : X.A.units + 7 < cLine) : CallR X (.builtin "sorted") (rSortN X.K X.w) := by
  intro pins s σ H xs us0 Q I r h
  obtain ⟨a, ks, sh, rfl, ha, hk, hs, ne, nd, few, q⟩ := h
  rw [Vals.ref1 r]
  have m : Members X.w s.heap a (ks.map fun p => Value.ref p.1) := (I.hok a _ ha).1
  refine sorted_members (P := X.prog) (R := fun v p => v = Value.ref p.1) (enc := fun p : Addr × NR => nrD p.2) m (I.ok.hd hc) (each_nr fun p hp => (hk p hp).readsR I) (fun cs pc => ?_) (fun cs pc => ?_) (fun b _ => ?_)
    fun z p out c cs kp g o le e pc eo => ?_
  · intro d hd d' hd'
    obtain ⟨p, hp, rfl⟩ := List.mem_map.mp hd
    obtain ⟨p', hp', rfl⟩ := List.mem_map.mp hd'
    exact nr_alike ((hs p (pc.mem_iff.mp hp)).trans (hs p' (pc.mem_iff.mp hp')).symm)
  · refine .inl fun d hd => ?_
    obtain ⟨p, hp, rfl⟩ := List.mem_map.mp hd
    have e := hs p (pc.mem_iff.mp hp)
    cases hq : p.2.1 with
    | nil =>
      rw [hq] at e
      exact absurd e.symm ne
    | cons k0 r0 => exact ⟨_, _, by unfold nrD; rw [hq, List.map_cons, List.cons_append]⟩
  · have := nr_depth b.2
    show X.A.units + 2 + (nrD b.2).depth < cLine
    omega
  · have pz : (cs.mergeSort (dataLe false fun p : Addr × NR => nrD p.2)).Perm ks := (List.mergeSort_perm cs _).trans pc
    have pw : (cs.mergeSort (dataLe false fun p : Addr × NR => nrD p.2)).Pairwise fun x y => nrLt x.2 y.2 = true := by
      have w1 := sort_pairwise (sortLe_total (listOrd itemOrd) false fun p : Addr × NR => keyToks (nrD p.2)) cs
      have nd2 : ((cs.mergeSort (dataLe false fun p : Addr × NR => nrD p.2)).map (·.2)).Nodup := (pz.map (·.2)).nodup_iff.mpr nd
      have nd3 := List.pairwise_map.mp nd2
      refine List.Pairwise.imp_of_mem (fun {x y} hx hy h => ?_) (List.Pairwise.and w1 nd3)
      have se : shape x.2.1 = shape y.2.1 := (hs x (pz.mem_iff.mp hx)).trans (hs y (pz.mem_iff.mp hy)).symm
      have e1 : (!dataLt (nrD y.2) (nrD x.2)) = true := h.1
      rw [nr_lt se.symm, Bool.not_eq_true'] at e1
      exact nrLt_total se h.2 e1
    generalize cs.mergeSort (dataLe false fun p : Addr × NR => nrD p.2) = zs at pz pw eo
    have few2 : (zs.map fun q => V.ref q.1).length ≤ sizeLine := by
      rw [List.length_map, pz.length_eq, sizeLine_eq]
      omega
    have rv : Vals (zs.map fun q => V.ref q.1) out.toList := by
      rw [nr_each eo]
      exact nr_vals zs
    exact ⟨.ref p, _, laid_list I kp g o le e rv few2, rfl, q p zs pz pw (I.hok.fresh le)⟩
end Q
set_option Elab.async false
set_option linter.all false
set_option maxRecDepth 100000
set_option maxHeartbeats 4000000
/-! a, *b = a list; enumerate(a list, start=k) -/
namespace Q
open PySem PySem.Spec PyProof.Rows L2 PySem.W
section
variable {prog : Program} {w : World} {A : Around} {E : Value → Shared → Prop} {s : Shared}
theorem head_rest {l : Addr} {items : Array Value} {x : Value} {xs : List Value} {Q : List Value → Shared → Prop} (isL : s.heap.IsList l items) (calm0 : A.handled = none) (ei : items.toList = x :: xs) (few : items.size ≤ 10000)
    (next : ∀ (hb : Heap) (tk : Nat), (∀ b o, s.heap.get? b = some o → hb.get? b = some o) → Q [x, .ref hb.objs.size] { s with heap := hb.push { cls := .type "list", data := .seq xs.toArray }, toks := tk }) :
    wpAny (model prog w) A (unpackItems (.ref l) 2 (some 1)) Q E s := by
  have nl : l ≠ s.heap.objs.size := let ⟨_, q, _⟩ := isL; Nat.ne_of_lt (Heap.lt_size q)
  have sz : items.size = xs.length + 1 := by rw [← Array.length_toList, ei, List.length_cons]
  unfold unpackItems notIterableAtAll
  refine wpAny_bind (wpAny_bind (wpAny_specialOf isL.typeIs slot_list_iter.lookup (wpAny_pure ?_)))
  rw [if_neg (by simp)]
  refine wpAny_bind (wpAny_holding (wpAny_pyIter_list isL (wpAny_bind (wpAny_holding ?_))))
  refine kun_draw nl 1 0 _ _ ⟨_, Heap.get?_push_size _ rfl, rfl, rfl⟩ (isL.push _) (by omega) fun ha ita sa => ?_
  have la : ha.IsList l items := (isL.push _).extBut sa.extBut nl
  have e1 : (items.toList.drop 0).take 1 = [x] := by rw [ei]; rfl
  rw [e1, if_neg (by simp)]
  have l1 : s.heap.objs.size < ha.objs.size := let ⟨_, q, _⟩ := ita; Heap.lt_size q
  have l2 : l < ha.objs.size := let ⟨_, q, _⟩ := la; Heap.lt_size q
  refine wpAny_bind (wpAny_holding (kun_collect (items := items) (s := { s with heap := ha }) (St := fun k h => h.IsListIter s.heap.objs.size l k ∧ h.IsList l items) (.inr (.inr (.inl rfl))) (Walks.list (A := A.in1) calm0 _ l nl items) (fun j u st => st.1.typeIs) (k := 1) (by omega) ⟨ita, la⟩ l1 l2 (fun hb tk kb => ?_) (by rw [sizeLine_eq]; omega)))
  have e2 : items.toList.drop 1 = xs := by rw [ei]; rfl
  rw [e2]
  dsimp only
  rw [if_neg (by omega)]
  rw [show xs.length - (2 - 1 - 1) = xs.length by omega, List.take_length, List.drop_length]
  refine wpAny_bind (wpAny_newList (wpAny_pure ?_) (by rw [sizeLine_eq]; omega))
  have up : ∀ b o, s.heap.get? b = some o → hb.get? b = some o := fun b o q => kb b o (fun z => by rw [z] at q; exact absurd (Heap.lt_size q) (Nat.lt_irrefl _)) (sa.extBut b o (fun z => by rw [z] at q; exact absurd (Heap.lt_size q) (Nat.lt_irrefl _)) (Heap.get?_push_of_some _ q))
  exact next hb tk up
end
def gHd (K : PySem.W.Frag) (t1 t2 : TG) : TG := fun v σ H Q => ∃ a x xs, v = .ref a ∧ SqL K H a (x :: xs) ∧ xs.length ≤ 9000 ∧ ∀ p, H p = none → t1 x σ (upd H p (.lst xs)) fun σ1 H1 => t2 (.ref p) σ1 H1 Q
theorem pg_hd {X : Cx} {e1 e2 : Expr} {k : Nat} {pos sp : Pos} {t1 t2 : TG} (hc : X.calm = true) (h1 : PG X e1 t1) (h2 : PG X e2 t2)
    (hs : assignEach [e1, .Starred e2 sp] X.env = [(false, assign e1 X.env), (true, assign e2 X.env)] := by rfl) : PG X (.Tuple [e1, .Starred e2 sp] k pos) (gHd X.K t1 t2) := by
  refine ⟨fun pins s σ H v u Q I r h => ?_⟩
  obtain ⟨a, x, xs, rfl, hq, few, h⟩ := h
  obtain rfl : u = Value.ref a := r
  obtain ⟨its, rv, pl, _⟩ := I.list hq
  cases rv with
  | @cons _ y _ ys rx rxs =>
    rw [PyProof.Rows.assign_Tuple]
    refine wpAny_bind (wpAny_standAt ?_)
    unfold unpack
    rw [hs]
    refine wpAny_bind (wpAny_holding (head_rest pl.isList (I.ok.hd hc) (x := y) (xs := ys) rfl (by have := rxs.length; rw [List.size_toArray, List.length_cons]; omega) fun hb tk up => ?_))
    have nD : H hb.objs.size = none := by
      cases e : H hb.objs.size with
      | none => rfl
      | some o => exact absurd ((I.hok.kept up).lt e) (Nat.lt_irrefl _)
    have hD : s.heap.get? hb.objs.size = none := by
      cases e : s.heap.get? hb.objs.size with
      | none => rfl
      | some o => exact absurd (Heap.lt_size (up _ _ e)) (Nat.lt_irrefl _)
    have I1 : Inv X pins σ (upd H hb.objs.size (.lst xs)) { s with heap := hb.push { cls := .type "list", data := .seq ys.toArray }, toks := tk } :=
      I.laidN (fun b o q => Heap.get?_push_of_some _ (up b o q)) hD nD ⟨by rw [sizeLine_eq]; omega, ys, 0, rxs, Heap.get?_push_size _ rfl⟩
    show wpAny _ _ (assignInOrder [assign e1 X.env, assign e2 X.env] [y, .ref hb.objs.size]) _ _ _
    refine assignInOrder_cons (thn (h1.run pins _ σ _ _ _ _ I1 rx (h _ nD)) fun _ s1 ⟨σ1, H1, J, q1⟩ => ?_)
    refine assignInOrder_cons (thn (h2.run pins s1 σ1 H1 (V.ref hb.objs.size) (Value.ref hb.objs.size) _ J rfl q1) fun _ s2 ⟨σ2, H2, J2, q2⟩ => ?_)
    exact wpAny_pure ⟨σ2, H2, J2, q2⟩
/-! enumerate(a list, start=k) -/
theorem draws_from {prog : Program} {w : World} {A : Around} (hh : A.handled = none) (it l : Addr) (nl : l ≠ it) (items : Array Value) (k : Nat) :
    Draws prog w A it [it, l] (k + items.size) (fun i v => ∃ j, i = k + j ∧ items[j]? = some v) (fun i h => ∃ j, i = k + j ∧ h.IsListIter it l j ∧ h.IsList l items) where
  live := fun i h ⟨j, _, st⟩ => (Draws.list (prog := prog) (w := w) hh it l nl items).live j h st
  frame := fun i h h' ⟨j, e, st⟩ kp => ⟨j, e, (Draws.list (prog := prog) (w := w) hh it l nl items).frame j h h' st kp⟩
  item := fun i s Q E hi ⟨j, e, st⟩ q => (Draws.list (prog := prog) (w := w) hh it l nl items).item j s Q E (by omega) st fun v h' tk hp st2 sb => q v h' tk ⟨j, e, hp⟩ ⟨j + 1, by omega, st2⟩ sb
  done := fun s Q E ⟨j, e, st⟩ q => (Draws.list (prog := prog) (w := w) hh it l nl items).done s Q E (by
    have z : j = items.size := by omega
    rw [← z]
    exact st) q
/-- the list at a as it stands at each turn, each item in a new pair with its number from k on -/
def ItS (K : PySem.W.Frag) (a : Addr) (k : Nat) : It where
  go := fun i H => ∃ (xs : List V) (x : V), SqL K H a xs ∧ xs[i]? = some x
  yld := fun i H v H' => ∃ T x, v = .ref T ∧ H T = none ∧ H' = upd H T (.tup [.int ((k + i : Nat) : Int), x]) ∧ ∀ xs, SqL K H a xs → xs[i]? = some x
  stop := fun i H => ∃ xs : List V, SqL K H a xs ∧ i = xs.length
theorem turn_enumS {P : Program} {w : World} {K : PySem.W.Frag} {elts : List Expr} {kk : Nat} {tpos : Pos} (a e it : Addr) (k : Nat) :
    Turn P w K (.Tuple elts kk tpos) (ItS K a k) [e, it] e (fun i h => (∃ old, IsEnum h e it ((k + i : Nat) : Int) old) ∧ h.IsListIter it a i ∧ e ≠ it ∧ a ≠ it ∧ a ≠ e) where
  mem := List.mem_cons_self
  obj := fun i h st b hb => by
    obtain ⟨⟨old, ie⟩, ⟨o, q, _, d⟩, _⟩ := st
    rcases List.mem_cons.mp hb with z | z
    · rw [z]
      exact ⟨_, ie, fun v y => nomatch y⟩
    · rw [List.mem_singleton.mp z]
      exact ⟨o, q, fun v y => by rw [d] at y; cases y⟩
  keep := fun i h h' st kp => by
    obtain ⟨⟨old, ie⟩, ⟨o, q, r⟩, ne⟩ := st
    exact ⟨⟨old, kp e (by simp) _ ie⟩, ⟨o, kp it (by simp) o q, r⟩, ne⟩
  item := by
    intro X e1 e2 e3 hc i pins s σ H E I hf st hg
    subst e1 e2 e3
    obtain ⟨⟨old, ie⟩, ti, ne, ne2, ne3⟩ := st
    obtain ⟨xs, x, hq, hx⟩ := hg
    obtain ⟨its, rv, pl, _⟩ := I.list hq
    obtain ⟨u, hu, ru⟩ := rv.get hx
    have le : e < s.heap.objs.size := Heap.lt_size ie
    have lit : it < s.heap.objs.size := let ⟨_, q, _⟩ := ti; Heap.lt_size q
    have lt : i < its.toArray.size := by
      have := (List.getElem?_eq_some_iff.mp hu).1
      rw [List.size_toArray]
      exact this
    have hh : X.A.in1.handled = none := I.ok.hd hc
    refine wpAny_pyNext_enum_itemD (draws_from hh it a ne2 its.toArray k) ie ⟨i, rfl, ti, pl.isList⟩ (by omega) ne (by
      simp only [List.mem_cons, List.not_mem_nil, or_false, not_or]
      exact ⟨ne, fun z => ne3 z.symm⟩) fun u2 h' tk pu io st2 hT _ hk => ?_
    obtain ⟨j, ej, ti2, _⟩ := st2
    obtain rfl : i + 1 = j := by omega
    obtain rfl : u2 = u := by
      obtain ⟨j2, e2, pu⟩ := pu
      obtain rfl : i = j2 := by omega
      have q : its[i]? = some u2 := by simpa using pu
      rw [hu] at q
      exact (Option.some.inj q).symm
    refine ⟨_, rfl, wpAny_letOwnedTupleGo_enum (s := { s with heap := h', toks := tk + 1 }) io fun h'' ie2 sb => ?_⟩
    have hT2 : h''.get? s.heap.objs.size = some { cls := .type "tuple", data := .seq #[.int ((k + i : Nat) : Int) tk, u2] } := (sb.2 _ (Nat.ne_of_gt le)).trans hT
    have new : ObjOk X.prog X.w (upd H s.heap.objs.size (.tup [.int ((k + i : Nat) : Int), x])) h'' s.heap.objs.size (.tup [.int ((k + i : Nat) : Int), x]) :=
      ⟨by show 2 ≤ sizeLine; decide, [.int ((k + i : Nat) : Int) tk, u2], .cons ⟨_, rfl⟩ (.cons ru .nil), ⟨_, hT2, rfl, _, rfl⟩⟩
    have I1 : Inv X pins σ (upd H s.heap.objs.size (.tup [.int ((k + i : Nat) : Int), x])) { s with heap := h'', toks := tk + 1 } :=
      I.turnedNew (ch := [e, it]) (fun b o nb q => (sb.2 b fun z => nb (by simp [z])).trans (hk b o (fun z => nb (by simp [z])) (fun z => nb (by simp [z])) q)) hf (Nat.le_refl _) new
    refine ⟨.ref s.heap.objs.size, _, I1, rfl, ⟨_, x, rfl, I.hok.fresh (Nat.le_refl _), rfl, fun ys hy => by rw [I.list_inj hy hq]; exact hx⟩, ⟨⟨u2, ?_⟩, ti2.at fun o q => (sb.2 it (Ne.symm ne)).trans q, ne, ne2, ne3⟩, fun b hb => ?_⟩
    · rw [show ((k + (i + 1) : Nat) : Int) = ((k + i : Nat) : Int) + 1 by omega]
      exact ie2
    · have lb : b < s.heap.objs.size := by
        rcases List.mem_cons.mp hb with z | z
        · rw [z]; exact le
        · rw [List.mem_singleton.mp z]; exact lit
      rw [upd_ne (Nat.ne_of_lt lb)]
      exact (hf b hb).1
  done := by
    intro X e1 e2 e3 hc i pins s σ H E I hf st hg
    subst e1 e2 e3
    obtain ⟨⟨old, ie⟩, ti, ne, ne2, ne3⟩ := st
    obtain ⟨xs, hq, hx⟩ := hg
    obtain ⟨its, rv, pl, _⟩ := I.list hq
    obtain ⟨f0, f1, f2, f3, f4, f5⟩ := hf it (by simp)
    have hl := rv.length
    subst hx
    have hh : X.A.in1.handled = none := I.ok.hd hc
    exact wpAny_pyNext_enum_endD (draws_from hh it a ne2 its.toArray k) ie ⟨_, by rw [List.size_toArray, hl], ti, pl.isList⟩ fun h' eb => ⟨rfl, I.turned (t' := s.toks) (fun b o hb q => eb b o hb q) f0 f1 f3 f4 f5⟩
  self := fun A i s Q E st h => by
    obtain ⟨⟨_, ie⟩, _⟩ := st
    exact wpAny_pyIter_enum ie h
theorem type_kw {M : Model} {A : Around} {E : Value → Shared → Prop} {s : Shared} {pos : Pos} {T : String} {args : List (Bool × Sem Value)} {kws : List (Option Str × Sem Value)} {Q : Value → Shared → Prop} (pl : args.any (·.1) = false) (nm : kws.any (·.1.isNone) = false)
    (h : wpAny M A (evalArgs (.type T) true args kws) (fun a t => wpAny M A (call (.type T) a.pos a.kw) Q E t) E s) : wpAny M A (callWith pos (.type T) [] args kws) Q E s := by
  unfold callWith
  refine wpAny_bind (wpAny_holding (wpAny_mono h (fun a t q => wpAny_bind (wpAny_standAt ?_)) fun _ _ z => z))
  simp only [pl, nm, Bool.or_false]
  exact wpAny_bind (wpAny_pure (wpAny_bind (wpAny_mono q (fun r t2 q2 => wpAny_bind (wpAny_holding (wpAny_point (wpAny_pure q2)))) fun _ _ z => z)))
theorem walk_enumS {K : PySem.W.Frag} {a : Addr} {k : Nat} {xs : List V} : Walk (ItS K a k) xs.length (fun H => SqL K H a xs) (YPair (fun i => some (.int ((k + i : Nat) : Int))) (fun i => xs[i]?)) := by
  refine ⟨fun i _ hi q => ⟨xs, xs[i], q, by simp [hi]⟩, fun _ q => ⟨xs, q, rfl⟩, fun i H v H' _ q y => ?_⟩
  obtain ⟨T, x, h1, h2, h3, h4⟩ := y
  exact ⟨T, _, x, h1, h2, h3, rfl, h4 xs q⟩
def iEnumS (K : PySem.W.Frag) (t tk : TA) : TI := fun σ H R => t σ H fun vs H1 => tk σ H1 fun zs H2 => ∃ (a : Addr) (xs : List V) (k : Nat), vs = [.ref a] ∧ zs = [.int (k : Int)] ∧ k < 1000 ∧ SqL K H2 a xs ∧ R (ItS K a k) H2
theorem pi_enumS {X : Cx} {e : Expr} {kws : List Keyword} {t tk : TA} {p pos tpos : Pos} {elts : List Expr} {kk : Nat} (hg : Gl X "enumerate") (hm : X.mg "enumerate" = none) (ha : PA X [e] t) (hk : PK X kws tk)
    (st : backTo pos (starEach [e] X.env) = (false, eval e X.env) :: backTo pos (starEach [] X.env) := by rfl) (pl : (backTo pos (starEach [e] X.env)).any (·.1) = false := by rfl)
    (all : (backToKw pos (keywordEach kws X.env)).all (·.1.isSome) = true := by rfl) (nm : (backToKw pos (keywordEach kws X.env)).any (·.1.isNone) = false := by rfl) (ns : (backToKw pos (keywordEach kws X.env)).filterMap (·.1) = [Str.ofString "start"] := by rfl) :
    PI X (.Tuple elts kk tpos) (.Call (.Name "enumerate" p) [e] kws pos) (iEnumS X.K t tk) := by
  refine ⟨fun pins s σ H R I h => ?_⟩
  refine wpAny_Call_Name_kw (ld_blt I hg hm boot_enumerate (type_kw pl nm ?_))
  rw [st]
  refine evalArgs_kwB all ?_
  rw [← st]
  refine thn (ha.run pos pins s σ H _ I h) fun us s1 ⟨vs, H1, I1, r1, q1⟩ => thn (hk.run pos pins s1 σ H1 _ I1 q1) fun ws s2 ⟨zs, H2, I2, r2, q2⟩ => ?_
  obtain ⟨a, xs, k, rfl, rfl, lk, hq, q⟩ := q2
  rw [ns, Vals.ref1 r1]
  obtain ⟨w1, rfl, tk, rfl⟩ : ∃ w1, ws = [w1] ∧ ∃ tk, w1 = .int (k : Int) tk := by
    cases r2 with
    | cons r rr =>
      cases rr
      obtain ⟨tk, rfl⟩ := r
      exact ⟨_, rfl, _, rfl⟩
  obtain ⟨its, rv, pl2, _⟩ := I2.list hq
  have la : a < s2.heap.objs.size := let ⟨_, q, _⟩ := pl2.isList; Heap.lt_size q
  show wpAny _ _ (call (.type "enumerate") [.ref a] [(Str.ofString "start", .int (k : Int) tk)]) _ _ _
  refine enum_begins_start (begins_list a its.toArray) pl2.isList (by omega) (by omega) fun h' ie ti _ up => wpAny_pyIter_enum ie ?_
  have I3 : Inv X pins σ H2 { s2 with heap := h' } := I2.kept (t' := s2.toks) up
  refine ⟨s2.heap.objs.size + 1, [s2.heap.objs.size + 1, s2.heap.objs.size], _, _, H2, rfl, I3, turn_enumS a (s2.heap.objs.size + 1) s2.heap.objs.size k,
    ⟨⟨.none, ie⟩, ⟨_, ti, rfl, rfl⟩, Nat.succ_ne_self _, Nat.ne_of_lt la, Nat.ne_of_lt (Nat.lt_succ_of_lt la)⟩, fun b hb => ?_, q⟩
  have le : s2.heap.objs.size ≤ b := by
    rcases List.mem_cons.mp hb with z | z
    · rw [z]; exact Nat.le_succ _
    · rw [List.mem_singleton.mp z]; exact Nat.le_refl _
  exact I2.fpOk le (I2.hok.fresh le)
end Q
set_option Elab.async false
set_option linter.all false
set_option maxRecDepth 100000
set_option maxHeartbeats 4000000
namespace Toy
open PySem L2 Q
def topS (i : Nat) : Stmt := PySem.Challenge.pw_quietturns_k64_texts_of_no_net.main.body.getD i (.Pass ⟨0, 0, 0, 0⟩)
abbrev s__wall : Stmt := topS 0
abbrev N__wall : List Str := ["k"]
theorem sc__wall : FnScope N__wall ["k"] (defScope s__wall) := ⟨rfl, rfl, rfl, by decide +kernel, rfl, by decide +kernel, by decide +kernel⟩
abbrev s_is_integer : Stmt := topS 9
abbrev N_is_integer : List Str := ["value"]
theorem sc_is_integer : FnScope N_is_integer ["value"] (defScope s_is_integer) := ⟨rfl, rfl, rfl, by decide +kernel, rfl, by decide +kernel, by decide +kernel⟩
abbrev s_is_integer_from : Stmt := topS 10
abbrev N_is_integer_from : List Str := ["value", "least"]
theorem sc_is_integer_from : FnScope N_is_integer_from ["value", "least"] (defScope s_is_integer_from) := ⟨rfl, rfl, rfl, by decide +kernel, rfl, by decide +kernel, by decide +kernel⟩
abbrev s_is_name : Stmt := topS 11
abbrev N_is_name : List Str := ["value", "letter"]
theorem sc_is_name : FnScope N_is_name ["value"] (defScope s_is_name) := ⟨rfl, rfl, rfl, by decide +kernel, rfl, by decide +kernel, by decide +kernel⟩
abbrev s_is_rising : Stmt := topS 12
abbrev N_is_rising : List Str := ["values", "low", "high"]
theorem sc_is_rising : FnScope N_is_rising ["values"] (defScope s_is_rising) := ⟨rfl, rfl, rfl, by decide +kernel, rfl, by decide +kernel, by decide +kernel⟩
abbrev s_number_of : Stmt := topS 15
abbrev N_number_of : List Str := ["word", "digit"]
theorem sc_number_of : FnScope N_number_of ["word"] (defScope s_number_of) := ⟨rfl, rfl, rfl, by decide +kernel, rfl, by decide +kernel, by decide +kernel⟩
abbrev s_need_routers : Stmt := topS 21
abbrev N_need_routers : List Str := ["net", "a", "b"]
theorem sc_need_routers : FnScope N_need_routers ["net", "a", "b"] (defScope s_need_routers) := ⟨rfl, rfl, rfl, by decide +kernel, rfl, by decide +kernel, by decide +kernel⟩
abbrev s_need_router : Stmt := topS 22
abbrev N_need_router : List Str := ["net", "value"]
theorem sc_need_router : FnScope N_need_router ["net", "value"] (defScope s_need_router) := ⟨rfl, rfl, rfl, by decide +kernel, rfl, by decide +kernel, by decide +kernel⟩
abbrev s_is_length : Stmt := topS 23
abbrev N_is_length : List Str := ["value"]
theorem sc_is_length : FnScope N_is_length ["value"] (defScope s_is_length) := ⟨rfl, rfl, rfl, by decide +kernel, rfl, by decide +kernel, by decide +kernel⟩
abbrev s_are_routers : Stmt := topS 24
abbrev N_are_routers : List Str := ["value", "name"]
theorem sc_are_routers : FnScope N_are_routers ["value"] (defScope s_are_routers) := ⟨rfl, rfl, rfl, by decide +kernel, rfl, by decide +kernel, by decide +kernel⟩
abbrev s_are_links : Stmt := topS 25
abbrev N_are_links : List Str := ["value", "routers", "link"]
theorem sc_are_links : FnScope N_are_links ["value", "routers"] (defScope s_are_links) := ⟨rfl, rfl, rfl, by decide +kernel, rfl, by decide +kernel, by decide +kernel⟩
abbrev s_is_link : Stmt := topS 26
abbrev N_is_link : List Str := ["value", "routers", "a", "b", "there", "back"]
theorem sc_is_link : FnScope N_is_link ["value", "routers"] (defScope s_is_link) := ⟨rfl, rfl, rfl, by decide +kernel, rfl, by decide +kernel, by decide +kernel⟩
abbrev s_read_net : Stmt := topS 28
abbrev N_read_net : List Str := ["text", "routers", "links"]
theorem sc_read_net : FnScope N_read_net ["text"] (defScope s_read_net) := ⟨rfl, rfl, rfl, by decide +kernel, rfl, by decide +kernel, by decide +kernel⟩
abbrev s_rows_of : Stmt := topS 29
abbrev N_rows_of : List Str := ["text"]
theorem sc_rows_of : FnScope N_rows_of ["text"] (defScope s_rows_of) := ⟨rfl, rfl, rfl, by decide +kernel, rfl, by decide +kernel, by decide +kernel⟩
abbrev s_net_parts : Stmt := topS 30
abbrev N_net_parts : List Str := ["rows", "routers", "links", "at", "row", "link"]
theorem sc_net_parts : FnScope N_net_parts ["rows"] (defScope s_net_parts) := ⟨rfl, rfl, rfl, by decide +kernel, rfl, by decide +kernel, by decide +kernel⟩
abbrev s_routers_of : Stmt := topS 31
abbrev N_routers_of : List Str := ["row", "word", "names", "name"]
theorem sc_routers_of : FnScope N_routers_of ["row"] (defScope s_routers_of) := ⟨rfl, rfl, rfl, by decide +kernel, rfl, by decide +kernel, by decide +kernel⟩
abbrev s_link_of : Stmt := topS 32
abbrev N_link_of : List Str := ["row", "words", "a", "b", "there", "back"]
theorem sc_link_of : FnScope N_link_of ["row"] (defScope s_link_of) := ⟨rfl, rfl, rfl, by decide +kernel, rfl, by decide +kernel, by decide +kernel⟩
abbrev s_l_pot : Stmt := topS 34
abbrev N_l_pot : List Str := ["_law_script", "_law_k", "_law_cell", "_law_own"]
theorem sc_l_pot : FnScope N_l_pot ["_law_script", "_law_k"] (defScope s_l_pot) := ⟨rfl, rfl, rfl, by decide +kernel, rfl, by decide +kernel, by decide +kernel⟩
abbrev s_l_take : Stmt := topS 35
abbrev N_l_take : List Str := ["_law_pot_here", "_law_upto", "_law_digit", "_law_prime", "_law_stirred"]
theorem sc_l_take : FnScope N_l_take ["_law_pot_here", "_law_upto"] (defScope s_l_take) := ⟨rfl, rfl, rfl, by decide +kernel, rfl, by decide +kernel, by decide +kernel⟩
abbrev s_l_pots : Stmt := topS 36
abbrev N_l_pots : List Str := ["_law_script", "_law_most", "_law_k"]
theorem sc_l_pots : FnScope N_l_pots ["_law_script", "_law_most"] (defScope s_l_pots) := ⟨rfl, rfl, rfl, by decide +kernel, rfl, by decide +kernel, by decide +kernel⟩
abbrev s_l_of : Stmt := topS 37
abbrev N_l_of : List Str := ["_law_pot_here", "_law_some"]
theorem sc_l_of : FnScope N_l_of ["_law_pot_here", "_law_some"] (defScope s_l_of) := ⟨rfl, rfl, rfl, by decide +kernel, rfl, by decide +kernel, by decide +kernel⟩
abbrev s_l_turned : Stmt := topS 38
abbrev N_l_turned : List Str := ["_law_pot_here", "_law_some", "_law_at", "_law_row"]
theorem sc_l_turned : FnScope N_l_turned ["_law_pot_here", "_law_some"] (defScope s_l_turned) := ⟨rfl, rfl, rfl, by decide +kernel, rfl, by decide +kernel, by decide +kernel⟩
abbrev s_l_names : Stmt := topS 39
abbrev N_l_names : List Str := ["_law_pot_here", "_law_many", "_law_small", "_law_stem", "_law_turn", "_law_spot", "_law_at", "_law_found", "_law_k"]
theorem sc_l_names : FnScope N_l_names ["_law_pot_here", "_law_many"] (defScope s_l_names) := ⟨rfl, rfl, rfl, by decide +kernel, rfl, by decide +kernel, by decide +kernel⟩
abbrev s_l_far : Stmt := topS 40
abbrev N_l_far : List Str := ["_law_pot_here"]
theorem sc_l_far : FnScope N_l_far ["_law_pot_here"] (defScope s_l_far) := ⟨rfl, rfl, rfl, by decide +kernel, rfl, by decide +kernel, by decide +kernel⟩
abbrev s_l_pairs : Stmt := topS 41
abbrev N_l_pairs : List Str := ["_law_pot_here", "_law_routers", "_law_many", "_law_order", "_law_found", "_law_is_joined", "_law_at", "_law_other", "_law_rest", "_law_a", "_law_b"]
theorem sc_l_pairs : FnScope N_l_pairs ["_law_pot_here", "_law_routers", "_law_many"] (defScope s_l_pairs) := ⟨rfl, rfl, rfl, by decide +kernel, rfl, by decide +kernel, by decide +kernel⟩
abbrev s_l_world : Stmt := topS 42
abbrev N_l_world : List Str := ["_law_pot_here", "_law_least", "_law_most", "_law_more", "_law_many", "_law_routers", "_law_pairs_here", "_law_links", "_law_is_even", "_law_a", "_law_b", "_law_there"]
theorem sc_l_world : FnScope N_l_world ["_law_pot_here", "_law_least", "_law_most", "_law_more"] (defScope s_l_world) := ⟨rfl, rfl, rfl, by decide +kernel, rfl, by decide +kernel, by decide +kernel⟩
abbrev s_l_odd : Stmt := topS 43
abbrev N_l_odd : List Str := ["_law_pot_here", "_law_some"]
theorem sc_l_odd : FnScope N_l_odd ["_law_pot_here"] (defScope s_l_odd) := ⟨rfl, rfl, rfl, by decide +kernel, rfl, by decide +kernel, by decide +kernel⟩
abbrev s_l_caught : Stmt := topS 44
abbrev N_l_caught : List Str := ["_law_look", "_law_caught_here", "error"]
theorem sc_l_caught : FnScope N_l_caught ["_law_look"] (defScope s_l_caught) := ⟨rfl, rfl, rfl, by decide +kernel, rfl, by decide +kernel, by decide +kernel⟩
abbrev s_l_is_name : Stmt := topS 45
abbrev N_l_is_name : List Str := ["_law_value", "_law_sign"]
theorem sc_l_is_name : FnScope N_l_is_name ["_law_value"] (defScope s_l_is_name) := ⟨rfl, rfl, rfl, by decide +kernel, rfl, by decide +kernel, by decide +kernel⟩
abbrev s_l_net_page : Stmt := topS 46
abbrev N_l_net_page : List Str := ["_law_world_here", "_law_rows", "_law_a", "_law_b", "_law_there", "_law_back"]
theorem sc_l_net_page : FnScope N_l_net_page ["_law_world_here"] (defScope s_l_net_page) := ⟨rfl, rfl, rfl, by decide +kernel, rfl, by decide +kernel, by decide +kernel⟩
abbrev s_l_is_number : Stmt := topS 47
abbrev N_l_is_number : List Str := ["_law_word", "_law_sign"]
theorem sc_l_is_number : FnScope N_l_is_number ["_law_word"] (defScope s_l_is_number) := ⟨rfl, rfl, rfl, by decide +kernel, rfl, by decide +kernel, by decide +kernel⟩
abbrev s_l_link_read : Stmt := topS 48
abbrev N_l_link_read : List Str := ["_law_row", "_law_words"]
theorem sc_l_link_read : FnScope N_l_link_read ["_law_row"] (defScope s_l_link_read) := ⟨rfl, rfl, rfl, by decide +kernel, rfl, by decide +kernel, by decide +kernel⟩
abbrev s_l_net_read : Stmt := topS 49
abbrev N_l_net_read : List Str := ["_law_rows", "_law_words", "_law_word", "_law_links", "_law_many"]
theorem sc_l_net_read : FnScope N_l_net_read ["_law_rows"] (defScope s_l_net_read) := ⟨rfl, rfl, rfl, by decide +kernel, rfl, by decide +kernel, by decide +kernel⟩
abbrev s_l_is_world : Stmt := topS 50
abbrev N_l_is_world : List Str := ["_law_routers", "_law_links", "_law_pairs_here", "_law_link", "_law_a", "_law_b", "_law_there", "_law_back"]
theorem sc_l_is_world : FnScope N_l_is_world ["_law_routers", "_law_links"] (defScope s_l_is_world) := ⟨rfl, rfl, rfl, by decide +kernel, rfl, by decide +kernel, by decide +kernel⟩
abbrev s_l_bent_page : Stmt := topS 51
abbrev N_l_bent_page : List Str := ["_law_pot_here", "_law_page", "_law_way", "_law_at", "_law_rows", "_law_sign", "_law_k"]
theorem sc_l_bent_page : FnScope N_l_bent_page ["_law_pot_here", "_law_page"] (defScope s_l_bent_page) := ⟨rfl, rfl, rfl, by decide +kernel, rfl, by decide +kernel, by decide +kernel⟩
abbrev s_l_heard : Stmt := topS 52
abbrev N_l_heard : List Str := ["_law_value", "_law_caught_here", "_law_read"]
theorem sc_l_heard : FnScope N_l_heard ["_law_value"] (defScope s_l_heard) := ⟨rfl, rfl, rfl, by decide +kernel, rfl, by decide +kernel, by decide +kernel⟩
abbrev s_l_due : Stmt := topS 53
abbrev N_l_due : List Str := ["_law_value", "_law_rows", "_law_parts", "_law_many"]
theorem sc_l_due : FnScope N_l_due ["_law_value"] (defScope s_l_due) := ⟨rfl, rfl, rfl, by decide +kernel, rfl, by decide +kernel, by decide +kernel⟩
abbrev s_l_fine : Stmt := topS 54
abbrev N_l_fine : List Str := ["_law_pot_here", "_law_page", "_law_turn"]
theorem sc_l_fine : FnScope N_l_fine ["_law_pot_here"] (defScope s_l_fine) := ⟨rfl, rfl, rfl, by decide +kernel, rfl, by decide +kernel, by decide +kernel⟩
abbrev s_law : Stmt := topS 55
abbrev N_law : List Str := ["_law_script", "_law_pot_here", "_law_turn"]
theorem sc_law : FnScope N_law ["_law_script"] (defScope s_law) := ⟨rfl, rfl, rfl, by decide +kernel, rfl, by decide +kernel, by decide +kernel⟩
abbrev s_m_init : Stmt := inClass (topS 20) 0
abbrev N_m_init : List Str := ["self", "routers", "links"]
theorem sc_m_init : FnScope N_m_init ["self", "routers", "links"] (defScope s_m_init) := ⟨rfl, rfl, rfl, by decide +kernel, rfl, by decide +kernel, by decide +kernel⟩
abbrev s_m_routers : Stmt := inClass (topS 20) 1
abbrev N_m_routers : List Str := ["self"]
theorem sc_m_routers : FnScope N_m_routers ["self"] (defScope s_m_routers) := ⟨rfl, rfl, rfl, by decide +kernel, rfl, by decide +kernel, by decide +kernel⟩
abbrev s_m_links : Stmt := inClass (topS 20) 2
abbrev N_m_links : List Str := ["self"]
theorem sc_m_links : FnScope N_m_links ["self"] (defScope s_m_links) := ⟨rfl, rfl, rfl, by decide +kernel, rfl, by decide +kernel, by decide +kernel⟩
abbrev s_m_u_eq_ : Stmt := inClass (topS 20) 3
abbrev N_m_u_eq_ : List Str := ["self", "other"]
theorem sc_m_u_eq_ : FnScope N_m_u_eq_ ["self", "other"] (defScope s_m_u_eq_) := ⟨rfl, rfl, rfl, by decide +kernel, rfl, by decide +kernel, by decide +kernel⟩
abbrev s_m_length : Stmt := inClass (topS 20) 4
abbrev N_m_length : List Str := ["self", "a", "b", "low", "high", "there", "back"]
theorem sc_m_length : FnScope N_m_length ["self", "a", "b"] (defScope s_m_length) := ⟨rfl, rfl, rfl, by decide +kernel, rfl, by decide +kernel, by decide +kernel⟩
abbrev s_m_with_link : Stmt := inClass (topS 20) 5
abbrev N_m_with_link : List Str := ["self", "a", "b", "there", "back"]
theorem sc_m_with_link : FnScope N_m_with_link ["self", "a", "b", "there", "back"] (defScope s_m_with_link) := ⟨rfl, rfl, rfl, by decide +kernel, rfl, by decide +kernel, by decide +kernel⟩
abbrev s_m_without : Stmt := inClass (topS 20) 6
abbrev N_m_without : List Str := ["self", "a", "b", "others"]
theorem sc_m_without : FnScope N_m_without ["self", "a", "b"] (defScope s_m_without) := ⟨rfl, rfl, rfl, by decide +kernel, rfl, by decide +kernel, by decide +kernel⟩
abbrev s_m_u_links_without : Stmt := inClass (topS 20) 7
abbrev N_m_u_links_without : List Str := ["self", "a", "b", "link"]
theorem sc_m_u_links_without : FnScope N_m_u_links_without ["self", "a", "b"] (defScope s_m_u_links_without) := ⟨rfl, rfl, rfl, by decide +kernel, rfl, by decide +kernel, by decide +kernel⟩

/-- what the written part says of NetError -/
structure ErrN (K : PySem.W.Frag) (mg : Str → Option Value) (C : Addr) : Prop where
  g : mg "NetError" = some (.ref C)
  xL : ∃ nm q N bs sn sub ab col dd k0 k1 k2 k3 k5, K.lookup C = some (excClassObj nm q C N bs PySem.HandSPX.veTail true sn sub ab col dd k0 k1 k2 k3 k5 "ValueError.__new__")
/-- .. and of a class below it -/
structure ErrC (K : PySem.W.Frag) (mg : Str → Option Value) (nm : Str) (C Cn : Addr) : Prop where
  g : mg nm = some (.ref C)
  xL : ∃ nm q N bs sn sub ab col dd k0 k1 k2 k3 k5, K.lookup C = some (excClassObj nm q C N bs (.ref Cn :: PySem.HandSPX.veTail) true sn sub ab col dd k0 k1 k2 k3 k5 "ValueError.__new__")
  sa : PySem.W.findIn K (.ref C) "__setattr__" = some (some (.builtin "object.__setattr__"))
  ga : PySem.W.findIn K (.ref C) "__getattribute__" = some (some (.builtin "BaseException.__getattribute__"))
  gg : PySem.W.findIn K (.ref C) "__getattr__" = some none
  hc : PySem.W.findIn K (.ref C) "__class__" = some (some (.builtin "object.__class__"))
  kC : PySem.W.keepIn K (.ref C) = true
structure Txt (K : PySem.W.Frag) (mg : Str → Option Value) (ca ia fa : Nat → Addr) (fd fi : Nat → FuncData) : Prop where
  n_abs : mg "abs" = none
  n_all : mg "all" = none
  n_any : mg "any" = none
  n_bool : mg "bool" = none
  n_enumerate : mg "enumerate" = none
  n_int : mg "int" = none
  n_isinstance : mg "isinstance" = none
  n_len : mg "len" = none
  n_list : mg "list" = none
  n_max : mg "max" = none
  n_min : mg "min" = none
  n_range : mg "range" = none
  n_repr : mg "repr" = none
  n_set : mg "set" = none
  n_sorted : mg "sorted" = none
  n_str : mg "str" = none
  n_tuple : mg "tuple" = none
  n_zip : mg "zip" = none
  v_LONGEST_NAME : ∃ t, mg "LONGEST_NAME" = some (.int 8 t)
  v_MOST_DIGITS : ∃ t, mg "MOST_DIGITS" = some (.int 9 t)
  v_FEWEST_ROUTERS : ∃ t, mg "FEWEST_ROUTERS" = some (.int 2 t)
  v_MOST_ROUTERS : ∃ t, mg "MOST_ROUTERS" = some (.int 8 t)
  v_MOST_LINKS : ∃ t, mg "MOST_LINKS" = some (.int 16 t)
  hn : PySem.W.specialIn K (.builtin "object.__class__") "__get__" = some (some (.builtin "getset_descriptor.__get__"))
  ht : PySem.W.takesIn K (.builtin "object.__class__") = some true
  cN : ErrN K mg (ca 2)
  c_BadNet : ErrC K mg "BadNet" (ca 3) (ca 2)
  FI_BadNet : Fun K "__init__" "BadNet.__init__" (inClass (topS 3) 0) (ia 3) (fi 3)
  iC_BadNet : PySem.W.findIn K (.ref (ca 3)) "__init__" = some (some (.ref (ia 3)))
  tI_BadNet : PySem.W.typeIn K (.ref (ia 3)) = some (.type "function")
  no_BadNet_value : PySem.W.findIn K (.ref (ca 3)) "value" = some none
  c_NoRouter : ErrC K mg "NoRouter" (ca 4) (ca 2)
  FI_NoRouter : Fun K "__init__" "NoRouter.__init__" (inClass (topS 4) 0) (ia 4) (fi 4)
  iC_NoRouter : PySem.W.findIn K (.ref (ca 4)) "__init__" = some (some (.ref (ia 4)))
  tI_NoRouter : PySem.W.typeIn K (.ref (ia 4)) = some (.type "function")
  no_NoRouter_value : PySem.W.findIn K (.ref (ca 4)) "value" = some none
  c_NoLink : ErrC K mg "NoLink" (ca 5) (ca 2)
  FI_NoLink : Fun K "__init__" "NoLink.__init__" (inClass (topS 5) 0) (ia 5) (fi 5)
  iC_NoLink : PySem.W.findIn K (.ref (ca 5)) "__init__" = some (some (.ref (ia 5)))
  tI_NoLink : PySem.W.typeIn K (.ref (ia 5)) = some (.type "function")
  no_NoLink_value : PySem.W.findIn K (.ref (ca 5)) "value" = some none
  c_BadText : ErrC K mg "BadText" (ca 6) (ca 2)
  FI_BadText : Fun K "__init__" "BadText.__init__" (inClass (topS 6) 0) (ia 6) (fi 6)
  iC_BadText : PySem.W.findIn K (.ref (ca 6)) "__init__" = some (some (.ref (ia 6)))
  tI_BadText : PySem.W.typeIn K (.ref (ia 6)) = some (.type "function")
  no_BadText_value : PySem.W.findIn K (.ref (ca 6)) "value" = some none
  g_Net : mg "Net" = some (.ref (ca 20))
  nd : ([ca 2, ca 3, ca 4, ca 5, ca 6] : List Addr).Nodup
  cl_Net : Cls K (ca 20)
  M_Net : Mk K (ca 20) (ia 100)
  no_Net_routers : NoAttr K (ca 20) "_routers"
  no_Net_links : NoAttr K (ca 20) "_links"
  F_m_init : Fun K "__init__" "Net.__init__" s_m_init (ia 100) (fi 100)
  F_m_routers : Fun K "routers" "Net.routers" s_m_routers (ia 101) (fi 101)
  P_routers : ∃ pa, PropOf K (ca 20) "routers" pa (ia 101)
  F_m_links : Fun K "links" "Net.links" s_m_links (ia 102) (fi 102)
  P_links : ∃ pa, PropOf K (ca 20) "links" pa (ia 102)
  F_m_u_eq_ : Fun K "__eq__" "Net.__eq__" s_m_u_eq_ (ia 103) (fi 103)
  E_Net : PySem.W.findIn K (.ref (ca 20)) "__eq__" = some (some (.ref (ia 103))) ∧ PySem.W.isFn K (.ref (ia 103)) = true
  N_Net : PySem.W.findIn K (.ref (ca 20)) "__ne__" = some (some (.builtin "object.__ne__"))
  O_Net : PySem.W.mroIn K (ca 20) (.type "object") = some true
  H_Net : PySem.W.findIn K (.ref (ca 20)) "__class__" = some (some (.builtin "object.__class__"))
  I_Net : PySem.W.typeIn K (.ref (ca 20)) = some (.type "type")
  F_m_length : Fun K "length" "Net.length" s_m_length (ia 104) (fi 104)
  Me_m_length : Meth K (ca 20) "length" (ia 104)
  F_m_with_link : Fun K "with_link" "Net.with_link" s_m_with_link (ia 105) (fi 105)
  F_m_without : Fun K "without" "Net.without" s_m_without (ia 106) (fi 106)
  Me_m_without : Meth K (ca 20) "without" (ia 106)
  F_m_u_links_without : Fun K "_links_without" "Net._links_without" s_m_u_links_without (ia 107) (fi 107)
  Me_m_u_links_without : Meth K (ca 20) "_links_without" (ia 107)
  F__wall : Fun K "_wall" "_wall" s__wall (fa 0) (fd 0)
  g__wall : mg "_wall" = some (.ref (fa 0))
  F_is_integer : Fun K "is_integer" "is_integer" s_is_integer (fa 9) (fd 9)
  g_is_integer : mg "is_integer" = some (.ref (fa 9))
  F_is_integer_from : Fun K "is_integer_from" "is_integer_from" s_is_integer_from (fa 10) (fd 10)
  g_is_integer_from : mg "is_integer_from" = some (.ref (fa 10))
  F_is_name : Fun K "is_name" "is_name" s_is_name (fa 11) (fd 11)
  g_is_name : mg "is_name" = some (.ref (fa 11))
  F_is_rising : Fun K "is_rising" "is_rising" s_is_rising (fa 12) (fd 12)
  g_is_rising : mg "is_rising" = some (.ref (fa 12))
  F_number_of : Fun K "number_of" "number_of" s_number_of (fa 15) (fd 15)
  g_number_of : mg "number_of" = some (.ref (fa 15))
  F_need_routers : Fun K "need_routers" "need_routers" s_need_routers (fa 21) (fd 21)
  g_need_routers : mg "need_routers" = some (.ref (fa 21))
  F_need_router : Fun K "need_router" "need_router" s_need_router (fa 22) (fd 22)
  g_need_router : mg "need_router" = some (.ref (fa 22))
  F_is_length : Fun K "is_length" "is_length" s_is_length (fa 23) (fd 23)
  g_is_length : mg "is_length" = some (.ref (fa 23))
  F_are_routers : Fun K "are_routers" "are_routers" s_are_routers (fa 24) (fd 24)
  g_are_routers : mg "are_routers" = some (.ref (fa 24))
  F_are_links : Fun K "are_links" "are_links" s_are_links (fa 25) (fd 25)
  g_are_links : mg "are_links" = some (.ref (fa 25))
  F_is_link : Fun K "is_link" "is_link" s_is_link (fa 26) (fd 26)
  g_is_link : mg "is_link" = some (.ref (fa 26))
  F_read_net : Fun K "read_net" "read_net" s_read_net (fa 28) (fd 28)
  g_read_net : mg "read_net" = some (.ref (fa 28))
  F_rows_of : Fun K "rows_of" "rows_of" s_rows_of (fa 29) (fd 29)
  g_rows_of : mg "rows_of" = some (.ref (fa 29))
  F_net_parts : Fun K "net_parts" "net_parts" s_net_parts (fa 30) (fd 30)
  g_net_parts : mg "net_parts" = some (.ref (fa 30))
  F_routers_of : Fun K "routers_of" "routers_of" s_routers_of (fa 31) (fd 31)
  g_routers_of : mg "routers_of" = some (.ref (fa 31))
  F_link_of : Fun K "link_of" "link_of" s_link_of (fa 32) (fd 32)
  g_link_of : mg "link_of" = some (.ref (fa 32))
  F_l_pot : Fun K "_law_pot" "_law_pot" s_l_pot (fa 34) (fd 34)
  g_l_pot : mg "_law_pot" = some (.ref (fa 34))
  F_l_take : Fun K "_law_take" "_law_take" s_l_take (fa 35) (fd 35)
  g_l_take : mg "_law_take" = some (.ref (fa 35))
  F_l_pots : Fun K "_law_pots" "_law_pots" s_l_pots (fa 36) (fd 36)
  g_l_pots : mg "_law_pots" = some (.ref (fa 36))
  F_l_of : Fun K "_law_of" "_law_of" s_l_of (fa 37) (fd 37)
  g_l_of : mg "_law_of" = some (.ref (fa 37))
  F_l_turned : Fun K "_law_turned" "_law_turned" s_l_turned (fa 38) (fd 38)
  g_l_turned : mg "_law_turned" = some (.ref (fa 38))
  F_l_names : Fun K "_law_names" "_law_names" s_l_names (fa 39) (fd 39)
  g_l_names : mg "_law_names" = some (.ref (fa 39))
  F_l_far : Fun K "_law_far" "_law_far" s_l_far (fa 40) (fd 40)
  g_l_far : mg "_law_far" = some (.ref (fa 40))
  F_l_pairs : Fun K "_law_pairs" "_law_pairs" s_l_pairs (fa 41) (fd 41)
  g_l_pairs : mg "_law_pairs" = some (.ref (fa 41))
  F_l_world : Fun K "_law_world" "_law_world" s_l_world (fa 42) (fd 42)
  g_l_world : mg "_law_world" = some (.ref (fa 42))
  F_l_odd : Fun K "_law_odd" "_law_odd" s_l_odd (fa 43) (fd 43)
  g_l_odd : mg "_law_odd" = some (.ref (fa 43))
  F_l_caught : Fun K "_law_caught" "_law_caught" s_l_caught (fa 44) (fd 44)
  g_l_caught : mg "_law_caught" = some (.ref (fa 44))
  F_l_is_name : Fun K "_law_is_name" "_law_is_name" s_l_is_name (fa 45) (fd 45)
  g_l_is_name : mg "_law_is_name" = some (.ref (fa 45))
  F_l_net_page : Fun K "_law_net_page" "_law_net_page" s_l_net_page (fa 46) (fd 46)
  g_l_net_page : mg "_law_net_page" = some (.ref (fa 46))
  F_l_is_number : Fun K "_law_is_number" "_law_is_number" s_l_is_number (fa 47) (fd 47)
  g_l_is_number : mg "_law_is_number" = some (.ref (fa 47))
  F_l_link_read : Fun K "_law_link_read" "_law_link_read" s_l_link_read (fa 48) (fd 48)
  g_l_link_read : mg "_law_link_read" = some (.ref (fa 48))
  F_l_net_read : Fun K "_law_net_read" "_law_net_read" s_l_net_read (fa 49) (fd 49)
  g_l_net_read : mg "_law_net_read" = some (.ref (fa 49))
  F_l_is_world : Fun K "_law_is_world" "_law_is_world" s_l_is_world (fa 50) (fd 50)
  g_l_is_world : mg "_law_is_world" = some (.ref (fa 50))
  F_l_bent_page : Fun K "_law_bent_page" "_law_bent_page" s_l_bent_page (fa 51) (fd 51)
  g_l_bent_page : mg "_law_bent_page" = some (.ref (fa 51))
  F_l_heard : Fun K "_law_heard" "_law_heard" s_l_heard (fa 52) (fd 52)
  g_l_heard : mg "_law_heard" = some (.ref (fa 52))
  F_l_due : Fun K "_law_due" "_law_due" s_l_due (fa 53) (fd 53)
  g_l_due : mg "_law_due" = some (.ref (fa 53))
  F_l_fine : Fun K "_law_fine" "_law_fine" s_l_fine (fa 54) (fd 54)
  g_l_fine : mg "_law_fine" = some (.ref (fa 54))
  F_law : Fun K "law" "law" s_law (fa 55) (fd 55)
  g_law : mg "law" = some (.ref (fa 55))
section
variable {P : Program} {w : World} {K : PySem.W.Frag} {mg : Str → Option Value} {base : Heap} {ca ia fa : Nat → Addr} {fd fi : Nat → FuncData}
theorem Txt.k__wall (T : Txt K mg ca ia fa fd fi) : PySem.W.keepIn K (.ref (fa 0)) = true := T.F__wall.kp
theorem Txt.b__wall (T : Txt K mg ca ia fa fd fi) : Binds K (fd 0) ["k"] [] :=
  T.F__wall.binds (ps := ["k"]) fun _ _ _ _ _ _ us hl => match us, hl with | [_], _ => rfl
theorem Txt.k_is_integer (T : Txt K mg ca ia fa fd fi) : PySem.W.keepIn K (.ref (fa 9)) = true := T.F_is_integer.kp
theorem Txt.b_is_integer (T : Txt K mg ca ia fa fd fi) : Binds K (fd 9) ["value"] [] :=
  T.F_is_integer.binds (ps := ["value"]) fun _ _ _ _ _ _ us hl => match us, hl with | [_], _ => rfl
theorem Txt.k_is_integer_from (T : Txt K mg ca ia fa fd fi) : PySem.W.keepIn K (.ref (fa 10)) = true := T.F_is_integer_from.kp
theorem Txt.b_is_integer_from (T : Txt K mg ca ia fa fd fi) : Binds K (fd 10) ["value", "least"] [] :=
  T.F_is_integer_from.binds (ps := ["value", "least"]) fun _ _ _ _ _ _ us hl => match us, hl with | [_, _], _ => rfl
theorem Txt.k_is_name (T : Txt K mg ca ia fa fd fi) : PySem.W.keepIn K (.ref (fa 11)) = true := T.F_is_name.kp
theorem Txt.b_is_name (T : Txt K mg ca ia fa fd fi) : Binds K (fd 11) ["value"] [] :=
  T.F_is_name.binds (ps := ["value"]) fun _ _ _ _ _ _ us hl => match us, hl with | [_], _ => rfl
theorem Txt.k_is_rising (T : Txt K mg ca ia fa fd fi) : PySem.W.keepIn K (.ref (fa 12)) = true := T.F_is_rising.kp
theorem Txt.b_is_rising (T : Txt K mg ca ia fa fd fi) : Binds K (fd 12) ["values"] [] :=
  T.F_is_rising.binds (ps := ["values"]) fun _ _ _ _ _ _ us hl => match us, hl with | [_], _ => rfl
theorem Txt.k_number_of (T : Txt K mg ca ia fa fd fi) : PySem.W.keepIn K (.ref (fa 15)) = true := T.F_number_of.kp
theorem Txt.b_number_of (T : Txt K mg ca ia fa fd fi) : Binds K (fd 15) ["word"] [] :=
  T.F_number_of.binds (ps := ["word"]) fun _ _ _ _ _ _ us hl => match us, hl with | [_], _ => rfl
theorem Txt.k_need_routers (T : Txt K mg ca ia fa fd fi) : PySem.W.keepIn K (.ref (fa 21)) = true := T.F_need_routers.kp
theorem Txt.b_need_routers (T : Txt K mg ca ia fa fd fi) : Binds K (fd 21) ["net", "a", "b"] [] :=
  T.F_need_routers.binds (ps := ["net", "a", "b"]) fun _ _ _ _ _ _ us hl => match us, hl with | [_, _, _], _ => rfl
theorem Txt.k_need_router (T : Txt K mg ca ia fa fd fi) : PySem.W.keepIn K (.ref (fa 22)) = true := T.F_need_router.kp
theorem Txt.b_need_router (T : Txt K mg ca ia fa fd fi) : Binds K (fd 22) ["net", "value"] [] :=
  T.F_need_router.binds (ps := ["net", "value"]) fun _ _ _ _ _ _ us hl => match us, hl with | [_, _], _ => rfl
theorem Txt.k_is_length (T : Txt K mg ca ia fa fd fi) : PySem.W.keepIn K (.ref (fa 23)) = true := T.F_is_length.kp
theorem Txt.b_is_length (T : Txt K mg ca ia fa fd fi) : Binds K (fd 23) ["value"] [] :=
  T.F_is_length.binds (ps := ["value"]) fun _ _ _ _ _ _ us hl => match us, hl with | [_], _ => rfl
theorem Txt.k_are_routers (T : Txt K mg ca ia fa fd fi) : PySem.W.keepIn K (.ref (fa 24)) = true := T.F_are_routers.kp
theorem Txt.b_are_routers (T : Txt K mg ca ia fa fd fi) : Binds K (fd 24) ["value"] [] :=
  T.F_are_routers.binds (ps := ["value"]) fun _ _ _ _ _ _ us hl => match us, hl with | [_], _ => rfl
theorem Txt.k_are_links (T : Txt K mg ca ia fa fd fi) : PySem.W.keepIn K (.ref (fa 25)) = true := T.F_are_links.kp
theorem Txt.b_are_links (T : Txt K mg ca ia fa fd fi) : Binds K (fd 25) ["value", "routers"] [] :=
  T.F_are_links.binds (ps := ["value", "routers"]) fun _ _ _ _ _ _ us hl => match us, hl with | [_, _], _ => rfl
theorem Txt.k_is_link (T : Txt K mg ca ia fa fd fi) : PySem.W.keepIn K (.ref (fa 26)) = true := T.F_is_link.kp
theorem Txt.b_is_link (T : Txt K mg ca ia fa fd fi) : Binds K (fd 26) ["value", "routers"] [] :=
  T.F_is_link.binds (ps := ["value", "routers"]) fun _ _ _ _ _ _ us hl => match us, hl with | [_, _], _ => rfl
theorem Txt.k_read_net (T : Txt K mg ca ia fa fd fi) : PySem.W.keepIn K (.ref (fa 28)) = true := T.F_read_net.kp
theorem Txt.b_read_net (T : Txt K mg ca ia fa fd fi) : Binds K (fd 28) ["text"] [] :=
  T.F_read_net.binds (ps := ["text"]) fun _ _ _ _ _ _ us hl => match us, hl with | [_], _ => rfl
theorem Txt.k_rows_of (T : Txt K mg ca ia fa fd fi) : PySem.W.keepIn K (.ref (fa 29)) = true := T.F_rows_of.kp
theorem Txt.b_rows_of (T : Txt K mg ca ia fa fd fi) : Binds K (fd 29) ["text"] [] :=
  T.F_rows_of.binds (ps := ["text"]) fun _ _ _ _ _ _ us hl => match us, hl with | [_], _ => rfl
theorem Txt.k_net_parts (T : Txt K mg ca ia fa fd fi) : PySem.W.keepIn K (.ref (fa 30)) = true := T.F_net_parts.kp
theorem Txt.b_net_parts (T : Txt K mg ca ia fa fd fi) : Binds K (fd 30) ["rows"] [] :=
  T.F_net_parts.binds (ps := ["rows"]) fun _ _ _ _ _ _ us hl => match us, hl with | [_], _ => rfl
theorem Txt.k_routers_of (T : Txt K mg ca ia fa fd fi) : PySem.W.keepIn K (.ref (fa 31)) = true := T.F_routers_of.kp
theorem Txt.b_routers_of (T : Txt K mg ca ia fa fd fi) : Binds K (fd 31) ["row"] [] :=
  T.F_routers_of.binds (ps := ["row"]) fun _ _ _ _ _ _ us hl => match us, hl with | [_], _ => rfl
theorem Txt.k_link_of (T : Txt K mg ca ia fa fd fi) : PySem.W.keepIn K (.ref (fa 32)) = true := T.F_link_of.kp
theorem Txt.b_link_of (T : Txt K mg ca ia fa fd fi) : Binds K (fd 32) ["row"] [] :=
  T.F_link_of.binds (ps := ["row"]) fun _ _ _ _ _ _ us hl => match us, hl with | [_], _ => rfl
theorem Txt.k_l_pot (T : Txt K mg ca ia fa fd fi) : PySem.W.keepIn K (.ref (fa 34)) = true := T.F_l_pot.kp
theorem Txt.b_l_pot (T : Txt K mg ca ia fa fd fi) : Binds K (fd 34) ["_law_script", "_law_k"] [] :=
  T.F_l_pot.binds (ps := ["_law_script", "_law_k"]) fun _ _ _ _ _ _ us hl => match us, hl with | [_, _], _ => rfl
theorem Txt.k_l_take (T : Txt K mg ca ia fa fd fi) : PySem.W.keepIn K (.ref (fa 35)) = true := T.F_l_take.kp
theorem Txt.b_l_take (T : Txt K mg ca ia fa fd fi) : Binds K (fd 35) ["_law_pot_here", "_law_upto"] [] :=
  T.F_l_take.binds (ps := ["_law_pot_here", "_law_upto"]) fun _ _ _ _ _ _ us hl => match us, hl with | [_, _], _ => rfl
theorem Txt.k_l_pots (T : Txt K mg ca ia fa fd fi) : PySem.W.keepIn K (.ref (fa 36)) = true := T.F_l_pots.kp
theorem Txt.b_l_pots (T : Txt K mg ca ia fa fd fi) : Binds K (fd 36) ["_law_script", "_law_most"] [] :=
  T.F_l_pots.binds (ps := ["_law_script", "_law_most"]) fun _ _ _ _ _ _ us hl => match us, hl with | [_, _], _ => rfl
theorem Txt.k_l_of (T : Txt K mg ca ia fa fd fi) : PySem.W.keepIn K (.ref (fa 37)) = true := T.F_l_of.kp
theorem Txt.b_l_of (T : Txt K mg ca ia fa fd fi) : Binds K (fd 37) ["_law_pot_here", "_law_some"] [] :=
  T.F_l_of.binds (ps := ["_law_pot_here", "_law_some"]) fun _ _ _ _ _ _ us hl => match us, hl with | [_, _], _ => rfl
theorem Txt.k_l_turned (T : Txt K mg ca ia fa fd fi) : PySem.W.keepIn K (.ref (fa 38)) = true := T.F_l_turned.kp
theorem Txt.b_l_turned (T : Txt K mg ca ia fa fd fi) : Binds K (fd 38) ["_law_pot_here", "_law_some"] [] :=
  T.F_l_turned.binds (ps := ["_law_pot_here", "_law_some"]) fun _ _ _ _ _ _ us hl => match us, hl with | [_, _], _ => rfl
theorem Txt.k_l_names (T : Txt K mg ca ia fa fd fi) : PySem.W.keepIn K (.ref (fa 39)) = true := T.F_l_names.kp
theorem Txt.b_l_names (T : Txt K mg ca ia fa fd fi) : Binds K (fd 39) ["_law_pot_here", "_law_many"] [] :=
  T.F_l_names.binds (ps := ["_law_pot_here", "_law_many"]) fun _ _ _ _ _ _ us hl => match us, hl with | [_, _], _ => rfl
theorem Txt.k_l_far (T : Txt K mg ca ia fa fd fi) : PySem.W.keepIn K (.ref (fa 40)) = true := T.F_l_far.kp
theorem Txt.b_l_far (T : Txt K mg ca ia fa fd fi) : Binds K (fd 40) ["_law_pot_here"] [] :=
  T.F_l_far.binds (ps := ["_law_pot_here"]) fun _ _ _ _ _ _ us hl => match us, hl with | [_], _ => rfl
theorem Txt.k_l_pairs (T : Txt K mg ca ia fa fd fi) : PySem.W.keepIn K (.ref (fa 41)) = true := T.F_l_pairs.kp
theorem Txt.b_l_pairs (T : Txt K mg ca ia fa fd fi) : Binds K (fd 41) ["_law_pot_here", "_law_routers", "_law_many"] [] :=
  T.F_l_pairs.binds (ps := ["_law_pot_here", "_law_routers", "_law_many"]) fun _ _ _ _ _ _ us hl => match us, hl with | [_, _, _], _ => rfl
theorem Txt.k_l_world (T : Txt K mg ca ia fa fd fi) : PySem.W.keepIn K (.ref (fa 42)) = true := T.F_l_world.kp
theorem Txt.b_l_world (T : Txt K mg ca ia fa fd fi) : Binds K (fd 42) ["_law_pot_here", "_law_least", "_law_most", "_law_more"] [] :=
  T.F_l_world.binds (ps := ["_law_pot_here", "_law_least", "_law_most", "_law_more"]) fun _ _ _ _ _ _ us hl => match us, hl with | [_, _, _, _], _ => rfl
theorem Txt.k_l_odd (T : Txt K mg ca ia fa fd fi) : PySem.W.keepIn K (.ref (fa 43)) = true := T.F_l_odd.kp
theorem Txt.b_l_odd (T : Txt K mg ca ia fa fd fi) : Binds K (fd 43) ["_law_pot_here"] [] :=
  T.F_l_odd.binds (ps := ["_law_pot_here"]) fun _ _ _ _ _ _ us hl => match us, hl with | [_], _ => rfl
theorem Txt.k_l_caught (T : Txt K mg ca ia fa fd fi) : PySem.W.keepIn K (.ref (fa 44)) = true := T.F_l_caught.kp
theorem Txt.b_l_caught (T : Txt K mg ca ia fa fd fi) : Binds K (fd 44) ["_law_look"] [] :=
  T.F_l_caught.binds (ps := ["_law_look"]) fun _ _ _ _ _ _ us hl => match us, hl with | [_], _ => rfl
theorem Txt.k_l_is_name (T : Txt K mg ca ia fa fd fi) : PySem.W.keepIn K (.ref (fa 45)) = true := T.F_l_is_name.kp
theorem Txt.b_l_is_name (T : Txt K mg ca ia fa fd fi) : Binds K (fd 45) ["_law_value"] [] :=
  T.F_l_is_name.binds (ps := ["_law_value"]) fun _ _ _ _ _ _ us hl => match us, hl with | [_], _ => rfl
theorem Txt.k_l_net_page (T : Txt K mg ca ia fa fd fi) : PySem.W.keepIn K (.ref (fa 46)) = true := T.F_l_net_page.kp
theorem Txt.b_l_net_page (T : Txt K mg ca ia fa fd fi) : Binds K (fd 46) ["_law_world_here"] [] :=
  T.F_l_net_page.binds (ps := ["_law_world_here"]) fun _ _ _ _ _ _ us hl => match us, hl with | [_], _ => rfl
theorem Txt.k_l_is_number (T : Txt K mg ca ia fa fd fi) : PySem.W.keepIn K (.ref (fa 47)) = true := T.F_l_is_number.kp
theorem Txt.b_l_is_number (T : Txt K mg ca ia fa fd fi) : Binds K (fd 47) ["_law_word"] [] :=
  T.F_l_is_number.binds (ps := ["_law_word"]) fun _ _ _ _ _ _ us hl => match us, hl with | [_], _ => rfl
theorem Txt.k_l_link_read (T : Txt K mg ca ia fa fd fi) : PySem.W.keepIn K (.ref (fa 48)) = true := T.F_l_link_read.kp
theorem Txt.b_l_link_read (T : Txt K mg ca ia fa fd fi) : Binds K (fd 48) ["_law_row"] [] :=
  T.F_l_link_read.binds (ps := ["_law_row"]) fun _ _ _ _ _ _ us hl => match us, hl with | [_], _ => rfl
theorem Txt.k_l_net_read (T : Txt K mg ca ia fa fd fi) : PySem.W.keepIn K (.ref (fa 49)) = true := T.F_l_net_read.kp
theorem Txt.b_l_net_read (T : Txt K mg ca ia fa fd fi) : Binds K (fd 49) ["_law_rows"] [] :=
  T.F_l_net_read.binds (ps := ["_law_rows"]) fun _ _ _ _ _ _ us hl => match us, hl with | [_], _ => rfl
theorem Txt.k_l_is_world (T : Txt K mg ca ia fa fd fi) : PySem.W.keepIn K (.ref (fa 50)) = true := T.F_l_is_world.kp
theorem Txt.b_l_is_world (T : Txt K mg ca ia fa fd fi) : Binds K (fd 50) ["_law_routers", "_law_links"] [] :=
  T.F_l_is_world.binds (ps := ["_law_routers", "_law_links"]) fun _ _ _ _ _ _ us hl => match us, hl with | [_, _], _ => rfl
theorem Txt.k_l_bent_page (T : Txt K mg ca ia fa fd fi) : PySem.W.keepIn K (.ref (fa 51)) = true := T.F_l_bent_page.kp
theorem Txt.b_l_bent_page (T : Txt K mg ca ia fa fd fi) : Binds K (fd 51) ["_law_pot_here", "_law_page"] [] :=
  T.F_l_bent_page.binds (ps := ["_law_pot_here", "_law_page"]) fun _ _ _ _ _ _ us hl => match us, hl with | [_, _], _ => rfl
theorem Txt.k_l_heard (T : Txt K mg ca ia fa fd fi) : PySem.W.keepIn K (.ref (fa 52)) = true := T.F_l_heard.kp
theorem Txt.b_l_heard (T : Txt K mg ca ia fa fd fi) : Binds K (fd 52) ["_law_value"] [] :=
  T.F_l_heard.binds (ps := ["_law_value"]) fun _ _ _ _ _ _ us hl => match us, hl with | [_], _ => rfl
theorem Txt.k_l_due (T : Txt K mg ca ia fa fd fi) : PySem.W.keepIn K (.ref (fa 53)) = true := T.F_l_due.kp
theorem Txt.b_l_due (T : Txt K mg ca ia fa fd fi) : Binds K (fd 53) ["_law_value"] [] :=
  T.F_l_due.binds (ps := ["_law_value"]) fun _ _ _ _ _ _ us hl => match us, hl with | [_], _ => rfl
theorem Txt.k_l_fine (T : Txt K mg ca ia fa fd fi) : PySem.W.keepIn K (.ref (fa 54)) = true := T.F_l_fine.kp
theorem Txt.b_l_fine (T : Txt K mg ca ia fa fd fi) : Binds K (fd 54) ["_law_pot_here"] [] :=
  T.F_l_fine.binds (ps := ["_law_pot_here"]) fun _ _ _ _ _ _ us hl => match us, hl with | [_], _ => rfl
theorem Txt.k_law (T : Txt K mg ca ia fa fd fi) : PySem.W.keepIn K (.ref (fa 55)) = true := T.F_law.kp
theorem Txt.b_law (T : Txt K mg ca ia fa fd fi) : Binds K (fd 55) ["_law_script"] [] :=
  T.F_law.binds (ps := ["_law_script"]) fun _ _ _ _ _ _ us hl => match us, hl with | [_], _ => rfl
theorem Txt.b_m_init (T : Txt K mg ca ia fa fd fi) : Binds K (fi 100) ["self", "routers", "links"] [] :=
  T.F_m_init.binds (ps := ["self", "routers", "links"]) fun _ _ _ _ _ _ us hl => match us, hl with | [_, _, _], _ => rfl
theorem Txt.b_m_routers (T : Txt K mg ca ia fa fd fi) : Binds K (fi 101) ["self"] [] :=
  T.F_m_routers.binds (ps := ["self"]) fun _ _ _ _ _ _ us hl => match us, hl with | [_], _ => rfl
theorem Txt.b_m_links (T : Txt K mg ca ia fa fd fi) : Binds K (fi 102) ["self"] [] :=
  T.F_m_links.binds (ps := ["self"]) fun _ _ _ _ _ _ us hl => match us, hl with | [_], _ => rfl
theorem Txt.b_m_u_eq_ (T : Txt K mg ca ia fa fd fi) : Binds K (fi 103) ["self", "other"] [] :=
  T.F_m_u_eq_.binds (ps := ["self", "other"]) fun _ _ _ _ _ _ us hl => match us, hl with | [_, _], _ => rfl
theorem Txt.b_m_length (T : Txt K mg ca ia fa fd fi) : Binds K (fi 104) ["self", "a", "b"] [] :=
  T.F_m_length.binds (ps := ["self", "a", "b"]) fun _ _ _ _ _ _ us hl => match us, hl with | [_, _, _], _ => rfl
theorem Txt.b_m_with_link (T : Txt K mg ca ia fa fd fi) : Binds K (fi 105) ["self", "a", "b", "there", "back"] [] :=
  T.F_m_with_link.binds (ps := ["self", "a", "b", "there", "back"]) fun _ _ _ _ _ _ us hl => match us, hl with | [_, _, _, _, _], _ => rfl
theorem Txt.b_m_without (T : Txt K mg ca ia fa fd fi) : Binds K (fi 106) ["self", "a", "b"] [] :=
  T.F_m_without.binds (ps := ["self", "a", "b"]) fun _ _ _ _ _ _ us hl => match us, hl with | [_, _, _], _ => rfl
theorem Txt.b_m_u_links_without (T : Txt K mg ca ia fa fd fi) : Binds K (fi 107) ["self", "a", "b"] [] :=
  T.F_m_u_links_without.binds (ps := ["self", "a", "b"]) fun _ _ _ _ _ _ us hl => match us, hl with | [_, _, _], _ => rfl
theorem Txt.bi_BadNet (T : Txt K mg ca ia fa fd fi) : Binds K (fi 3) ["self", "value"] [] :=
  T.FI_BadNet.binds (ps := ["self", "value"]) fun _ _ _ _ _ _ us hl => match us, hl with | [_, _], _ => rfl
theorem Txt.bi_NoRouter (T : Txt K mg ca ia fa fd fi) : Binds K (fi 4) ["self", "value"] [] :=
  T.FI_NoRouter.binds (ps := ["self", "value"]) fun _ _ _ _ _ _ us hl => match us, hl with | [_, _], _ => rfl
theorem Txt.bi_NoLink (T : Txt K mg ca ia fa fd fi) : Binds K (fi 5) ["self", "value"] [] :=
  T.FI_NoLink.binds (ps := ["self", "value"]) fun _ _ _ _ _ _ us hl => match us, hl with | [_, _], _ => rfl
theorem Txt.bi_BadText (T : Txt K mg ca ia fa fd fi) : Binds K (fi 6) ["self", "value"] [] :=
  T.FI_BadText.binds (ps := ["self", "value"]) fun _ _ _ _ _ _ us hl => match us, hl with | [_, _], _ => rfl
end
end Toy
set_option Elab.async false
set_option linter.all false
set_option maxRecDepth 100000
set_option maxHeartbeats 4000000
namespace Toy
open PySem L2 Q

/-! ### pots -/
abbrev potL (o s c : Int) : List V := [.int o, .int s, .int c]
/-- a pot at p, at most B draws of its second kind so far -/
def Pot (H : Hp) (p : Addr) (B : Nat) : Prop := ∃ o s c : Int, H p = some (.lst (potL o s c)) ∧ 0 ≤ o ∧ 0 ≤ s ∧
  s < 2305843009213693952 ∧ 0 ≤ c ∧ c ≤ (B : Int)
/-- all that is tracked but the pot at p is kept -/
def But (p : Addr) (H H' : Hp) : Prop := ∀ b o, b ≠ p → H b = some o → H' b = some o
theorem But.refl (p : Addr) (H : Hp) : But p H H := fun _ _ _ e => e
theorem But.trans {p : Addr} {H H1 H2 : Hp} (a : But p H H1) (b : But p H1 H2) : But p H H2 := fun c o n e => b c o n (a c o n e)
theorem But.of {p : Addr} {H H' : Hp} (s : Same H H') : But p H H' := fun b o _ e => s b o e
theorem Pot.mono {H : Hp} {p : Addr} {B B' : Nat} (h : Pot H p B) (l : B ≤ B') : Pot H p B' := by
  obtain ⟨o, s, c, e, h1, h2, h3, h4, h5⟩ := h
  exact ⟨o, s, c, e, h1, h2, h3, h4, by omega⟩
theorem Pot.same {H H' : Hp} {p : Addr} {B : Nat} (h : Pot H p B) (e : Same H H') : Pot H' p B := by
  obtain ⟨o, s, c, q, r⟩ := h
  exact ⟨o, s, c, e _ _ q, r⟩
theorem same_new {H : Hp} {a : Addr} {o : HO} (n : H a = none) : Same H (upd H a o) := fun b u e => by
  rw [upd_ne (ne_of_none e n)]
  exact e
theorem but_upd {H : Hp} {a : Addr} {o : HO} : But a H (upd H a o) := fun b u n e => by rw [upd_ne n]; exact e
/-- items read -/
theorem ixl {K : PySem.W.Frag} {H : Hp} {p : Addr} {xs : List V} {z : V} {Q : VK} (j : Nat) (h : SqL K H p xs)
    (e : xs[j]? = some z) (q : Q z H) : rIx K (.ref p) (.int (j : Int)) H Q :=
  .inl ⟨p, xs, (j : Int), z, rfl, rfl, h, atI_nat e, q⟩
theorem emod_lt31 {a b : Int} (hb : 0 < b) (h : b < 2147483648) : 0 ≤ a % b ∧ a % b < 2147483648 :=
  ⟨Int.emod_nonneg _ (by omega), Int.lt_trans (Int.emod_lt_of_pos _ hb) h⟩
theorem modN (a : Int) {n : Int} (hn : 0 < n) : ∃ d : Nat, a % n = (d : Int) ∧ (d : Int) < n := by
  obtain ⟨d, hd⟩ := Int.eq_ofNat_of_zero_le (Int.emod_nonneg a (show n ≠ 0 by omega))
  exact ⟨d, hd, hd ▸ Int.emod_lt_of_pos a hn⟩

/-- an assignment, its value's reading apart -/
theorem asg {te : TE} {g : TG} {D : Ends} {σ : L2.St} {H : Hp} (P : V → Hp → Prop)
    (h : ∀ Q : VK, (∀ v H', P v H' → Q v H') → te σ H Q) (k : ∀ v H', P v H' → g v σ H' D.nx) : tAsg te g D σ H := h _ k
theorem seqA {te : TE} {g : TG} {u : TS} {D : Ends} {σ : L2.St} {H : Hp} (P : V → Hp → Prop)
    (h : ∀ Q : VK, (∀ v H', P v H' → Q v H') → te σ H Q) (k : ∀ v H', P v H' → g v σ H' (u D)) : tSeq (tAsg te g) u D σ H := h _ k
theorem seqS {te : TE} {i : Nat} {u : TS} {D : Ends} {σ : L2.St} {H : Hp} (P : V → Hp → Prop)
    (h : ∀ Q : VK, (∀ v H', P v H' → Q v H') → te σ H Q) (k : ∀ v H', P v H' → u D (σ.set i (some v)) H') : tSeq (tAsg te (gName i)) u D σ H := h _ k
theorem ret {te : TE} {D : Ends} {σ : L2.St} {H : Hp} (P : V → Hp → Prop)
    (h : ∀ Q : VK, (∀ v H', P v H' → Q v H') → te σ H Q) (k : ∀ v H', P v H' → D.rt v H') : tRet te D σ H := h _ k
theorem nxt {f : L2.St → Hp → Prop} {rt : VK} {bk ct : L2.St → Hp → Prop} {σ : L2.St} {H : Hp} (h : f σ H) : Ends.nx ⟨f, rt, bk, ct⟩ σ H := h
theorem stepH {α : Type} {G : α → Hp → Prop} {σ : α} {H0 : Hp} (P : Hp → Prop) (h : P H0) (k : ∀ H', P H' → G σ H') : G σ H0 := k H0 h
abbrev primes : List V := [.int 2147483647, .int 2147483629, .int 2147483587, .int 2147483579, .int 2147483563]
theorem prime_at {d : Nat} (h : d < 5) : ∃ pr : Int, primes[d]? = some (.int pr) ∧ 0 < pr ∧ pr < 2147483648 := by
  match d, h with
  | 0, _ => exact ⟨_, rfl, by decide, by decide⟩
  | 1, _ => exact ⟨_, rfl, by decide, by decide⟩
  | 2, _ => exact ⟨_, rfl, by decide, by decide⟩
  | 3, _ => exact ⟨_, rfl, by decide, by decide⟩
  | 4, _ => exact ⟨_, rfl, by decide, by decide⟩
theorem mulOk {i j : Int} (hi : i.natAbs < 2 ^ 64) (hj : j.natAbs < 2 ^ 64) : CMulW i j :=
  wide_mul hi hj (by decide) (by decide) (by decide)
/-- _law_take(pot, n): some number from 0 below n -/
def spTake (K : PySem.W.Frag) : Sp := fun vs H Q _ => ∃ (p : Addr) (n : Int) (B : Nat), vs = [.ref p, .int n] ∧ Pot H p B ∧
  0 < n ∧ n < 1073741824 ∧ B < 1000000 ∧
  ∀ (d : Nat) (H' : Hp), (d : Int) < n → But p H H' → Pot H' p (B + 1) → Q (.int d) H'
theorem pw_bound {s c : Int} (h1 : 0 ≤ s) (h2 : s < 2305843009213693952) (h3 : 0 ≤ c) (h4 : c ≤ 1000001) :
    (s + 99989 * c * c + 71).natAbs < 2 ^ 64 := by
  have h5 : 99989 * c * c ≤ 99989 * 1000001 * 1000001 := by
    have a : 99989 * c ≤ 99989 * 1000001 := by omega
    exact Int.le_trans (Int.mul_le_mul_of_nonneg_right a h3) (Int.mul_le_mul_of_nonneg_left h4 (by omega))
  have h6 : 0 ≤ 99989 * c * c := Int.mul_nonneg (by omega) h3
  omega
section
variable {P : Program} {w : World} {K : PySem.W.Frag} {mg : Str → Option Value} {base : Heap} {ca ia fa : Nat → Addr} {fd fi : Nat → FuncData}
theorem ok_take (T : Txt K mg ca ia fa fd fi) : FnOk P w K mg base CX0 1 (fa 35) (fd 35) ["_law_pot_here", "_law_upto"] (spTake K) := by
  refine T.F_l_take.ok sc_l_take (fun vs H Q E h => ?_) (fun cdv A outer s H vs Q E hr h => ?_)
  · obtain ⟨p, n, B, rfl, _⟩ := h
    rfl
  · obtain ⟨p, n, B, rfl, ⟨o, sd, c, hp, h1, h2, h3, h4, h5⟩, hn, hn2, hB, k⟩ := h
    refine ⟨_, (pss_cons (ps_if (pt_cmpR op_gt (pe_ix ix_seq (pv 0) pe_int (fun _ _ => rfl)) pe_int (nomark _)) (pss_cons (ps_set (i := 2) sc_l_take.nd rfl (Or.inl rfl) (pe_op op_mod (pe_callTy call_int1 (by rfl) T.n_int (by decide +kernel) (pa_cons (pe_ix ix_seq (pv 0) pe_int (fun _ _ => rfl)) pa_nil)) (pv 1)))
      (pss_cons (ps_asg (pe_op op_fdiv (pe_ix ix_seq (pv 0) pe_int (fun _ _ => rfl)) (pv 1)) (pg_sub (pv 0) pe_int set_list))
      (pss_one (ps_ret (pv 2))))) pss_nil)
      (pss_cons (ps_asg (pe_op op_add (pe_ix ix_seq (pv 0) pe_int (fun _ _ => rfl)) pe_int) (pg_sub (pv 0) pe_int set_list))
      (pss_cons (ps_set (i := 3) sc_l_take.nd rfl (Or.inl rfl) (pe_ix ix_seq (pe_lst (pa_cons pe_int (pa_cons pe_int (pa_cons pe_int (pa_cons pe_int (pa_cons pe_int pa_nil)))))) (pe_op op_mod (pe_callTy call_int1 (by rfl) T.n_int (by decide +kernel) (pa_cons (pe_ix ix_seq (pv 0) pe_int (fun _ _ => rfl)) pa_nil)) pe_int) (fun _ _ => rfl)))
      (pss_cons (ps_set (i := 4) sc_l_take.nd rfl (Or.inl rfl) (pe_op op_mod (pe_callTy call_int1 (by rfl) T.n_int (by decide +kernel) (pa_cons (pe_op op_pw (pe_callTy call_int1 (by rfl) T.n_int (by decide +kernel) (pa_cons (pe_op op_add (pe_op op_add (pe_ix ix_seq (pv 0) pe_int (fun _ _ => rfl)) (pe_op op_mulW (pe_op op_mulW pe_int (pe_ix ix_seq (pv 0) pe_int (fun _ _ => rfl))) (pe_ix ix_seq (pv 0) pe_int (fun _ _ => rfl)))) pe_int) pa_nil)) pe_int) pa_nil)) (pv 3)))
      (pss_cons (ps_set (i := 4) sc_l_take.nd rfl (Or.inl rfl) (pe_op op_mod (pe_callTy call_int1 (by rfl) T.n_int (by decide +kernel) (pa_cons (pe_op op_mulW (pv 4) (pe_op op_add (pe_op op_mod (pe_callTy call_int1 (by rfl) T.n_int (by decide +kernel) (pa_cons (pv 4) pa_nil)) pe_int) (pe_op op_mulW pe_int (pe_ix ix_seq (pv 0) pe_int (fun _ _ => rfl))))) pa_nil)) pe_int))
      (pss_one (ps_ret (pe_op op_mod (pe_callTy call_int1 (by rfl) T.n_int (by decide +kernel) (pa_cons (pe_op op_fdiv (pv 4) pe_int) pa_nil)) (pv 1))))))))), ?_⟩
    refine ⟨_, rfl, ixl 0 (SqL.of hp) rfl ⟨_, _, rfl, rfl, _, rfl, ite2 (fun ho => ?_) (fun ho => ?_)⟩⟩
    · have ho : 0 < o := of_decide_eq_true ho
      refine ⟨_, rfl, ixl 0 (SqL.of hp) rfl (.inl ⟨_, rfl, _, rfl, _, _, rfl, rfl, by omega, ?_⟩)⟩
      refine ⟨_, rfl, ixl 0 (SqL.of hp) rfl ⟨_, rfl, _, _, rfl, rfl, ⟨hn, hn2⟩, ?_⟩⟩
      refine ⟨_, rfl, p, _, 0, 0, rfl, rfl, hp, rfl, ?_⟩
      refine ⟨_, rfl, ?_⟩
      obtain ⟨d, hd, hl⟩ := modN o hn
      show Q (.int (o % n)) _
      rw [hd]
      exact k d _ hl but_upd ⟨o / n, sd, c, upd_same, Int.ediv_nonneg h1 (by omega), h2, h3, h4, by omega⟩
    · have ho : ¬ 0 < o := fun z => ho (decide_eq_true z)
      -- the counter goes up
      refine ⟨_, rfl, ixl 2 (SqL.of hp) rfl ⟨_, _, rfl, rfl, _, rfl, p, _, 2, 2, rfl, rfl, hp, rfl, ?_⟩⟩
      refine stepH (fun H1 => H1 p = some (.lst (potL o sd (c + 1))) ∧ But p H H1) ⟨upd_same, but_upd⟩ ?_
      rintro H1 ⟨e1, b1⟩
      -- the prime
      refine nxt ?_
      refine seqA (fun v H2 => (∃ pr : Int, v = .int pr ∧ 0 < pr ∧ pr < 2147483648) ∧ H2 p = some (.lst (potL o sd (c + 1))) ∧ But p H H2) (fun Q k => ?_) ?_
      · refine ⟨by show 5 ≤ sizeLine; decide, fun l hl => ?_⟩
        refine ⟨_, rfl, ixl 2 (SqL.of (same_new hl _ _ e1)) rfl (.inl ⟨_, rfl, _, _, rfl, rfl, (show (0 : Int) < 5 by decide), ?_⟩)⟩
        obtain ⟨d, hd, hl5⟩ := modN (c + 1) (show (0 : Int) < 5 by decide)
        obtain ⟨pr, hpr, p0, p1⟩ := prime_at (show d < 5 by omega)
        show rIx K (.ref l) (.int ((c + 1) % 5)) _ Q
        rw [hd]
        exact ixl d (SqL.of upd_same) hpr (k _ _ ⟨⟨pr, rfl, p0, p1⟩, same_new hl _ _ e1, b1.trans (But.of (same_new hl))⟩)
      rintro _ H2 ⟨⟨pr, rfl, p0, p1⟩, e2, b2⟩
      -- stirred
      have z0 : 0 ≤ c + 1 := by omega
      have z1 : c + 1 ≤ 1000001 := by omega
      have k1 := mulOk (show (99989 : Int).natAbs < 2 ^ 64 by decide) (show (c + 1).natAbs < 2 ^ 64 by omega)
      have k2 := mulOk (show (99989 * (c + 1)).natAbs < 2 ^ 64 by omega) (show (c + 1).natAbs < 2 ^ 64 by omega)
      have k3 := pw_bound h2 h3 z0 z1
      refine seqA (fun v H3 => H2 = H3 ∧ ∃ s1 : Nat, v = .int (s1 : Int) ∧ (s1 : Int) < 2147483648) (fun Q k => ?_) ?_
      · refine ⟨_, rfl, ixl 1 (SqL.of e2) rfl ⟨_, rfl, ixl 2 (SqL.of e2) rfl ⟨_, _, rfl, rfl, k1, _, rfl, ixl 2 (SqL.of e2) rfl ⟨_, _, rfl, rfl, k2, ?_⟩⟩⟩⟩
        refine ⟨_, _, rfl, rfl, _, _, rfl, rfl, .inl ⟨_, rfl, _, _, rfl, rfl, ⟨by decide, 64, k3, by decide⟩, ?_⟩⟩
        refine .inl ⟨_, rfl, _, rfl, _, _, rfl, rfl, p0, ?_⟩
        obtain ⟨s1, hs1, l1⟩ := modN ((sd + 99989 * (c + 1) * (c + 1) + 71) ^ (3 : Int).toNat) p0
        exact k _ _ ⟨rfl, s1, congrArg V.int hs1, by omega⟩
      rintro _ _ ⟨rfl, s1, rfl, l1⟩
      -- stirred again
      refine seqA (fun v H3 => H2 = H3 ∧ ∃ s1 : Nat, v = .int (s1 : Int)) (fun Q k => ?_) ?_
      · obtain ⟨s2, hs2, l2⟩ := modN (s1 : Int) (show (0 : Int) < 10007 by decide)
        have k4 := mulOk (show (83 : Int).natAbs < 2 ^ 64 by decide) (show (c + 1).natAbs < 2 ^ 64 by omega)
        have k5 := mulOk (show (s1 : Int).natAbs < 2 ^ 64 by omega) (show ((s1 : Int) % 10007 + 83 * (c + 1)).natAbs < 2 ^ 64 by omega)
        refine ⟨_, rfl, _, rfl, .inl ⟨_, rfl, _, _, rfl, rfl, (show (0 : Int) < 10007 by decide), _, rfl, ixl 2 (SqL.of e2) rfl ⟨_, _, rfl, rfl, k4, _, _, rfl, rfl, ?_⟩⟩⟩
        refine ⟨_, _, rfl, rfl, k5, .inl ⟨_, rfl, _, _, rfl, rfl, (show (0 : Int) < 2305843009213693907 by decide), ?_⟩⟩
        obtain ⟨s3, hs3, l3⟩ := modN ((s1 : Int) * ((s1 : Int) % 10007 + 83 * (c + 1))) (show (0 : Int) < 2305843009213693907 by decide)
        exact k _ _ ⟨rfl, s3, congrArg V.int hs3⟩
      rintro _ _ ⟨rfl, s3, rfl⟩
      refine ⟨_, rfl, _, _, rfl, rfl, ⟨by decide, by decide⟩, .inl ⟨_, rfl, _, rfl, _, _, rfl, rfl, hn, ?_⟩⟩
      obtain ⟨s4, hs4, l4⟩ := modN ((s3 : Int) / 103) hn
      show Q (.int (((s3 : Int) / 103) % n)) _
      rw [hs4]
      exact k s4 _ l4 b2 ⟨o, sd, c + 1, e2, h1, h2, h3, z0, by omega⟩
end
end Toy
set_option Elab.async false
set_option linter.all false
set_option maxRecDepth 100000
set_option maxHeartbeats 4000000
namespace Toy
open PySem L2 Q
/-- a sequence that can be drawn from while the pot is at p: its items -/
def Items (K : PySem.W.Frag) (H : Hp) (p : Addr) (x : V) (xs : List V) : Prop :=
  (∃ a, x = .ref a ∧ a ≠ p ∧ SqL K H a xs) ∨ (∃ a, x = .ref a ∧ SqT K H a xs) ∨
    (∃ z : Str, x = .str z ∧ xs = z.cps.toList.map (fun c => V.str ⟨#[c]⟩) ∧ z.length ≤ sizeLine)
theorem seq_but {K : PySem.W.Frag} {p a : Addr} {H H' : Hp} {xs : List V} (b : But p H H') (n : a ≠ p) (h : SqL K H a xs) : SqL K H' a xs := by
  rcases h with (h | ⟨o, h⟩) | h
  · exact .inl (.inl (b _ _ n h))
  · exact .inl (.inr ⟨o, b _ _ n h⟩)
  · exact .inr h
theorem tup_but {K : PySem.W.Frag} {p a : Addr} {H H' : Hp} {xs : List V} (b : But p H H') {q : List V} (hp : H p = some (.lst q)) (h : SqT K H a xs) : SqT K H' a xs := by
  rcases h with (h | ⟨o, h⟩) | h
  · refine .inl (.inl (b _ _ ?_ h))
    rintro rfl
    rw [hp] at h
    cases h
  · refine .inl (.inr ⟨o, b _ _ ?_ h⟩)
    rintro rfl
    rw [hp] at h
    cases h
  · exact .inr h
/-- _law_of(pot, some): one of them -/
def spOf (K : PySem.W.Frag) : Sp := fun vs H Q _ => ∃ (p : Addr) (x : V) (xs : List V) (B : Nat), vs = [.ref p, x] ∧ Pot H p B ∧ B < 1000000 ∧
  Items K H p x xs ∧ 0 < xs.length ∧ xs.length < 1073741824 ∧
  ∀ (d : Nat) (v : V) (H' : Hp), xs[d]? = some v → But p H H' → Pot H' p (B + 1) → Q v H'
/-- _law_pot(script, k): a new pot -/
def spPot (K : PySem.W.Frag) : Sp := fun vs H Q _ => ∃ (a : Addr) (ns : List Int) (k : Nat), vs = [.ref a, .int (k : Int)] ∧ SqL K H a (ns.map V.int) ∧ k < 1000 ∧
  ns.length ≤ 63 ∧ ∀ (p : Addr) (H' : Hp), Same H H' → H p = none → Pot H' p 0 → Q (.ref p) H'
/-- _law_pots(script, n): some new pots, each by itself -/
def spPots (K : PySem.W.Frag) : Sp := fun vs H Q _ => ∃ (a : Addr) (ns : List Int) (n : Nat), vs = [.ref a, .int (n : Int)] ∧ SqL K H a (ns.map V.int) ∧ n < 1000 ∧
  ns.length ≤ 63 ∧ ∀ (l : Addr) (ps : List Addr) (H' : Hp), Same H H' → H' l = some (.lst (ps.map V.ref)) → ps.length ≤ 1000 → ps.Nodup → l ∉ ps →
    (∀ p ∈ ps, Pot H' p 0) → Q (.ref l) H'
theorem b01 (b : Bool) : (if b = true then (1 : Int) else 0).natAbs < 2 ^ 4 ∧ (0 : Int) ≤ (if b = true then (1 : Int) else 0) := by
  cases b <;> decide
theorem two60 : (10 : Int) ^ (60 : Int).toNat = 10 ^ 60 := by decide
theorem big_nn : (0 : Int) < ((10 : Int) ^ (60 : Int).toNat) ^ (5 : Int).toNat := by decide +kernel
theorem big_lt {x : Int} (h : x < ((10 : Int) ^ (60 : Int).toNat) ^ (5 : Int).toNat) (h0 : 0 ≤ x) : x.natAbs < 2 ^ 1000 := by
  have e : ((10 : Int) ^ (60 : Int).toNat) ^ (5 : Int).toNat < 2 ^ 1000 := by decide +kernel
  omega
section
variable {P : Program} {w : World} {K : PySem.W.Frag} {mg : Str → Option Value} {base : Heap} {ca ia fa : Nat → Addr} {fd fi : Nat → FuncData}
theorem ok_of (T : Txt K mg ca ia fa fd fi) : FnOk P w K mg base CX0 2 (fa 37) (fd 37) ["_law_pot_here", "_law_some"] (spOf K) := by
  have G_l_take := ok_take (P := P) (w := w) (base := base) T
  refine T.F_l_of.ok sc_l_of (fun vs H Q E h => ?_) (fun cdv A outer s H vs Q E hr h => ?_)
  · obtain ⟨p, x, xs, B, rfl, _⟩ := h
    rfl
  · obtain ⟨p, x, xs, B, rfl, hp, hB, hx, h0, h1, k⟩ := h
    obtain ⟨o, sd, c, hpp, _⟩ := id hp
    refine ⟨_, (pss_one (ps_ret (pe_ix ix_seq (pv 1) (pe_call G_l_take (hr.mono (by decide)) rfl T.g_l_take T.k_l_take T.b_l_take .nil pass0 (pa_cons (pv 0) (pa_cons (pe_callB call_len (by rfl) T.n_len (by decide +kernel) (pa_cons (pv 1) pa_nil)) pa_nil))) (fun _ _ => rfl)))), ?_⟩
    have lenV : LenV K x H xs.length := by
      rcases hx with ⟨a, rfl, _, h⟩ | ⟨a, rfl, h⟩ | ⟨z, rfl, e, hz⟩
      · exact .inl ⟨xs, h, rfl⟩
      · exact .inr ⟨xs, h, rfl⟩
      · refine ⟨hz, ?_⟩
        rw [e, List.length_map]
        rfl
    refine ⟨_, rfl, _, rfl, _, rfl, _, _, rfl, lenV, p, _, B, rfl, hp, by omega, by omega, hB, fun d H' hd hb hp' => ?_⟩
    obtain ⟨v, hv⟩ : ∃ v, xs[d]? = some v := ⟨_, List.getElem?_eq_getElem (show d < xs.length by omega)⟩
    have fin := k d v H' hv hb hp'
    rcases hx with ⟨a, rfl, ne, h⟩ | ⟨a, rfl, h⟩ | ⟨z, rfl, e, hz⟩
    · exact .inl ⟨a, xs, d, v, rfl, rfl, seq_but hb ne h, atI_nat hv, fin⟩
    · exact .inr (.inl ⟨a, xs, d, v, rfl, rfl, tup_but hb hpp h, atI_nat hv, fin⟩)
    · rw [e, List.getElem?_map] at hv
      obtain ⟨c', hc, rfl⟩ := Option.map_eq_some_iff.mp hv
      exact .inr (.inr ⟨z, d, c', rfl, rfl, hz, atI_nat hc, fin⟩)
theorem int_id {i : Int} {H : Hp} {Q : VK} (q : Q (.int i) H) : (∃ j, ([V.int i] : List V) = [V.int j] ∧ Q (.int j) H) ∨ (∃ k, ([V.int i] : List V) = [V.bl k] ∧ Q (.int (if k then 1 else 0)) H) := .inl ⟨i, rfl, q⟩
theorem ok_pot (T : Txt K mg ca ia fa fd fi) : FnOk P w K mg base CX0 1 (fa 34) (fd 34) ["_law_script", "_law_k"] (spPot K) := by
  refine T.F_l_pot.ok sc_l_pot (fun vs H Q E h => ?_) (fun cdv A outer s H vs Q E hr h => ?_)
  · obtain ⟨a, ns, k, rfl, _⟩ := h
    rfl
  · obtain ⟨a, ns, k, rfl, hs, hk, hn, q⟩ := h
    refine ⟨_, (pss_cons (ps_set (i := 2) sc_l_pot.nd rfl (Or.inl rfl) (pe_ifExp (pt_cmpR op_lt (pv 1) (pe_callB call_len (by rfl) T.n_len (by decide +kernel) (pa_cons (pv 0) pa_nil)) (nomark _)) (pe_ix ix_seq (pv 0) (pv 1) (fun _ _ => rfl)) (pe_op op_add (pe_op op_mulW pe_int (pv 1)) pe_int)))
      (pss_cons (ps_set (i := 3) sc_l_pot.nd rfl (Or.inl rfl) (pe_op op_mulW (pe_op op_mod (pe_callTy call_int1 (by rfl) T.n_int (by decide +kernel) (pa_cons (pe_callB call_abs (by rfl) T.n_abs (by decide +kernel) (pa_cons (pv 2) pa_nil)) pa_nil)) (pe_op op_pw (pe_op op_pw pe_int pe_int) pe_int)) (pe_callTy call_int1 (by rfl) T.n_int (by decide +kernel) (pa_cons (pe_cmpR op_ge (pe_callB call_abs (by rfl) T.n_abs (by decide +kernel) (pa_cons (pv 2) pa_nil)) (pe_op op_pw pe_int pe_int) (nomark _)) pa_nil))))
      (pss_one (ps_ret (pe_lst (pa_cons (pv 3) (pa_cons (pe_op op_mod (pe_callTy call_int1 (by rfl) T.n_int (by decide +kernel) (pa_cons (pe_op op_add (pe_op op_add (pe_op op_mulW (pe_op op_mod (pe_callTy call_int1 (by rfl) T.n_int (by decide +kernel) (pa_cons (pv 2) pa_nil)) pe_int) pe_int) (pe_op op_mulW (pe_op op_mulW pe_int (pv 1)) (pv 1))) pe_int) pa_nil)) pe_int) (pa_cons pe_int pa_nil)))))))), ?_⟩
    refine seqS (fun v H' => H = H' ∧ ∃ z : Int, v = .int z) (fun Q k' => ?_) ?_
    · refine ⟨_, rfl, _, rfl, _, _, rfl, .inl ⟨_, hs, rfl⟩, _, _, rfl, rfl, _, rfl, ite2 (fun h => ?_) (fun _ => ?_)⟩
      · have h : (k : Int) < ((ns.map V.int).length : Nat) := of_decide_eq_true h
        rw [List.length_map] at h
        have hz : (ns.map V.int)[k]? = some (.int (ns[k]'(by omega))) := by
          rw [List.getElem?_map, List.getElem?_eq_getElem (by omega)]
          rfl
        exact ⟨_, rfl, _, rfl, ixl k hs hz (k' _ _ ⟨rfl, _, rfl⟩)⟩
      · refine ⟨_, rfl, _, _, rfl, rfl, mulOk (by decide) (by omega), _, _, rfl, rfl, ?_⟩
        exact k' _ _ ⟨rfl, _, rfl⟩
    rintro _ _ ⟨rfl, z, rfl⟩
    have pw1 : CPw 10 60 := ⟨by decide, 4, by decide, by decide⟩
    have pw2 : CPw ((10 : Int) ^ (60 : Int).toNat) 5 := ⟨by decide, 200, by decide +kernel, by decide⟩
    have pw3 : CPw 10 18 := ⟨by decide, 4, by decide, by decide⟩
    refine seqS (fun v H' => H = H' ∧ ∃ z : Int, v = .int z ∧ 0 ≤ z) (fun Q k' => ?_) ?_
    · refine ⟨_, rfl, _, rfl, .inl ⟨_, rfl, _, _, rfl, rfl, pw1, _, _, rfl, rfl, pw2, _, _, rfl, rfl, big_nn, ?_⟩⟩
      obtain ⟨d, hd, hl⟩ := modN (if z < 0 then -z else z) big_nn
      refine ⟨_, rfl, _, rfl, _, _, rfl, rfl, pw3, _, _, rfl, rfl, .inr ⟨_, rfl, ?_⟩⟩
      have ⟨h2, h3⟩ := b01 (decide ((10 : Int) ^ (18 : Int).toNat ≤ if z < 0 then -z else z))
      refine ⟨_, _, rfl, rfl, ?_, ?_⟩
      · show CMulW ((if z < 0 then -z else z) % _) _
        rw [hd]
        exact wide_mul (big_lt hl (by omega)) h2 (by decide) (by decide) (by decide)
      · refine k' _ _ ⟨rfl, _, rfl, ?_⟩
        show 0 ≤ ((if z < 0 then -z else z) % _) * _
        rw [hd]
        exact Int.mul_nonneg (by omega) h3
    rintro _ _ ⟨rfl, own, rfl, hown⟩
    have hp61 : (0 : Int) < 2305843009213693951 := by decide
    obtain ⟨d, hd, hl⟩ := modN z hp61
    have m1 : CMulW (z % 2305843009213693951) 69389 := by
      rw [hd]
      exact mulOk (by omega) (by decide)
    have m2 : CMulW 7561 (k : Int) := mulOk (by decide) (by omega)
    have m3 : CMulW (7561 * (k : Int)) (k : Int) := mulOk (by omega) (by omega)
    refine ⟨_, rfl, _, rfl, .inl ⟨_, rfl, _, _, rfl, rfl, hp61, _, _, rfl, rfl, m1, _, rfl, _, _, rfl, rfl, m2, _, rfl, _, _, rfl, rfl, m3, ?_⟩⟩
    refine ⟨_, _, rfl, rfl, _, _, rfl, rfl, .inl ⟨_, rfl, _, _, rfl, rfl, (show (0 : Int) < 2305843009213693921 by decide), ?_⟩⟩
    refine ⟨by show 3 ≤ sizeLine; decide, fun p hp => ?_⟩
    obtain ⟨d2, hd2, hl2⟩ := modN (z % 2305843009213693951 * 69389 + 7561 * (k : Int) * (k : Int) + 83) (show (0 : Int) < 2305843009213693921 by decide)
    refine q p _ (same_new hp) hp ⟨own, (d2 : Int), 0, ?_, hown, by omega, by omega, by decide, by decide⟩
    rw [← hd2]
    exact upd_same
end
end Toy
set_option Elab.async false
set_option linter.all false
set_option maxRecDepth 100000
set_option maxHeartbeats 4000000
namespace Toy
open PySem L2 Q
section
variable {P : Program} {w : World} {K : PySem.W.Frag} {mg : Str → Option Value} {base : Heap} {ca ia fa : Nat → Addr} {fd fi : Nat → FuncData}
theorem ok_pots (T : Txt K mg ca ia fa fd fi) : FnOk P w K mg base CX0 2 (fa 36) (fd 36) ["_law_script", "_law_most"] (spPots K) := by
  have G_l_pot := ok_pot (P := P) (w := w) (base := base) T
  refine T.F_l_pots.ok sc_l_pots (fun vs H Q E h => ?_) (fun cdv A outer s H vs Q E hr h => ?_)
  · obtain ⟨a, ns, n, rfl, _⟩ := h
    rfl
  · obtain ⟨a, ns, n, rfl, hs, hn, hl, q⟩ := h
    refine ⟨_, (pss_one (ps_ret (pe_lc (own := [("_law_k", 2)]) (g := (gName 2)) (tt := tYes) rfl sc_l_pots.nd (pi_range1 rfl T.n_range (pa_cons (pe_callB (call_max2 rfl) (by rfl) T.n_max (by decide +kernel) (pa_cons pe_int (pa_cons (pe_callB (call_min2 rfl) (by rfl) T.n_min (by decide +kernel) (pa_cons (pe_callTy call_int1 (by rfl) T.n_int (by decide +kernel) (pa_cons (pv 1) pa_nil)) (pa_cons (pe_callB call_len (by rfl) T.n_len (by decide +kernel) (pa_cons (pv 0) pa_nil)) pa_nil))) pa_nil))) pa_nil)) (blkOk_by (own := [("_law_k", 2)]) (N := N_l_pots) (sc := defScope s_l_pots) (by decide +kernel)) (fun _ _ _ _ _ => (pg_name (i := 2) sc_l_pots.nd rfl (Or.inl rfl))) (fun _ _ _ _ _ => pts_nil) (fun _ _ _ _ _ => by exact (pe_call G_l_pot (hr.mono (by decide)) rfl T.g_l_pot T.k_l_pot T.b_l_pot .nil pass0 (pa_cons (pv 0) (pa_cons (pv 2) pa_nil))))))), ?_⟩
    refine ⟨_, rfl, .inl ⟨_, rfl, _, rfl, _, _, rfl, .inl ⟨_, hs, rfl⟩, _, _, rfl, _, _, rfl, ?_⟩⟩
    obtain ⟨m, hm, hm2⟩ : ∃ m : Nat, (if (if ((ns.map V.int).length : Int) < (n : Int) then ((ns.map V.int).length : Int) else (n : Int)) > 1
        then (if ((ns.map V.int).length : Int) < (n : Int) then ((ns.map V.int).length : Int) else (n : Int)) else 1) = (m : Int) ∧ m ≤ 1000 := by
      refine ⟨((if (if ((ns.map V.int).length : Int) < (n : Int) then ((ns.map V.int).length : Int) else (n : Int)) > 1
        then (if ((ns.map V.int).length : Int) < (n : Int) then ((ns.map V.int).length : Int) else (n : Int)) else 1)).toNat, ?_, ?_⟩ <;> repeat' split <;> omega
    rw [hm]
    refine ⟨_, rfl, by omega, by omega, fun D hD => ?_⟩
    refine lc_range (lo := 0) (n := (m : Int).toNat) (fun i H' => ∃ ps : List Addr, ps.length = i ∧ H' D = some (.lst (ps.map V.ref)) ∧ Same H H' ∧ ps.Nodup ∧ D ∉ ps ∧ ∀ p ∈ ps, Pot H' p 0)
      ⟨[], rfl, upd_same, same_new hD, List.nodup_nil, List.not_mem_nil, fun _ z => nomatch z⟩ ?_ ?_
    · rintro i H1 hi ⟨ps, hlen, h1, s1, nd, nD, hp⟩
      refine ⟨rfl, ?_⟩
      dsimp only [tYes]
      rw [if_pos rfl]
      refine ⟨_, rfl, _, rfl, a, ns, i, by rw [Int.zero_add] <;> rfl, s1.seq hs, by omega, hl, fun p H2 s2 np hpot => ?_⟩
      have npD : p ≠ D := fun z => by rw [z, h1] at np; cases np
      have s3 : ∀ {o}, ∀ b u, b ≠ D → H2 b = some u → upd H2 D o b = some u := fun b u n e => by rw [upd_ne n]; exact e
      refine ⟨_, s2 _ _ h1, ?_, ps ++ [p], by simp [hlen], ?_, ?_, ?_, ?_, ?_⟩
      · rw [List.length_map]
        exact small1000 (by omega)
      · rw [upd_same, List.map_append]
        rfl
      · intro b u e
        exact s3 b u (ne_of_none e hD) (s2 _ _ (s1 _ _ e))
      · refine List.nodup_append.mpr ⟨nd, by simp, ?_⟩
        intro x hx y hy e
        have e2 : y = p := by simpa using hy
        subst e2
        obtain ⟨_, _, _, z, _⟩ := hp x hx
        rw [e, np] at z
        cases z
      · intro z
        rcases List.mem_append.mp z with z | z
        · exact nD z
        · exact npD (by simpa using z : D = p).symm
      · intro x hx
        have nx : x ≠ D := by
          rcases List.mem_append.mp hx with z | z
          · rintro rfl
            exact nD z
          · have e2 : x = p := by simpa using z
            rw [e2]
            exact npD
        have px : Pot H2 x 0 := by
          rcases List.mem_append.mp hx with z | z
          · exact (hp x z).same s2
          · have e2 : x = p := by simpa using z
            rw [e2]
            exact hpot
        obtain ⟨o, sd, c, e, r⟩ := px
        exact ⟨o, sd, c, s3 _ _ nx e, r⟩
    · rintro H1 ⟨ps, hlen, h1, s1, nd, nD, hp⟩
      exact q D ps H1 s1 h1 (by omega) nd nD hp
end
end Toy
set_option Elab.async false
set_option linter.all false
set_option maxRecDepth 100000
set_option maxHeartbeats 4000000
namespace Toy
open PySem L2 Q
/-- _law_turned(pot, xs): the items, turned about, in a new list -/
def spTurned (K : PySem.W.Frag) : Sp := fun vs H Q _ => ∃ (p a : Addr) (xs : List V) (B : Nat), vs = [.ref p, .ref a] ∧ Pot H p B ∧ B < 999990 ∧ a ≠ p ∧
  SqL K H a xs ∧ 0 < xs.length ∧ xs.length < 1000000 ∧
  ∀ (ys : List V) (q : Addr) (H' : Hp), ys.Perm xs → But p H H' → Pot H' p (B + 2) → H q = none → H' q = some (.lst ys) → Q (.ref q) H'
/-- _law_far(pot): a length from 1 to 90 -/
def spFar (K : PySem.W.Frag) : Sp := fun vs H Q _ => ∃ (p : Addr) (B : Nat), vs = [.ref p] ∧ Pot H p B ∧ B < 999990 ∧
  ∀ (n : Nat) (H' : Hp), 1 ≤ n → n ≤ 90 → But p H H' → Pot H' p (B + 3) → Q (.int (n : Int)) H'
theorem cut_drop (xs : List V) (d : Nat) : cutV xs (some (d : Int)) none = xs.drop d := by
  unfold cutV
  rw [HT.sIx_nat, HT.sIx_none, List.take_of_length_le (by rw [List.length_drop]; omega)]
  rcases Nat.le_total d xs.length with h | h
  · rw [Nat.min_eq_left h]
  · rw [Nat.min_eq_right h, List.drop_eq_nil_of_le (Nat.le_refl _), List.drop_eq_nil_of_le h]
theorem cut_take (xs : List V) (d : Nat) : cutV xs none (some (d : Int)) = xs.take d := by
  unfold cutV
  rw [HT.sIx_nat, HT.sIx_none, List.drop_zero, Nat.sub_zero]
  rcases Nat.le_total d xs.length with h | h
  · rw [Nat.min_eq_left h]
  · rw [Nat.min_eq_right h, List.take_of_length_le (Nat.le_refl _), List.take_of_length_le h]
theorem rot_perm (xs : List V) (d : Nat) : (xs.drop d ++ xs.take d).Perm xs := by
  have h : (xs.drop d ++ xs.take d).Perm (xs.take d ++ xs.drop d) := List.perm_append_comm
  rw [List.take_append_drop] at h
  exact h
theorem pot_none {H : Hp} {p q : Addr} {B : Nat} (h : Pot H p B) (n : H q = none) : q ≠ p := by
  rintro rfl
  obtain ⟨o, s, c, e, _⟩ := h
  rw [e] at n
  cases n
theorem but_none {H H' : Hp} {p q : Addr} {B : Nat} (b : But p H H') (h : Pot H' p B) (n : H' q = none) : H q = none := by
  cases e : H q with
  | none => rfl
  | some o =>
    rw [b q o (pot_none h n) e] at n
    cases n
theorem pot_but {H H' : Hp} {p a : Addr} {o : HO} (n : H a = none) (h : ∃ B, Pot H p B) (b : But p (upd H a o) H') : H' a = some o := by
  obtain ⟨B, h⟩ := h
  exact b _ _ (pot_none h n) upd_same
section
variable {P : Program} {w : World} {K : PySem.W.Frag} {mg : Str → Option Value} {base : Heap} {ca ia fa : Nat → Addr} {fd fi : Nat → FuncData}
theorem ok_turned (T : Txt K mg ca ia fa fd fi) : FnOk P w K mg base CX0 2 (fa 38) (fd 38) ["_law_pot_here", "_law_some"] (spTurned K) := by
  have G_l_take := ok_take (P := P) (w := w) (base := base) T
  refine T.F_l_turned.ok sc_l_turned (fun vs H Q E h => ?_) (fun cdv A outer s H vs Q E hr h => ?_)
  · obtain ⟨p, a, xs, B, rfl, _⟩ := h
    rfl
  · obtain ⟨p, a, xs, B, rfl, hp, hB, nap, hx, h0, h1, k⟩ := h
    refine ⟨_, (pss_cons (ps_set (i := 2) sc_l_turned.nd rfl (Or.inl rfl) (pe_call G_l_take (hr.mono (by decide)) rfl T.g_l_take T.k_l_take T.b_l_take .nil pass0 (pa_cons (pv 0) (pa_cons (pe_callB call_len (by rfl) T.n_len (by decide +kernel) (pa_cons (pv 1) pa_nil)) pa_nil))))
      (pss_cons (ps_set (i := 3) sc_l_turned.nd rfl (Or.inl rfl) (pe_op op_cat (pe_slice sl_list (pv 1) (po_some (pv 2)) po_none) (pe_slice sl_list (pv 1) po_none (po_some (pv 2)))))
      (pss_one (ps_ret (pe_ifExp (pt_cmpR op_eq (pe_call G_l_take (hr.mono (by decide)) rfl T.g_l_take T.k_l_take T.b_l_take .nil pass0 (pa_cons (pv 0) (pa_cons pe_int pa_nil))) pe_int (nomark _)) (pe_revL (pv 3)) (pv 3)))))), ?_⟩
    refine seqS (fun v H' => ∃ d : Nat, v = .int (d : Int) ∧ But p H H' ∧ Pot H' p (B + 1)) (fun Q k' => ?_) ?_
    · refine ⟨_, rfl, _, rfl, _, _, rfl, .inl ⟨xs, hx, rfl⟩, p, _, B, rfl, hp, by omega, by omega, by omega, fun d H' hd hb hp' => k' _ _ ⟨d, rfl, hb, hp'⟩⟩
    rintro _ H1 ⟨d, rfl, b1, p1⟩
    have hx1 := seq_but b1 nap hx
    refine seqS (fun v H' => ∃ q, v = .ref q ∧ Same H1 H' ∧ H1 q = none ∧ H' q = some (.lst (xs.drop d ++ xs.take d))) (fun Q k' => ?_) ?_
    · refine ⟨_, rfl, _, rfl, _, rfl, a, xs, rfl, hx1, fun l1 n1 => ?_⟩
      refine ⟨_, rfl, _, rfl, _, rfl, a, xs, rfl, (same_new n1).seq hx1, fun l2 n2 => ?_⟩
      have e1 := cut_drop xs d
      have e2 := cut_take xs d
      refine ⟨l1, l2, xs.drop d, xs.take d, rfl, rfl, ?_, ?_, ?_, fun q nq => k' _ _ ⟨q, rfl, ?_, ?_, upd_same⟩⟩
      · rw [same_new n2 _ _ upd_same, e1]
      · rw [upd_same, e2]
      · rw [List.length_drop, List.length_take, sizeLine_eq]
        omega
      · exact ((same_new n1).trans (same_new n2)).trans (same_new nq)
      · cases e : H1 q with
        | none => rfl
        | some o =>
          rw [((same_new n1).trans (same_new n2)) _ _ e] at nq
          cases nq
    rintro _ H2 ⟨q, rfl, s2, nq, hq⟩
    have p2 := p1.same s2
    have nqp : q ≠ p := pot_none p1 nq
    have nH : H q = none := but_none b1 p1 nq
    refine ⟨_, rfl, p, 2, B + 1, rfl, p2, by decide, by decide, by omega, fun d2 H3 hd2 b3 p3 => ?_⟩
    have h3 : H3 q = some (.lst (xs.drop d ++ xs.take d)) := b3 _ _ nqp hq
    have b13 : But p H H3 := (b1.trans (But.of s2)).trans b3
    refine ⟨rfl, _, rfl, ite2 (fun _ => ?_) (fun _ => ?_)⟩
    · refine ⟨_, rfl, q, _, rfl, SqL.of h3, fun r nr => ?_⟩
      exact k _ r _ ((List.reverse_perm _).trans (rot_perm xs d)) (b13.trans (But.of (same_new nr))) (p3.same (same_new nr)) (but_none b13 p3 nr) upd_same
    · exact ⟨_, rfl, k _ q _ (rot_perm xs d) b13 p3 nH h3⟩
theorem ok_far (T : Txt K mg ca ia fa fd fi) : FnOk P w K mg base CX0 3 (fa 40) (fd 40) ["_law_pot_here"] (spFar K) := by
  have G_l_take := ok_take (P := P) (w := w) (base := base) T
  have G_l_of := ok_of (P := P) (w := w) (base := base) T
  refine T.F_l_far.ok sc_l_far (fun vs H Q E h => ?_) (fun cdv A outer s H vs Q E hr h => ?_)
  · obtain ⟨p, B, rfl, _⟩ := h
    rfl
  · obtain ⟨p, B, rfl, hp, hB, k⟩ := h
    refine ⟨_, (pss_one (ps_ret (pe_call G_l_of (hr.mono (by decide)) rfl T.g_l_of T.k_l_of T.b_l_of .nil pass0 (pa_cons (pv 0) (pa_cons (pe_lst (pa_cons pe_int (pa_cons pe_int (pa_cons pe_int (pa_cons pe_int (pa_cons pe_int (pa_cons pe_int (pa_cons pe_int (pa_cons pe_int (pa_cons pe_int (pa_cons pe_int (pa_cons (pe_op op_add pe_int (pe_call G_l_take (hr.mono (by decide)) rfl T.g_l_take T.k_l_take T.b_l_take .nil pass0 (pa_cons (pv 0) (pa_cons pe_int pa_nil)))) (pa_cons (pe_op op_add pe_int (pe_call G_l_take (hr.mono (by decide)) rfl T.g_l_take T.k_l_take T.b_l_take .nil pass0 (pa_cons (pv 0) (pa_cons pe_int pa_nil)))) pa_nil))))))))))))) pa_nil))))), ?_⟩
    refine ⟨_, rfl, ?_⟩
    refine ⟨_, rfl, p, 12, B, rfl, hp, by decide, by decide, by omega, fun d1 H1 hd1 b1 p1 => ?_⟩
    refine ⟨_, _, rfl, rfl, _, rfl, p, 90, B + 1, rfl, p1, by decide, by decide, by omega, fun d2 H2 hd2 b2 p2 => ?_⟩
    refine ⟨_, _, rfl, rfl, by show 12 ≤ sizeLine; decide, fun l nl => ?_⟩
    have b12 := b1.trans b2
    have nlp : l ≠ p := pot_none p2 nl
    refine ⟨p, .ref l, _, B + 2, rfl, p2.same (same_new nl), by omega, .inl ⟨l, rfl, nlp, SqL.of upd_same⟩, by show 0 < 12; decide, by show 12 < 1073741824; decide, fun d v H3 hv b3 p3 => ?_⟩
    have b13 := (b12.trans (But.of (same_new nl))).trans b3
    have out : ∃ n : Nat, v = .int (n : Int) ∧ 1 ≤ n ∧ n ≤ 90 := by
      match d, hv with
      | 0, hv => cases hv; exact ⟨1, rfl, by decide, by decide⟩
      | 1, hv => cases hv; exact ⟨1, rfl, by decide, by decide⟩
      | 2, hv => cases hv; exact ⟨2, rfl, by decide, by decide⟩
      | 3, hv => cases hv; exact ⟨2, rfl, by decide, by decide⟩
      | 4, hv => cases hv; exact ⟨3, rfl, by decide, by decide⟩
      | 5, hv => cases hv; exact ⟨1, rfl, by decide, by decide⟩
      | 6, hv => cases hv; exact ⟨4, rfl, by decide, by decide⟩
      | 7, hv => cases hv; exact ⟨2, rfl, by decide, by decide⟩
      | 8, hv => cases hv; exact ⟨5, rfl, by decide, by decide⟩
      | 9, hv => cases hv; exact ⟨3, rfl, by decide, by decide⟩
      | 10, hv =>
        cases hv
        exact ⟨1 + d1, by simp, by omega, by omega⟩
      | 11, hv =>
        cases hv
        exact ⟨1 + d2, by simp, by omega, by omega⟩
      | d + 12, hv => cases hv
    obtain ⟨n, rfl, n1, n2⟩ := out
    exact k n H3 n1 n2 b13 p3
end
end Toy
set_option Elab.async false
set_option linter.all false
set_option maxRecDepth 100000
set_option maxHeartbeats 4000000
namespace Toy
open PySem L2 Q
abbrev Low (z : Str) : Prop := ∀ c ∈ z.cps.toList, 97 ≤ c ∧ c ≤ 122
abbrev small : Str := Str.ofString "abcdefghijklmnopqrstuvwxyz"
/-- a right name -/
abbrev NameOk (z : Str) : Prop := 1 ≤ z.length ∧ z.length ≤ 8 ∧ Low z
theorem small_at {j : Nat} (h : j < 26) : small.cps.toList[j]? = some (97 + j) := by
  have all : ∀ j : Fin 26, small.cps.toList[j.val]? = some (97 + j.val) := by decide +kernel
  exact all ⟨j, h⟩
theorem small_len : small.cps.toList.length = 26 := by decide +kernel
theorem roomU {k : Nat} {A : Around} (h : Room k A) : A.units + 2 < cLine := by
  have q := h.units
  omega
theorem len_list (z : Str) : z.length = z.cps.toList.length := rfl
theorem joinL_nil : ∀ ls : List (List Nat), TL.joinL [] ls = ls.flatten
  | [] => rfl
  | [p] => by simp [TL.joinL]
  | p :: q :: r => by
    rw [TL.joinL, joinL_nil (q :: r), List.flatten_cons (L := q :: r), List.nil_append]
theorem join_cps (ys : List Str) : (Txt.join (Str.ofString "") ys).cps.toList = (ys.map (·.cps.toList)).flatten := by
  rw [TL.join_eq]
  have e := TL.tl_join (Str.ofString "") ys
  have e0 : TL.tl (Str.ofString "") = [] := by decide +kernel
  rw [e0, joinL_nil] at e
  exact e
theorem flat_low : ∀ {ys : List Str}, (∀ y ∈ ys, y.length = 1 ∧ Low y) → (ys.map (·.cps.toList)).flatten.length = ys.length ∧ (∀ c ∈ (ys.map (·.cps.toList)).flatten, 97 ≤ c ∧ c ≤ 122) ∧
    (ys.map (·.length)).sum = ys.length
  | [], _ => ⟨rfl, fun _ h => (by cases h), rfl⟩
  | y :: ys, h => by
    obtain ⟨h1, h2⟩ := h y List.mem_cons_self
    obtain ⟨q1, q2, q3⟩ := flat_low fun z hz => h z (List.mem_cons_of_mem _ hz)
    rw [len_list] at h1
    refine ⟨?_, ?_, ?_⟩
    · rw [List.map_cons, List.flatten_cons, List.length_append, h1, q1, List.length_cons]
      omega
    · intro c hc
      rw [List.map_cons, List.flatten_cons, List.mem_append] at hc
      exact hc.elim (h2 c) (q2 c)
    · rw [List.map_cons, List.sum_cons, q3, len_list, h1, List.length_cons]
      omega
abbrev rPlus : R2 := fun x y H Q => ∃ i j, x = .str i ∧ y = .str j ∧ i.length + j.length ≤ sizeLine ∧ Q (.str (i ++ j)) H
abbrev rInt1 : List V → Hp → VK → Prop := fun xs H Q => (∃ i, xs = [.int i] ∧ Q (.int i) H) ∨ ∃ k, xs = [.bl k] ∧ Q (.int (if k then 1 else 0)) H
abbrev tName (K : PySem.W.Frag) : TE :=
  tOp rPlus (tOp rPlus (tSl rSlS (tVar 3) tNoPart (tPart (tVar 5))) (tOp (rIx K) (tVar 2) (tOp (rI (fun _ j => 0 < j) fun i j => .int (i % j))
    (tCB rInt1 (tCons (tOp (rI0 fun i j => .int (i + j)) (tVar 6) (tOp (rI CMulW fun i j => .int (i * j)) (tC (.int 5)) (tVar 8))) tNil)) (tC (.int 26)))))
    (tSl rSlS (tVar 3) (tPart (tVar 5)) tNoPart)
/-- the k-th name: a letter put into the stem -/
def nameL (z : Str) (sp a k : Nat) : List Nat := z.cps.toList.take sp ++ (97 + (a + 5 * k) % 26) :: z.cps.toList.drop sp
def nameS (z : Str) (sp a k : Nat) : Str := ⟨(nameL z sp a k).toArray⟩
theorem cutS_take (z : Str) (d : Nat) : (cutS z none (some (d : Int))).cps.toList = z.cps.toList.take d := by
  unfold cutS
  rw [HT.sIx_nat, HT.sIx_none, List.toList_toArray, List.drop_zero, Nat.sub_zero]
  rcases Nat.le_total d z.length with h | h
  · rw [Nat.min_eq_left h]
  · rw [Nat.min_eq_right h]
    show z.cps.toList.take z.cps.toList.length = _
    rw [List.take_length, List.take_of_length_le h]
theorem cutS_drop (z : Str) (d : Nat) : (cutS z (some (d : Int)) none).cps.toList = z.cps.toList.drop d := by
  unfold cutS
  rw [HT.sIx_nat, HT.sIx_none, List.toList_toArray, List.take_of_length_le (by rw [List.length_drop]; exact Nat.le_refl _)]
  rcases Nat.le_total d z.length with h | h
  · rw [Nat.min_eq_left h]
  · rw [Nat.min_eq_right h]
    show z.cps.toList.drop z.cps.toList.length = _
    rw [List.drop_length, List.drop_eq_nil_of_le h]
theorem name_eq (z : Str) (sp a k : Nat) : cutS z none (some (sp : Int)) ++ (⟨#[97 + (a + 5 * k) % 26]⟩ : Str) ++ cutS z (some (sp : Int)) none = nameS z sp a k := by
  apply Q.str_ext
  have e := TL.tl_append (cutS z none (some (sp : Int)) ++ (⟨#[97 + (a + 5 * k) % 26]⟩ : Str)) (cutS z (some (sp : Int)) none)
  have e2 := TL.tl_append (cutS z none (some (sp : Int))) (⟨#[97 + (a + 5 * k) % 26]⟩ : Str)
  refine Eq.trans e ?_
  rw [e2]
  show (cutS z none (some (sp : Int))).cps.toList ++ [97 + (a + 5 * k) % 26] ++ (cutS z (some (sp : Int)) none).cps.toList = nameL z sp a k
  rw [cutS_take, cutS_drop, List.append_assoc]
  rfl
theorem name_inj {z : Str} {sp a k l : Nat} (hk : k < 26) (hl : l < 26) (e : nameS z sp a k = nameS z sp a l) : k = l := by
  have e1 : nameL z sp a k = nameL z sp a l := by
    have q := congrArg (fun s : Str => s.cps.toList) e
    exact q
  unfold nameL at e1
  have e2 := List.append_cancel_left e1
  injection e2 with e3 _
  omega
theorem name_ok {z : Str} {sp a k : Nat} (hz : z.length ≤ 7) (low : Low z) : NameOk (nameS z sp a k) := by
  have hl : (nameS z sp a k).length = z.length + 1 := by
    show (nameL z sp a k).length = _
    unfold nameL
    rw [List.length_append, List.length_cons, List.length_take, List.length_drop, len_list]
    omega
  refine ⟨by omega, by omega, fun c hc => ?_⟩
  have hc : c ∈ nameL z sp a k := hc
  unfold nameL at hc
  rcases List.mem_append.mp hc with h | h
  · exact low c (List.mem_of_mem_take h)
  · rcases List.mem_cons.mp h with h | h
    · have : (a + 5 * k) % 26 < 26 := Nat.mod_lt _ (by decide)
      omega
    · exact low c (List.mem_of_mem_drop h)
/-- _law_names(pot, n): n unlike right names in their order -/
def spNames (K : PySem.W.Frag) : Sp := fun vs H Q _ => ∃ (p : Addr) (n B : Nat), vs = [.ref p, .int (n : Int)] ∧ Pot H p B ∧ B < 999900 ∧ n ≤ 26 ∧
  ∀ (zs : List Str) (q : Addr) (H' : Hp), zs.length = n → zs.Pairwise tLt → (∀ z ∈ zs, NameOk z) → But p H H' → Pot H' p (B + 20) → H q = none → H' q = some (.lst (zs.map V.str)) → Q (.ref q) H'
section
variable {P : Program} {w : World} {K : PySem.W.Frag} {mg : Str → Option Value} {base : Heap} {ca ia fa : Nat → Addr} {fd fi : Nat → FuncData}
theorem ok_names (T : Txt K mg ca ia fa fd fi) : FnOk P w K mg base CX0 3 (fa 39) (fd 39) ["_law_pot_here", "_law_many"] (spNames K) := by
  have G_l_take := ok_take (P := P) (w := w) (base := base) T
  have G_l_of := ok_of (P := P) (w := w) (base := base) T
  refine T.F_l_names.ok sc_l_names (fun vs H Q E h => ?_) (fun cdv A outer s H vs Q E hr h => ?_)
  · obtain ⟨p, n, B, rfl, _⟩ := h
    rfl
  · obtain ⟨p, n, B, rfl, hp, hB, hn, k⟩ := h
    refine ⟨_, (pss_cons (ps_set (i := 2) sc_l_names.nd rfl (Or.inr rfl) pe_str)
      (pss_cons (ps_set (i := 3) sc_l_names.nd rfl (Or.inr rfl) (pe_join pe_str (pe_lc (own := [("_law_turn", 4)]) (g := (gName 4)) (tt := tYes) rfl sc_l_names.nd (pi_range1 rfl T.n_range (pa_cons (pe_call G_l_of (hr.mono (by decide)) rfl T.g_l_of T.k_l_of T.b_l_of .nil pass0 (pa_cons (pv 0) (pa_cons (pe_lst (pa_cons pe_int (pa_cons pe_int (pa_cons pe_int (pa_cons pe_int (pa_cons pe_int (pa_cons pe_int (pa_cons pe_int (pa_cons pe_int (pa_cons pe_int pa_nil)))))))))) pa_nil))) pa_nil)) (blkOk_by (own := [("_law_turn", 4)]) (N := N_l_names) (sc := defScope s_l_names) (by decide +kernel)) (fun _ _ _ _ _ => (pg_name (i := 4) sc_l_names.nd rfl (Or.inl rfl))) (fun _ _ _ _ _ => pts_nil) (fun _ _ _ _ _ => by exact (pe_call G_l_of (hr.mono (by decide)) rfl T.g_l_of T.k_l_of T.b_l_of .nil pass0 (pa_cons (pv 0) (pa_cons (pv 2) pa_nil)))))))
      (pss_cons (ps_asg (pe_tup (pa_cons (pe_call G_l_take (hr.mono (by decide)) rfl T.g_l_take T.k_l_take T.b_l_take .nil pass0 (pa_cons (pv 0) (pa_cons (pe_op op_add (pe_callB call_len (by rfl) T.n_len (by decide +kernel) (pa_cons (pv 3) pa_nil)) pe_int) pa_nil))) (pa_cons (pe_call G_l_take (hr.mono (by decide)) rfl T.g_l_take T.k_l_take T.b_l_take .nil pass0 (pa_cons (pv 0) (pa_cons pe_int pa_nil))) pa_nil))) (pg_tup rfl (pgs_cons (pg_name (i := 5) sc_l_names.nd rfl (Or.inr rfl)) (pgs_cons (pg_name (i := 6) sc_l_names.nd rfl (Or.inr rfl)) pgs_nil))))
      (pss_cons (ps_setLc (i := 7) (own := [("_law_k", 8)]) (g := (gName 8)) (tt := tYes) (te := (tName K)) rfl sc_l_names.nd rfl rfl (sw_true rfl rfl rfl (by decide +kernel)) (pi_range1 rfl T.n_range (pa_cons (pv 1) pa_nil)) (blkOk_by (own := [("_law_k", 8)]) (N := N_l_names) (sc := defScope s_l_names) (by decide +kernel)) (fun _ _ _ _ _ => (pg_name (i := 8) sc_l_names.nd rfl (Or.inl rfl))) (fun _ _ _ _ _ => pts_nil) (fun _ _ _ _ _ => by exact (pe_op op_add_str (pe_op op_add_str (pe_slice sl_str (pv 3) po_none (po_some (pv 5))) (pe_ix ix_seq (pv 2) (pe_op op_mod (pe_callTy call_int1 (by rfl) T.n_int (by decide +kernel) (pa_cons (pe_op op_add (pv 6) (pe_op op_mulW pe_int (pv 8))) pa_nil)) pe_int) (fun _ _ => rfl))) (pe_slice sl_str (pv 3) (po_some (pv 5)) po_none))))
      (pss_one (ps_ret (pe_callB (cr_sortTx rfl (roomU hr)) (by rfl) T.n_sorted (by decide +kernel) (pa_cons (pe_callTy (cr_setTx rfl) (by rfl) T.n_set (by decide +kernel) (pa_cons (pv 7) pa_nil)) pa_nil)))))))), ?_⟩
    refine seqS (fun v H' => H = H' ∧ v = .str small) (fun Q k' => k' _ _ ⟨rfl, rfl⟩) ?_
    rintro _ _ ⟨rfl, rfl⟩
    refine seqS (fun v H' => ∃ z : Str, v = .str z ∧ z.length ≤ 7 ∧ Low z ∧ But p H H' ∧ Pot H' p (B + 9)) (fun Q k' => ?_) ?_
    · refine ⟨⟨_, rfl⟩, ?_⟩
      refine ⟨_, rfl, by show 9 ≤ sizeLine; decide, fun l nl => ?_⟩
      have nlp : l ≠ p := pot_none hp nl
      refine ⟨p, .ref l, _, B, rfl, hp.same (same_new nl), by omega, .inl ⟨l, rfl, nlp, SqL.of upd_same⟩, by show 0 < 9; decide, by show 9 < 1073741824; decide, fun d v H3 hv b3 p3 => ?_⟩
      have b13 := (But.of (same_new nl)).trans b3
      obtain ⟨m, rfl, hm⟩ : ∃ m : Nat, v = .int (m : Int) ∧ m ≤ 7 := by
        match d, hv with
        | 0, hv => cases hv; exact ⟨0, rfl, by decide⟩
        | 1, hv => cases hv; exact ⟨0, rfl, by decide⟩
        | 2, hv => cases hv; exact ⟨1, rfl, by decide⟩
        | 3, hv => cases hv; exact ⟨2, rfl, by decide⟩
        | 4, hv => cases hv; exact ⟨3, rfl, by decide⟩
        | 5, hv => cases hv; exact ⟨4, rfl, by decide⟩
        | 6, hv => cases hv; exact ⟨5, rfl, by decide⟩
        | 7, hv => cases hv; exact ⟨6, rfl, by decide⟩
        | 8, hv => cases hv; exact ⟨7, rfl, by decide⟩
        | d + 9, hv => cases hv
      refine ⟨_, rfl, by omega, by omega, fun D hD => ?_⟩
      have nDp : D ≠ p := pot_none p3 hD
      refine lc_range (lo := 0) (n := (m : Int).toNat) (fun i H' => ∃ ys : List Str, ys.length = i ∧ H' D = some (.lst (ys.map V.str)) ∧ (∀ y ∈ ys, y.length = 1 ∧ Low y) ∧ But p H H' ∧ Pot H' p (B + 1 + i))
        ⟨[], rfl, upd_same, fun _ h => (by cases h), b13.trans (But.of (same_new hD)), p3.same (same_new hD)⟩ ?_ ?_
      · rintro i H1 hi ⟨ys, hlen, h1, hy, b1, p1⟩
        refine ⟨rfl, ?_⟩
        dsimp only [tYes]
        rw [if_pos rfl]
        refine ⟨_, rfl, _, rfl, p, .str small, _, B + 1 + i, rfl, p1, by omega, .inr (.inr ⟨small, rfl, rfl, by decide +kernel⟩), ?_, ?_, fun d v H2 hv b2 p2 => ?_⟩
        · rw [List.length_map, small_len]; decide
        · rw [List.length_map, small_len]; decide
        rw [List.getElem?_map] at hv
        obtain ⟨c, hc, rfl⟩ := Option.map_eq_some_iff.mp hv
        have hd : d < 26 := by
          have q := (List.getElem?_eq_some_iff.mp hc).1
          rw [small_len] at q
          exact q
        rw [small_at hd] at hc
        cases hc
        refine ⟨_, b2 _ _ nDp h1, ?_, ys ++ [⟨#[97 + d]⟩], by simp [hlen], ?_, ?_, ?_, ?_⟩
        · rw [List.length_map, sizeLine_eq]
          omega
        · rw [upd_same, List.map_append]
          rfl
        · intro y hy2
          rcases List.mem_append.mp hy2 with q | q
          · exact hy y q
          · rw [List.mem_singleton.mp q]
            refine ⟨rfl, fun c hc => ?_⟩
            have e : c = 97 + d := by simpa using hc
            omega
        · intro b o nb e
          have nbD : b ≠ D := by
            rintro rfl
            rw [b13 b o nb e] at hD
            cases hD
          rw [upd_ne nbD]
          exact b2 _ _ nb (b1 _ _ nb e)
        · obtain ⟨o, sd, c, e, r⟩ := p2
          exact ⟨o, sd, c, by rw [upd_ne nDp.symm]; exact e, by omega⟩
      · rintro H1 ⟨ys, hlen, h1, hy, b1, p1⟩
        obtain ⟨f1, f2, f3⟩ := flat_low hy
        refine ⟨_, D, ys, rfl, rfl, .inl (SqL.of h1), ?_, k' _ _ ⟨_, rfl, ?_, ?_, b1, p1.mono (by omega)⟩⟩
        · show _ + ys.length * 0 ≤ _
          rw [f3]
          omega
        · rw [len_list, join_cps, f1]
          omega
        · intro c hc
          rw [join_cps] at hc
          exact f2 c hc
    rintro _ H1 ⟨z, rfl, hz, low, b1, p1⟩
    refine seqA (fun v H' => ∃ (sp a : Nat) (tq : Addr), v = .ref tq ∧ a < 26 ∧ H' tq = some (.tup [.int (sp : Int), .int (a : Int)]) ∧ But p H1 H' ∧ Pot H' p (B + 11)) (fun Q k' => ?_) ?_
    · refine ⟨_, rfl, _, rfl, _, _, rfl, ⟨by rw [sizeLine_eq]; omega, rfl⟩, _, _, rfl, rfl, p, ((z.length : Nat) : Int) + 1, B + 9, rfl, p1, by omega, by omega, by omega, fun sp H2 hsp b2 p2 => ?_⟩
      refine ⟨_, rfl, p, 26, B + 10, rfl, p2, by decide, by decide, by omega, fun a H3 ha b3 p3 => ?_⟩
      refine ⟨by show 2 ≤ sizeLine; decide, fun t nt => k' _ _ ⟨sp, a, t, rfl, by omega, upd_same, ?_, p3.same (same_new nt)⟩⟩
      exact (b2.trans b3).trans (But.of (same_new nt))
    rintro _ H2 ⟨sp, a, tq, rfl, ha, htq, b2, p2⟩
    refine ⟨tq, _, rfl, SqT.of htq, rfl, _, _, rfl, _, _, rfl, rfl, ?_⟩
    have hz2 : z.length ≤ sizeLine := by rw [sizeLine_eq]; omega
    refine seqS (fun v H' => ∃ l, v = .ref l ∧ Same H2 H' ∧ H2 l = none ∧ H' l = some (.lst (((List.range n).map (nameS z sp a)).map V.str))) (fun Q k' => ?_) ?_
    · refine ⟨_, rfl, _, rfl, by omega, by omega, fun D hD => ?_⟩
      refine lc_range (lo := 0) (n := (n : Int).toNat) (fun i H' => H' D = some (.lst (((List.range i).map (nameS z sp a)).map V.str)) ∧ Same H2 H') ⟨upd_same, same_new hD⟩ ?_ ?_
      · rintro i H3 hi ⟨h3, s3⟩
        refine ⟨rfl, ?_⟩
        dsimp only [tYes]
        rw [if_pos rfl]
        refine ⟨_, rfl, _, rfl, _, rfl, z, rfl, hz2, ?_⟩
        have m1 : CMulW 5 (0 + (i : Int)) := mulOk (by decide) (by omega)
        refine ⟨_, rfl, _, rfl, _, rfl, _, _, rfl, rfl, m1, _, _, rfl, rfl, .inl ⟨_, rfl, _, _, rfl, rfl, (show (0 : Int) < 26 by decide), ?_⟩⟩
        have ei : ((a : Int) + 5 * (0 + (i : Int))) % 26 = (((a + 5 * i) % 26 : Nat) : Int) := by omega
        show rIx K (.str small) (.int (((a : Int) + 5 * (0 + (i : Int))) % 26)) _ _
        rw [ei]
        have l26 : (a + 5 * i) % 26 < 26 := Nat.mod_lt _ (by decide)
        refine .inr (.inr ⟨small, _, 97 + (a + 5 * i) % 26, rfl, rfl, by decide +kernel, atI_nat (small_at l26), ?_⟩)
        have c1 : (cutS z none (some (sp : Int))).length ≤ 7 := by rw [len_list, cutS_take, List.length_take]; rw [len_list] at hz; omega
        have c2 : (cutS z (some (sp : Int)) none).length ≤ 7 := by rw [len_list, cutS_drop, List.length_drop]; rw [len_list] at hz; omega
        have c3 : (cutS z none (some (sp : Int)) ++ (⟨#[97 + (a + 5 * i) % 26]⟩ : Str)).length ≤ 8 := by
          have e := TL.tl_append (cutS z none (some (sp : Int))) (⟨#[97 + (a + 5 * i) % 26]⟩ : Str)
          have e2 := congrArg List.length e
          rw [List.length_append] at e2
          rw [len_list] at c1 ⊢
          refine Nat.le_trans (Nat.le_of_eq e2) ?_
          show _ + 1 ≤ 8
          exact Nat.add_le_add_right c1 1
        refine ⟨_, _, rfl, rfl, ?_, ?_⟩
        · show _ + 1 ≤ sizeLine
          rw [sizeLine_eq]
          omega
        refine ⟨_, rfl, _, rfl, _, rfl, z, rfl, hz2, _, _, rfl, rfl, ?_, ?_⟩
        · rw [sizeLine_eq]
          omega
        refine ⟨_, h3, ?_, ?_, ?_⟩
        · rw [List.length_map, List.length_map, List.length_range, sizeLine_eq]
          omega
        · rw [upd_same, name_eq, List.range_succ, List.map_append, List.map_append]
          rfl
        · intro b o e
          rw [upd_ne (ne_of_none e hD)]
          exact s3 b o e
      · rintro H3 ⟨h3, s3⟩
        exact k' _ _ ⟨D, rfl, s3, hD, h3⟩
    rintro _ H3 ⟨l, rfl, s3, nl, hl⟩
    have nd : ((List.range n).map (nameS z sp a)).Nodup := by
      refine List.pairwise_map.mpr (List.Pairwise.imp_of_mem (fun {i j} hi hj ne e => ?_) List.nodup_range)
      exact ne (name_inj (Nat.lt_of_lt_of_le (List.mem_range.mp hi) hn) (Nat.lt_of_lt_of_le (List.mem_range.mp hj) hn) e)
    have ln : ((List.range n).map (nameS z sp a)).length = n := by rw [List.length_map, List.length_range]
    refine ⟨_, rfl, l, _, rfl, SqL.of hl, nd, by omega, fun S us ru nS => ?_⟩
    refine ⟨S, us, _, rfl, upd_same, ru, nd, by omega, fun q zs pz pw nq => ?_⟩
    have p3 := (p2.same s3).same (same_new (o := SetM w S us) nS)
    have b3 : But p H (upd H3 S (SetM w S us)) := ((b1.trans b2).trans (But.of s3)).trans (But.of (same_new nS))
    refine k zs q _ (pz.length_eq.trans ln) pw (fun y hy => ?_) (b3.trans (But.of (same_new nq))) ((p3.same (same_new nq)).mono (by omega)) (but_none b3 p3 nq) upd_same
    obtain ⟨i, _, rfl⟩ := List.mem_map.mp (pz.mem_iff.mp hy)
    exact name_ok hz low
end
end Toy
set_option Elab.async false
set_option linter.all false
set_option maxRecDepth 100000
set_option maxHeartbeats 4000000
namespace Toy
open PySem L2 Q
theorem roomU65 {k : Nat} {A : Around} (h : Room k A) : A.units + 65 < cLine := by
  have q := h.un
  omega
abbrev tPairTest (K : PySem.W.Frag) : TT := tTest (tOp (rNotInD K) (tTup (tCons (tVar 9) (tCons (tVar 10) tNil))) (tVar 4))
abbrev pairK (a b : Str) : List Key := [.inr a, .inr b]
/-- unlike ascending pairs of the names zs, each a tuple -/
def PairsOk (H : Hp) (zs : List Str) (ps : List (Addr × List Key)) : Prop :=
  (∀ q ∈ ps, H q.1 = some (.tup (q.2.map kV)) ∧ ∃ a b, q.2 = pairK a b ∧ a ∈ zs ∧ b ∈ zs ∧ tLt a b) ∧ (ps.map (·.2)).Nodup
/-- _law_pairs(pot, routers, many) -/
def spPairs (K : PySem.W.Frag) : Sp := fun vs H Q _ => ∃ (p r : Addr) (zs : List Str) (m B : Nat), vs = [.ref p, .ref r, .int (m : Int)] ∧ Pot H p B ∧ B < 999000 ∧ r ≠ p ∧
  SqT K H r (zs.map V.str) ∧ zs.Pairwise tLt ∧ (∀ z ∈ zs, NameOk z) ∧ 2 ≤ zs.length ∧ zs.length ≤ 8 ∧
  ∀ (ps : List (Addr × List Key)) (l : Addr) (H' : Hp), PairsOk H' zs ps → (ps.length ≤ m ∨ ps.length < zs.length) → But p H H' → Pot H' p (B + 30) → H l = none → H' l = some (.lst (ps.map fun q => V.ref q.1)) → Q (.ref l) H'
theorem perm_map {α β : Type} (g : α → β) {ys ws : List β} (p : ys.Perm ws) : ∀ {zs : List α}, ws = zs.map g → ∃ os : List α, os.Perm zs ∧ ys = os.map g := by
  induction p with
  | nil =>
    intro zs e
    cases zs with
    | nil => exact ⟨[], .nil, rfl⟩
    | cons z zs => cases e
  | cons x _ ih =>
    intro zs e
    cases zs with
    | nil => cases e
    | cons z zs =>
      injection e with e1 e2
      obtain ⟨os, q, r⟩ := ih e2
      exact ⟨z :: os, .cons _ q, by rw [e1, r, List.map_cons]⟩
  | swap x y l =>
    intro zs e
    cases zs with
    | nil => cases e
    | cons z zs =>
      cases zs with
      | nil => cases e
      | cons z2 zs =>
        injection e with e1 e2
        injection e2 with e2 e3
        exact ⟨z2 :: z :: zs, .swap _ _ _, by rw [e1, e2, e3, List.map_cons, List.map_cons]⟩
  | trans _ _ ih1 ih2 =>
    intro zs e
    obtain ⟨os, q, r⟩ := ih2 e
    obtain ⟨os2, q2, r2⟩ := ih1 r
    exact ⟨os2, q2.trans q, r2⟩
theorem ifAny {t : TT} {a u : TS} {D : Ends} {σ : L2.St} {H : Hp} (P : Hp → Prop) (h : ∀ Q : Bool → Hp → Prop, (∀ b H', P H' → Q b H') → t σ H Q)
    (ka : ∀ H', P H' → a D σ H') (ku : ∀ H', P H' → u D σ H') : tIfS t a u D σ H := h _ fun b H' p => by
  cases b
  · exact ku H' p
  · exact ka H' p
theorem for_enT {K : PySem.W.Frag} {a : Addr} {xs : List V} {g : TG} {tb : TS} {D : Ends} {σ : L2.St} {H : Hp} (Pv : Nat → L2.St → Hp → Prop) (h0 : Pv 0 σ H)
    (hl : ∀ i σ H, i ≤ xs.length → Pv i σ H → SqT K H a xs)
    (hs : ∀ i x T σ H, xs[i]? = some x → Pv i σ H → H T = none → g (.ref T) σ (upd H T (.tup [.int (i : Nat), x])) fun σ2 H2 => tb { D with nx := Pv (i + 1), ct := Pv (i + 1), bk := D.nx } σ2 H2)
    (hd : ∀ σ H, Pv xs.length σ H → D.nx σ H) :
    ∃ W : Nat → Nat → L2.St → Hp → Prop, (∃ m, W 0 m σ H) ∧ ∀ i m σ H, W i m σ H → ((ItT K a xs).stop i H ∧ D.nx σ H) ∨ ((ItT K a xs).go i H ∧
      ∃ N : L2.St → Hp → Prop, (∀ σ' H', N σ' H' → ∃ m', m' < m ∧ W (i + 1) m' σ' H') ∧ ∀ x H', (ItT K a xs).yld i H x H' → g x σ H' fun σ2 H2 => tb { D with nx := N, ct := N, bk := D.nx } σ2 H2) := by
  refine ⟨fun i m σ H => m + i = xs.length ∧ Pv i σ H, ⟨xs.length, rfl, h0⟩, ?_⟩
  rintro i m σ H ⟨e, q⟩
  have sq := hl i σ H (by omega) q
  by_cases hi : i < xs.length
  · refine .inr ⟨⟨sq, hi⟩, Pv (i + 1), fun σ' H' z => ⟨m - 1, by omega, by omega, z⟩, ?_⟩
    rintro x H' ⟨T, y, rfl, nT, rfl, hy⟩
    exact hs i y T σ H hy q nT
  · exact .inl ⟨⟨sq, by omega⟩, hd σ H (by rwa [show xs.length = i by omega])⟩
abbrev kT (q : Addr × List Key) : PyData := .tuple (q.2.map kD)
theorem pair_eqv (a b x y : Str) : PyData.eqv (.tuple ((pairK a b).map kD)) (.tuple [.str x, .str y]) = decide (pairK a b = pairK x y) := by
  rw [Bool.eq_iff_iff]
  simp [PyData.eqv, PyData.eqvAll, kD, pairK]
theorem low_ok {x : Str} (h : Low x) : PyData.strOk x = true := by
  unfold PyData.strOk
  rw [← Array.all_toList, List.all_eq_true]
  intro c hc
  have := h c hc
  exact decide_eq_true (by omega)
theorem pair_shaped {x y : Str} (hx : Low x) (hy : Low y) : SeqAt.shaped (.tuple [.str x, .str y]) = true := by
  simp [SeqAt.shaped, PyData.canLay0, PyData.canLayAll0, PyData.depth, PyData.depthAll, low_ok hx, low_ok hy]
theorem rows_shaped {ps : List (Addr × List Key)} (h : ∀ q ∈ ps, ∃ a b, q.2 = pairK a b ∧ Low a ∧ Low b) : SeqAt.shaped (.list (ps.map kT)) = true := by
  have main : PyData.canLayAll0 (ps.map kT) = true ∧ PyData.depthAll (ps.map kT) ≤ 1 := by
    induction ps with
    | nil => simp [PyData.canLayAll0, PyData.depthAll]
    | cons q ps ih =>
      obtain ⟨i1, i2⟩ := ih fun z hz => h z (List.mem_cons_of_mem _ hz)
      obtain ⟨a, b, e, la, lb⟩ := h q List.mem_cons_self
      have c1 : (kT q).canLay0 = true := by
        rw [kT, e]
        simp [PyData.canLay0, PyData.canLayAll0, kD, pairK, low_ok la, low_ok lb]
      have c2 : (kT q).depth ≤ 1 := by
        rw [kT, e]
        simp [PyData.depth, PyData.depthAll, kD, pairK]
      rw [List.map_cons, PyData.canLayAll0, PyData.depthAll]
      exact ⟨by rw [c1, i1]; rfl, Nat.max_le.mpr ⟨c2, i2⟩⟩
  have d1 : (PyData.list (ps.map kT)).depth ≤ 2 := by
    rw [PyData.depth]
    have := main.2
    omega
  have d2 : (PyData.list (ps.map kT)).canLay0 = true := by
    rw [PyData.canLay0]
    exact main.1
  unfold SeqAt.shaped
  rw [d2, Bool.true_and]
  exact decide_eq_true (by omega)
theorem rows_dp {K : PySem.W.Frag} {H : Hp} : ∀ {ps : List (Addr × List Key)}, (∀ q ∈ ps, H q.1 = some (.tup (q.2.map kV)) ∧ ∃ a b, q.2 = pairK a b) → DpAll K H (ps.map fun q => V.ref q.1) (ps.map kT)
  | [], _ => .nil
  | q :: ps, h => by
    obtain ⟨e, a, b, e2⟩ := h q List.mem_cons_self
    refine .cons ?_ (rows_dp fun z hz => h z (List.mem_cons_of_mem _ hz))
    rw [kT, e2]
    rw [e2] at e
    exact .tup (SqT.of e) (.cons (.str a) (.cons (.str b) .nil))
theorem rows_any {ps : List (Addr × List Key)} (h : ∀ q ∈ ps, ∃ a b, q.2 = pairK a b) (x y : Str) :
    ((ps.map kT).any fun z => PyData.eqv z (.tuple [.str x, .str y])) = true ↔ pairK x y ∈ ps.map fun q : Addr × List Key => q.2 := by
  induction ps with
  | nil => simp
  | cons q ps ih =>
    obtain ⟨a, b, e⟩ := h q List.mem_cons_self
    rw [List.map_cons, List.any_cons, Bool.or_eq_true, ih fun z hz => h z (List.mem_cons_of_mem _ hz), kT, e, pair_eqv, decide_eq_true_eq, List.map_cons, List.mem_cons, e]
    exact or_congr_left eq_comm
/-- the pairs found so far, among the first n of the names os -/
structure Fnd (p f o : Addr) (H0 H : Hp) (os : List Str) (n B : Nat) (ps : List (Addr × List Key)) : Prop where
  kf : H f = some (.lst (ps.map fun q => V.ref q.1))
  ko : H o = some (.lst (os.map V.str))
  el : ∀ q ∈ ps, H q.1 = some (.tup (q.2.map kV)) ∧ ∃ a b, q.2 = pairK a b ∧ a ∈ os.take n ∧ b ∈ os.take n ∧ tLt a b
  nd : (ps.map (·.2)).Nodup
  sz : ps.length < n
  bu : But p H0 H
  po : Pot H p B
  nf : H0 f = none
  fp : f ≠ p
  op : o ≠ p
  fo : f ≠ o
section
variable {p f o : Addr} {H0 H H' : Hp} {os : List Str} {n B B' : Nat} {ps : List (Addr × List Key)}
theorem tup_notp {t : Addr} {xs : List V} (h : H t = some (.tup xs)) (hp : Pot H p B) : t ≠ p := by
  rintro rfl
  obtain ⟨_, _, _, e, _⟩ := hp
  rw [h] at e
  cases e
theorem Fnd.on (h : Fnd p f o H0 H os n B ps) (b : But p H H') (q : Pot H' p B') : Fnd p f o H0 H' os n B' ps :=
  ⟨b _ _ h.fp h.kf, b _ _ h.op h.ko, fun x hx => ⟨b _ _ (tup_notp (h.el x hx).1 h.po) (h.el x hx).1, (h.el x hx).2⟩, h.nd, h.sz, h.bu.trans b, q, h.nf, h.fp, h.op, h.fo⟩
theorem Fnd.same (h : Fnd p f o H0 H os n B ps) (s : Same H H') : Fnd p f o H0 H' os n B ps := h.on (But.of s) (h.po.same s)
theorem Fnd.wide (h : Fnd p f o H0 H os n B ps) (hB : B ≤ B') : Fnd p f o H0 H os (n + 1) B' ps :=
  ⟨h.kf, h.ko, fun x hx => by
    obtain ⟨e, a, b, e1, ha, hb, lt⟩ := h.el x hx
    have sub : ∀ c, c ∈ os.take n → c ∈ os.take (n + 1) := fun c hc => (List.take_sublist_take_left (Nat.le_succ n)).subset hc
    exact ⟨e, a, b, e1, sub a ha, sub b hb, lt⟩, h.nd, Nat.lt_succ_of_lt h.sz, h.bu, h.po.mono hB, h.nf, h.fp, h.op, h.fo⟩
theorem Fnd.push (h : Fnd p f o H0 H os n B ps) {t : Addr} {x y a b : Str} (ht : H t = some (.tup [.str a, .str b])) (hx : os[n]? = some x) (hy : y ∈ os.take n) (ab : (a = x ∧ b = y) ∨ (a = y ∧ b = x)) (lt : tLt a b)
    (nd : os.Nodup) : Fnd p f o H0 (upd H f (.lst ((ps.map fun q => V.ref q.1) ++ [.ref t]))) os (n + 1) B (ps ++ [(t, pairK a b)]) := by
  have hw := h.wide (Nat.le_refl B)
  have e3 : os.take (n + 1) = os.take n ++ [x] := by rw [List.take_add_one, hx]; rfl
  have xin : x ∈ os.take (n + 1) := by rw [e3]; simp
  have yin : y ∈ os.take (n + 1) := by rw [e3]; exact List.mem_append_left _ hy
  have xout : x ∉ os.take n := by
    intro hm
    obtain ⟨j, hj, e⟩ := List.getElem_of_mem hm
    rw [List.length_take] at hj
    rw [List.getElem_take] at e
    obtain ⟨hi, ei⟩ := List.getElem?_eq_some_iff.mp hx
    exact List.pairwise_iff_getElem.mp nd j n (by omega) hi (by omega) (by rw [e, ei])
  have notf : ∀ {c : Addr} {zs : List V}, H c = some (.tup zs) → c ≠ f := fun {c zs} e z => by
    rw [z, h.kf] at e
    cases e
  refine ⟨?_, ?_, fun q hq => ?_, ?_, ?_, ?_, ?_, h.nf, h.fp, h.op, h.fo⟩
  · rw [upd_same, List.map_append]
    rfl
  · rw [upd_ne h.fo.symm]
    exact h.ko
  · rcases List.mem_append.mp hq with z | z
    · obtain ⟨e, r⟩ := hw.el q z
      exact ⟨by rw [upd_ne (notf e)]; exact e, r⟩
    · rw [List.mem_singleton.mp z]
      refine ⟨by rw [upd_ne (notf ht)]; exact ht, a, b, rfl, ?_, ?_, lt⟩
      · rcases ab with ⟨rfl, rfl⟩ | ⟨rfl, rfl⟩
        · exact xin
        · exact yin
      · rcases ab with ⟨rfl, rfl⟩ | ⟨rfl, rfl⟩
        · exact yin
        · exact xin
  · rw [List.map_append]
    refine List.nodup_append.mpr ⟨h.nd, by simp, ?_⟩
    intro k hk l hl e
    have el : l = pairK a b := by simpa using hl
    obtain ⟨q, hq, eq⟩ := List.mem_map.mp hk
    obtain ⟨_, a2, b2, e2, ha2, hb2, _⟩ := h.el q hq
    rw [eq, e, el] at e2
    injection e2 with q1 q2
    injection q1 with q1
    injection q2 with q2 _
    injection q2 with q2
    rcases ab with ⟨rfl, rfl⟩ | ⟨rfl, rfl⟩
    · exact xout (q1 ▸ ha2)
    · exact xout (q2 ▸ hb2)
  · rw [List.length_append, List.length_singleton]
    exact Nat.succ_lt_succ h.sz
  · intro c u nc e
    have ncf : c ≠ f := by
      rintro rfl
      rw [h.nf] at e
      cases e
    rw [upd_ne ncf]
    exact h.bu c u nc e
  · obtain ⟨o1, s1, c1, e, r⟩ := h.po
    exact ⟨o1, s1, c1, by rw [upd_ne h.fp.symm]; exact e, r⟩
end
/-- the other pairs so far -/
structure Rst (g : Addr) (H : Hp) (zs : List Str) (i : Nat) (ps rs : List (Addr × List Key)) : Prop where
  kg : H g = some (.lst (rs.map fun q => V.ref q.1))
  el : ∀ q ∈ rs, H q.1 = some (.tup (q.2.map kV)) ∧ ∃ a b, q.2 = pairK a b ∧ a ∈ zs.take i ∧ b ∈ zs ∧ tLt a b ∧ q.2 ∉ ps.map fun q : Addr × List Key => q.2
  nd : (rs.map (·.2)).Nodup
  sz : rs.length ≤ 8 * i
theorem Fnd.other {p f o g : Addr} {H0 H : Hp} {os : List Str} {n B : Nat} {ps : List (Addr × List Key)} (h : Fnd p f o H0 H os n B ps) {xs ys : List V} (hg : H g = some (.lst xs)) (n0 : H0 g = none) (gp : g ≠ p) (gf : g ≠ f) (go : g ≠ o) :
    Fnd p f o H0 (upd H g (.lst ys)) os n B ps := by
  refine ⟨by rw [upd_ne gf.symm]; exact h.kf, by rw [upd_ne go.symm]; exact h.ko, fun q hq => ?_, h.nd, h.sz, fun c u nc e => ?_, ?_, h.nf, h.fp, h.op, h.fo⟩
  · obtain ⟨e, r⟩ := h.el q hq
    refine ⟨?_, r⟩
    rw [upd_ne]
    · exact e
    · intro z
      rw [z, hg] at e
      cases e
  · rw [upd_ne]
    · exact h.bu c u nc e
    · rintro rfl
      rw [n0] at e
      cases e
  · obtain ⟨o1, s1, c1, e, r⟩ := h.po
    exact ⟨o1, s1, c1, by rw [upd_ne gp.symm]; exact e, r⟩
section
variable {P : Program} {w : World} {K : PySem.W.Frag} {mg : Str → Option Value} {base : Heap} {ca ia fa : Nat → Addr} {fd fi : Nat → FuncData}
theorem ok_pairs (T : Txt K mg ca ia fa fd fi) : FnOk P w K mg base CX0 3 (fa 41) (fd 41) ["_law_pot_here", "_law_routers", "_law_many"] (spPairs K) := by
  have G_l_take := ok_take (P := P) (w := w) (base := base) T
  have G_l_turned := ok_turned (P := P) (w := w) (base := base) T
  refine T.F_l_pairs.ok sc_l_pairs (fun vs H Q E h => ?_) (fun cdv A outer s H vs Q E hr h => ?_)
  · obtain ⟨p, r, zs, m, B, rfl, _⟩ := h
    rfl
  · obtain ⟨p, r, zs, m, B, rfl, hp, hB, nrp, hr0, pw, nok, h2, h8, k⟩ := h
    refine ⟨_, (pss_cons (ps_asg (pe_tup (pa_cons (pe_call G_l_turned (hr.mono (by decide)) rfl T.g_l_turned T.k_l_turned T.b_l_turned .nil pass0 (pa_cons (pv 0) (pa_cons (pe_callTy call_list_of (by rfl) T.n_list (by decide +kernel) (pa_cons (pv 1) pa_nil)) pa_nil))) (pa_cons (pe_lst pa_nil) pa_nil))) (pg_tup rfl (pgs_cons (pg_name (i := 3) sc_l_pairs.nd rfl (Or.inl rfl)) (pgs_cons (pg_name (i := 4) sc_l_pairs.nd rfl (Or.inr rfl)) pgs_nil))))
      (pss_cons (ps_set (i := 5) sc_l_pairs.nd rfl (Or.inl rfl) (pe_cmpR op_gt (pe_call G_l_take (hr.mono (by decide)) rfl T.g_l_take T.k_l_take T.b_l_take .nil pass0 (pa_cons (pv 0) (pa_cons pe_int pa_nil))) pe_int (nomark _)))
      (pss_cons (ps_for PassesOwn.never rfl (pi_range2 rfl T.n_range (pa_cons pe_int (pa_cons (pe_callB call_len (by rfl) T.n_len (by decide +kernel) (pa_cons (pv 3) pa_nil)) pa_nil))) (pg_name (i := 6) sc_l_pairs.nd rfl (Or.inl rfl)) (pss_one (ps_if (PW.pt (pw_or (pt_val (pv 5)) (pw_or1 (pt_cmpR op_eq (pe_call G_l_take (hr.mono (by decide)) rfl T.g_l_take T.k_l_take T.b_l_take .nil pass0 (pa_cons (pv 0) (pa_cons pe_int pa_nil))) pe_int (nomark _))))) (pss_cons (ps_set (i := 7) sc_l_pairs.nd rfl (Or.inl rfl) (pe_ix ix_seq (pv 3) (pe_op op_sub (pe_op op_sub (pv 6) pe_int) (pe_call G_l_take (hr.mono (by decide)) rfl T.g_l_take T.k_l_take T.b_l_take .nil pass0 (pa_cons (pv 0) (pa_cons (pe_callB (call_min2 rfl) (by rfl) T.n_min (by decide +kernel) (pa_cons (pv 6) (pa_cons pe_int pa_nil))) pa_nil)))) (fun _ _ => rfl)))
      (pss_one (ps_expr (pe_bm PySem.F.plainAttrs_list PySem.F.slot_list_append PySem.F.type_list_append mt_append (pv 4) (pa_cons (pe_ifExp (pt_cmpR op_lt_str (pe_ix ix_seq (pv 3) (pv 6) (fun _ _ => rfl)) (pv 7) (nomark _)) (pe_tup (pa_cons (pe_ix ix_seq (pv 3) (pv 6) (fun _ _ => rfl)) (pa_cons (pv 7) pa_nil))) (pe_tup (pa_cons (pv 7) (pa_cons (pe_ix ix_seq (pv 3) (pv 6) (fun _ _ => rfl)) pa_nil)))) pa_nil))))) pss_nil)))
      (pss_cons (ps_set (i := 8) sc_l_pairs.nd rfl (Or.inl rfl) (pe_lst pa_nil))
      (pss_cons (ps_for PassesOwn.never rfl (pi_enumT (by rfl) T.n_enumerate (pa_cons (pv 1) pa_nil)) (pg_tup rfl (pgs_cons (pg_name (i := 6) sc_l_pairs.nd rfl (Or.inl rfl)) (pgs_cons (pg_name (i := 9) sc_l_pairs.nd rfl (Or.inr rfl)) pgs_nil))) (pss_one (ps_expr (pe_bm PySem.F.plainAttrs_list PySem.F.slot_list_extend PySem.F.type_list_extend mt_extend (pv 8) (pa_cons (pe_lc (own := [("_law_b", 10)]) (g := (gName 10)) (tt := (tPairTest K)) rfl sc_l_pairs.nd (pi_tup (pe_slice sl_tupA (pv 1) (po_some (pe_op op_add (pv 6) pe_int)) po_none)) (blkOk_by (own := [("_law_b", 10)]) (N := N_l_pairs) (sc := defScope s_l_pairs) (by decide +kernel)) (fun _ _ _ _ _ => (pg_name (i := 10) sc_l_pairs.nd rfl (Or.inl rfl))) (fun _ _ _ _ _ => (pts_one (pt_cmpR (op_notInD (by have := hr.un; exact roomU65 hr)) (pe_tup (pa_cons (pv 9) (pa_cons (pv 10) pa_nil))) (pv 4) rfl))) (fun _ _ _ _ _ => by exact (pe_tup (pa_cons (pv 9) (pa_cons (pv 10) pa_nil))))) pa_nil)))))
      (pss_one (ps_ret (pe_ifExp (pt_cmpR (op_neD hr.units) (pv 8) (pe_lst pa_nil) (nomark _)) (pe_op op_cat (pv 4) (pe_slice sl_list (pe_call G_l_turned (hr.mono (by decide)) rfl T.g_l_turned T.k_l_turned T.b_l_turned .nil pass0 (pa_cons (pv 0) (pa_cons (pv 8) pa_nil))) po_none (po_some (pe_callB (call_max2 rfl) (by rfl) T.n_max (by decide +kernel) (pa_cons pe_int (pa_cons (pe_op op_sub (pe_callTy call_int1 (by rfl) T.n_int (by decide +kernel) (pa_cons (pv 2) pa_nil)) (pe_callB call_len (by rfl) T.n_len (by decide +kernel) (pa_cons (pv 4) pa_nil))) pa_nil)))))) (pv 4))))))))), ?_⟩
    obtain ⟨po1, po2, po3, hpp, _⟩ := id hp
    have lenz : (zs.map V.str).length = zs.length := List.length_map ..
    have ndz : zs.Nodup := pw.imp fun {a b} h e => by rw [e] at h; exact absurd h (List.lt_irrefl _)
    refine seqA (fun v H' => ∃ (tq o f : Addr) (os : List Str), v = .ref tq ∧ H' tq = some (.tup [.ref o, .ref f]) ∧ os.Perm zs ∧ Fnd p f o H H' os 1 (B + 2) []) (fun Q k' => ?_) ?_
    · refine ⟨_, rfl, _, rfl, r, zs.map V.str, rfl, .inr hr0, fun l nl => ?_⟩
      refine ⟨p, l, _, B, rfl, hp.same (same_new nl), by omega, pot_none hp nl, SqL.of upd_same, by omega, by omega, fun ys q H1 py b1 p1 nq hq => ?_⟩
      obtain ⟨os, po, rfl⟩ := perm_map V.str py rfl
      have nqH : H q = none := but_none (But.of (same_new nl)) (hp.same (same_new nl)) nq
      refine ⟨by show 0 ≤ sizeLine; decide, fun f nf => ?_⟩
      have bH1 : But p H H1 := (But.of (same_new nl)).trans b1
      have nfq : f ≠ q := fun z => by rw [z, hq] at nf; cases nf
      refine ⟨by show 2 ≤ sizeLine; decide, fun t nt => k' _ _ ⟨t, q, f, os, rfl, upd_same, po, ?_⟩⟩
      have F0 : Fnd p f q H (upd H1 f (.lst [])) os 1 (B + 2) [] :=
        ⟨upd_same, by rw [upd_ne nfq.symm]; exact hq, fun _ z => (by cases z), List.nodup_nil, Nat.one_pos, bH1.trans (But.of (same_new nf)), p1.same (same_new nf), but_none bH1 p1 nf, pot_none p1 nf, pot_none (hp.same (same_new nl)) nq, nfq⟩
      exact F0.same (same_new nt)
    rintro _ H1 ⟨tq, o, f, os, rfl, htq, pos, F1⟩
    refine ⟨tq, _, rfl, SqT.of htq, rfl, _, _, rfl, _, _, rfl, rfl, ?_⟩
    refine seqS (fun v H' => ∃ jb : Bool, v = .bl jb ∧ Fnd p f o H H' os 1 (B + 3) []) (fun Q k' => ?_) ?_
    · exact ⟨_, rfl, p, 8, B + 2, rfl, F1.po, by decide, by decide, by omega, fun d H2 hd b2 p2 => ⟨_, _, rfl, rfl, k' _ _ ⟨_, rfl, F1.on b2 p2⟩⟩⟩
    rintro _ H2 ⟨jb, rfl, F2⟩
    have lo : os.length = zs.length := pos.length_eq
    have ndo : os.Nodup := pos.nodup_iff.mpr ndz
    have low : (os.map V.str).length = os.length := List.length_map ..
    refine ⟨_, rfl, _, _, rfl, .inl ⟨_, SqL.of F2.ko, rfl⟩, 1, _, rfl, ⟨by decide, by decide, by omega, by omega⟩, ?_⟩
    refine for_range (fun i σ H' => ∃ (x6 x7 : Option V) (ps : List (Addr × List Key)), σ = [some (.ref p), some (.ref r), some (.int (m : Int)), some (.ref o), some (.ref f), some (.bl jb), x6, x7, none, none, none] ∧
      Fnd p f o H H' os (i + 1) (B + 3 + 2 * i) ps) ⟨none, none, [], rfl, F2⟩ ?_ ?_
    · rintro i σ H3 hi ⟨x6, x7, ps, rfl, F3⟩
      have hi2 : i + 1 < os.length := by rw [low] at hi; omega
      refine ifAny (fun H' => Fnd p f o H H' os (i + 1) (B + 3 + 2 * i + 1) ps) (fun Q k' => ?_) (fun H4 F4 => ?_) (fun H4 F4 => ?_)
      · cases jb
        · refine ⟨_, rfl, _, rfl, ?_⟩
          dsimp only
          rw [if_neg Bool.false_ne_true]
          exact ⟨_, rfl, p, 2, B + 3 + 2 * i, rfl, F3.po, by decide, by decide, by omega, fun d H4 hd b4 p4 => ⟨rfl, _, rfl, k' _ _ (F3.on b4 p4)⟩⟩
        · refine ⟨_, rfl, _, rfl, ?_⟩
          dsimp only
          rw [if_pos rfl]
          exact k' _ _ (F3.on (But.refl _ _) (F3.po.mono (by omega)))
      · refine seqS (fun v H5 => ∃ y, v = .str y ∧ y ∈ os.take (i + 1) ∧ Fnd p f o H H5 os (i + 1) (B + 3 + 2 * i + 2) ps) (fun Q k' => ?_) ?_
        · refine ⟨_, rfl, _, rfl, _, _, rfl, rfl, _, rfl, _, rfl, _, _, rfl, p, _, B + 3 + 2 * i + 1, rfl, F4.po, ?_, ?_, by omega, fun t H5 ht b5 p5 => ⟨_, _, rfl, rfl, ?_⟩⟩
          · split <;> omega
          · split <;> omega
          have F5 := F4.on b5 p5
          have ti : t ≤ i := by
            split at ht <;> omega
          have e6 : (1 + (i : Int) - 1 - (t : Int)) = ((i - t : Nat) : Int) := by omega
          show rIx K (.ref o) (.int (1 + (i : Int) - 1 - (t : Int))) H5 _
          rw [e6]
          have li : i - t < os.length := by omega
          refine ixl (i - t) (SqL.of F5.ko) (z := .str os[i - t]) (by rw [List.getElem?_map, List.getElem?_eq_getElem li]; rfl) (k' _ _ ⟨_, rfl, ?_, F5⟩)
          refine List.mem_of_getElem? (i := i - t) ?_
          rw [List.getElem?_take_of_lt (by omega), List.getElem?_eq_getElem li]
        rintro _ H5 ⟨y, rfl, hy, F5⟩
        have gx : os[i + 1]? = some os[i + 1] := List.getElem?_eq_getElem hi2
        generalize os[i + 1] = x at gx
        have e7 : (1 + (i : Int)) = ((i + 1 : Nat) : Int) := by omega
        have at_ : ∀ {H' : Hp} {Q : VK}, Same H5 H' → Q (.str x) H' → rIx K (.ref o) (.int (1 + (i : Int))) H' Q := fun {H' Q} s q => by
          rw [e7]
          exact ixl (i + 1) (SqL.of (s _ _ F5.ko)) (by rw [List.getElem?_map, gx]; rfl) q
        have nxy : x ≠ y := by
          rintro rfl
          obtain ⟨j, hj, e⟩ := List.getElem_of_mem hy
          rw [List.length_take] at hj
          rw [List.getElem_take] at e
          obtain ⟨hi3, ei⟩ := List.getElem?_eq_some_iff.mp gx
          exact List.pairwise_iff_getElem.mp ndo j (i + 1) (by omega) hi3 (by omega) (by rw [e, ei])
        have lps : (ps.map fun q => V.ref q.1).length < sizeLine := by
          rw [List.length_map, sizeLine_eq]
          have := F5.sz
          omega
        refine ⟨_, rfl, ?_, ?_⟩
        · exact .inl ⟨rfl, _, SqL.of F5.kf⟩
        refine ⟨_, rfl, _, rfl, at_ (fun _ _ e => e) ⟨_, rfl, _, _, rfl, rfl, _, rfl, ite2 (fun lt => ?_) (fun lt => ?_)⟩⟩
        · have lt : tLt x y := of_decide_eq_true lt
          refine ⟨_, rfl, _, rfl, at_ (fun _ _ e => e) ⟨_, rfl, by show 2 ≤ sizeLine; decide, fun t nt => ⟨f, _, .ref t, rfl, rfl, (F5.same (same_new nt)).kf, lps, _, _, ps ++ [(t, pairK x y)], rfl, ?_⟩⟩⟩
          exact (((F5.same (same_new nt)).push upd_same gx hy (.inl ⟨rfl, rfl⟩) lt ndo).on (But.refl _ _) (((F5.same (same_new nt)).push upd_same gx hy (.inl ⟨rfl, rfl⟩) lt ndo).po.mono (by omega)))
        · have lt : tLt y x := tLe_lt (List.not_lt.mp fun z => lt (decide_eq_true z)) (Ne.symm nxy)
          refine ⟨_, rfl, _, rfl, _, rfl, at_ (fun _ _ e => e) ⟨by show 2 ≤ sizeLine; decide, fun t nt => ⟨f, _, .ref t, rfl, rfl, (F5.same (same_new nt)).kf, lps, _, _, ps ++ [(t, pairK y x)], rfl, ?_⟩⟩⟩
          exact (((F5.same (same_new nt)).push upd_same gx hy (.inr ⟨rfl, rfl⟩) lt ndo).on (But.refl _ _) (((F5.same (same_new nt)).push upd_same gx hy (.inr ⟨rfl, rfl⟩) lt ndo).po.mono (by omega)))
      · exact ⟨_, _, ps, rfl, F4.wide (by omega)⟩
    · rintro σ H3 ⟨x6, x7, ps, rfl, F3⟩
      have Fz : Fnd p f o H H3 os os.length (B + 20) ps := by
        have e : ((((os.map V.str).length : Nat) : Int) - 1).toNat + 1 = os.length := by rw [low]; omega
        have F3' := F3.on (But.refl _ _) (F3.po.mono (B' := B + 20) (by rw [low]; omega))
        rw [e] at F3'
        exact F3'
      clear F3
      refine nxt ?_
      refine seqS (fun v H' => ∃ g, v = .ref g ∧ H' g = some (.lst []) ∧ H g = none ∧ g ≠ p ∧ g ≠ f ∧ g ≠ o ∧ Fnd p f o H H' os os.length (B + 20) ps) (fun Q k' => ?_) ?_
      · refine ⟨by show 0 ≤ sizeLine; decide, fun g ng => k' _ _ ⟨g, rfl, upd_same, but_none Fz.bu Fz.po ng, pot_none Fz.po ng, fun z => ?_, fun z => ?_, Fz.same (same_new ng)⟩⟩
        · rw [z, Fz.kf] at ng
          cases ng
        · rw [z, Fz.ko] at ng
          cases ng
      rintro _ H4 ⟨g, rfl, hg, ngH, gp, gf, go, F4⟩
      have memz : ∀ a, a ∈ os → a ∈ zs := fun a ha => pos.mem_iff.mp ha
      have psK : ∀ q ∈ ps, ∃ a b, q.2 = pairK a b ∧ Low a ∧ Low b := fun q hq => by
        obtain ⟨_, a, b, e, ha, hb, _⟩ := F4.el q hq
        exact ⟨a, b, e, (nok a (memz a (List.mem_of_mem_take ha))).2.2, (nok b (memz b (List.mem_of_mem_take hb))).2.2⟩
      have psK2 : ∀ q ∈ ps, ∃ a b, q.2 = pairK a b := fun q hq => by
        obtain ⟨a, b, e, _⟩ := psK q hq
        exact ⟨a, b, e⟩
      have rOk : ∀ {H' : Hp}, But p H H' → SqT K H' r (zs.map V.str) := fun b => tup_but b hpp hr0
      refine ⟨_, rfl, r, zs.map V.str, rfl, rOk F4.bu, ?_⟩
      refine for_enT (fun i σ H' => ∃ (y6 y7 y9 y10 : Option V) (rs : List (Addr × List Key)), σ = [some (.ref p), some (.ref r), some (.int (m : Int)), some (.ref o), some (.ref f), some (.bl jb), y6, y7, some (.ref g), y9, y10] ∧
        Fnd p f o H H' os os.length (B + 20) ps ∧ Rst g H' zs i ps rs) ⟨_, _, _, _, [], rfl, F4, hg, fun _ z => (by cases z), List.nodup_nil, Nat.le_refl _⟩ (fun i σ H' _ z => ?_) ?_ ?_
      · obtain ⟨_, _, _, _, _, _, F5, _⟩ := z
        exact rOk F5.bu
      · rintro i x T σ H5 hx ⟨y6, y7, y9, y10, rs, rfl, F5, R5⟩ nT
        rw [List.getElem?_map] at hx
        obtain ⟨a, gx, rfl⟩ := Option.map_eq_some_iff.mp hx
        have li : i < zs.length := (List.getElem?_eq_some_iff.mp gx).1
        have az : a ∈ zs := List.mem_of_getElem? gx
        refine ⟨T, _, rfl, SqT.of upd_same, rfl, _, _, rfl, _, _, rfl, rfl, ?_⟩
        have s5 : Same H5 (upd H5 T (.tup [.int (i : Nat), .str a])) := same_new nT
        refine ⟨_, rfl, .inl ⟨rfl, _, SqL.of (s5 _ _ R5.kg)⟩, ?_⟩
        have F6 := F5.same s5
        refine ⟨_, rfl, _, rfl, _, _, rfl, rfl, _, rfl, r, zs.map V.str, rfl, rOk F6.bu, fun z => ?_, fun _ sl nsl => ?_⟩
        · have z1 := z.1
          have e1 : HT.sIx (zs.map V.str).length 0 (some ((i : Int) + 1)) = min (i + 1) (zs.map V.str).length := HT.sIx_nat _ _ (i + 1)
          rw [e1, List.length_map] at z1
          omega
        have ecut : cutV (zs.map V.str) (some ((i : Int) + 1)) none = (zs.drop (i + 1)).map V.str := by
          have e2 := cut_drop (zs.map V.str) (i + 1)
          rw [List.map_drop]
          exact e2
        rw [ecut]
        have s6 := s5.trans (same_new (o := .tup ((zs.drop (i + 1)).map V.str)) nsl)
        have sl6 : SqT K (upd (upd H5 T (.tup [.int (i : Nat), .str a])) sl (.tup ((zs.drop (i + 1)).map V.str))) sl ((zs.drop (i + 1)).map V.str) := SqT.of upd_same
        refine ⟨sl, rfl, ⟨_, sl6⟩, fun D hD => ?_⟩
        generalize upd (upd H5 T (.tup [.int (i : Nat), .str a])) sl (.tup ((zs.drop (i + 1)).map V.str)) = H6 at s6 sl6 hD
        refine lc_tup (xs := (zs.drop (i + 1)).map V.str) (fun j H' => ∃ ns : List (Addr × List Key), H' D = some (.lst (ns.map fun q => V.ref q.1)) ∧
          (∀ q ∈ ns, H' q.1 = some (.tup (q.2.map kV)) ∧ ∃ b, q.2 = pairK a b ∧ b ∈ (zs.drop (i + 1)).take j ∧ q.2 ∉ ps.map fun q : Addr × List Key => q.2) ∧ (ns.map (·.2)).Nodup ∧ ns.length ≤ j ∧ Same H6 H')
          ⟨[], upd_same, fun _ z => (by cases z), List.nodup_nil, Nat.le_refl _, same_new hD⟩ (fun j H' _ z => ?_) ?_ ?_
        · obtain ⟨_, _, _, _, _, s7⟩ := z
          obtain ⟨_, _, _, e, _⟩ := (F5.same s6).po
          exact tup_but (But.of s7) e sl6
        · rintro j y H7 hy ⟨ns, k1, k2, k3, k4, s7⟩
          rw [List.getElem?_map] at hy
          obtain ⟨b, gb, rfl⟩ := Option.map_eq_some_iff.mp hy
          have bz : b ∈ zs := List.mem_of_mem_drop (List.mem_of_getElem? gb)
          have F7 := (F5.same s6).same s7
          refine ⟨rfl, ?_⟩
          refine ⟨_, rfl, _, rfl, by show 2 ≤ sizeLine; decide, fun t nt => ?_⟩
          have F8 := F7.same (same_new (o := .tup [.str a, .str b]) nt)
          refine ⟨_, rfl, .tuple [.str a, .str b], ps.map kT, .tup (SqT.of upd_same) (.cons (.str a) (.cons (.str b) .nil)),
            .lst (SqL.of F8.kf) (rows_dp fun q hq => ⟨(F8.el q hq).1, psK2 q hq⟩), pair_shaped (nok a az).2.2 (nok b bz).2.2, rows_shaped psK, _, rfl, ?_⟩
          have s8 : Same H7 (upd H7 t (.tup [.str a, .str b])) := same_new nt
          have sub : ∀ c, c ∈ (zs.drop (i + 1)).take j → c ∈ (zs.drop (i + 1)).take (j + 1) := fun c hc => (List.take_sublist_take_left (Nat.le_succ j)).subset hc
          have bin : b ∈ (zs.drop (i + 1)).take (j + 1) := by
            rw [List.take_add_one, gb]
            simp
          have j8 : j < 8 := by
            have q1 := (List.getElem?_eq_some_iff.mp gb).1
            rw [List.length_drop] at q1
            omega
          refine ite2 (fun c => ?_) (fun c => ?_)
          · have nin : pairK a b ∉ ps.map fun q : Addr × List Key => q.2 := fun z => by
              have q1 := (rows_any psK2 a b).2 z
              rw [q1] at c
              cases c
            refine ⟨_, rfl, _, rfl, by show 2 ≤ sizeLine; decide, fun t2 nt2 => ?_⟩
            have s9 := s8.trans (same_new (o := .tup [.str a, .str b]) nt2)
            have nD2 : t2 ≠ D := fun z => by
              rw [z, s8 _ _ k1] at nt2
              cases nt2
            refine ⟨_, s9 _ _ k1, ?_, ns ++ [(t2, pairK a b)], ?_, fun q hq => ?_, ?_, ?_, fun c u e => ?_⟩
            · rw [List.length_map, sizeLine_eq]
              omega
            · rw [upd_same, List.map_append]
              rfl
            · rcases List.mem_append.mp hq with z | z
              · obtain ⟨e, b2, e2, hb2, n2⟩ := k2 q z
                refine ⟨?_, b2, e2, sub b2 hb2, n2⟩
                rw [upd_ne]
                · exact s9 _ _ e
                · intro z2
                  rw [z2, k1] at e
                  cases e
              · rw [List.mem_singleton.mp z]
                exact ⟨by rw [upd_ne nD2]; exact upd_same, b, rfl, bin, nin⟩
            · rw [List.map_append]
              refine List.nodup_append.mpr ⟨k3, by simp, ?_⟩
              intro k5 hk5 l5 hl5 e5
              have el5 : l5 = pairK a b := by simpa using hl5
              obtain ⟨q, hq, eq⟩ := List.mem_map.mp hk5
              obtain ⟨_, b2, e2, hb2, _⟩ := k2 q hq
              rw [eq, e5, el5] at e2
              injection e2 with _ e2
              injection e2 with e2 _
              injection e2 with e2
              subst e2
              obtain ⟨j2, hj2, e6⟩ := List.getElem_of_mem hb2
              rw [List.length_take] at hj2
              rw [List.getElem_take] at e6
              obtain ⟨hi3, ei⟩ := List.getElem?_eq_some_iff.mp gb
              exact List.pairwise_iff_getElem.mp (ndz.sublist (List.drop_sublist _ _)) j2 j (by omega) hi3 (by omega) (by rw [e6, ei])
            · rw [List.length_append, List.length_singleton]
              omega
            · rw [upd_ne]
              · exact s9 _ _ (s7 _ _ e)
              · rintro rfl
                rw [e] at hD
                cases hD
          · exact ⟨ns, s8 _ _ k1, fun q hq => by
              obtain ⟨e, b2, e2, hb2, n2⟩ := k2 q hq
              exact ⟨s8 _ _ e, b2, e2, sub b2 hb2, n2⟩, k3, by omega, s7.trans s8⟩
        · rintro H7 ⟨ns, k1, k2, k3, k4, s7⟩
          have F7 := (F5.same s6).same s7
          have kg7 := s7 _ _ (s6 _ _ R5.kg)
          have gD : g ≠ D := fun z => by
            rw [← z, s6 _ _ R5.kg] at hD
            cases hD
          have ln : ns.length ≤ 7 := by
            rw [List.length_map, List.length_drop] at k4
            omega
          have e3 : zs.take (i + 1) = zs.take i ++ [a] := by rw [List.take_add_one, gx]; rfl
          have aout : a ∉ zs.take i := by
            intro hm
            obtain ⟨j, hj, e⟩ := List.getElem_of_mem hm
            rw [List.length_take] at hj
            rw [List.getElem_take] at e
            obtain ⟨hi, ei⟩ := List.getElem?_eq_some_iff.mp gx
            exact List.pairwise_iff_getElem.mp ndz j i (by omega) hi (by omega) (by rw [e, ei])
          have notg : ∀ {c : Addr} {ws : List V}, H7 c = some (.tup ws) → c ≠ g := fun {c ws} e z => by
            rw [z, kg7] at e
            cases e
          refine ⟨g, D, _, _, rfl, rfl, kg7, k1, ?_, _, _, _, _, rs ++ ns, rfl, F7.other kg7 ngH gp gf go, ?_, fun q hq => ?_, ?_, ?_⟩
          · rw [List.length_map, List.length_map, sizeLine_eq]
            have := R5.sz
            omega
          · rw [upd_same, List.map_append]
          · rcases List.mem_append.mp hq with z | z
            · obtain ⟨e, a2, b2, e2, ha2, hb2, lt, n2⟩ := R5.el q z
              have e7 := s7 _ _ (s6 _ _ e)
              exact ⟨by rw [upd_ne (notg e7)]; exact e7, a2, b2, e2, by rw [e3]; exact List.mem_append_left _ ha2, hb2, lt, n2⟩
            · obtain ⟨e, b2, e2, hb2, n2⟩ := k2 q z
              have hb3 := List.mem_of_mem_take hb2
              refine ⟨by rw [upd_ne (notg e)]; exact e, a, b2, e2, by rw [e3]; simp, List.mem_of_mem_drop hb3, ?_, n2⟩
              obtain ⟨j, hj, e6⟩ := List.getElem_of_mem hb3
              rw [List.length_drop] at hj
              rw [List.getElem_drop] at e6
              obtain ⟨hi, ei⟩ := List.getElem?_eq_some_iff.mp gx
              have q1 := List.pairwise_iff_getElem.mp pw i (i + 1 + j) hi (by omega) (by omega)
              rw [ei, e6] at q1
              exact q1
          · rw [List.map_append]
            refine List.nodup_append.mpr ⟨R5.nd, k3, ?_⟩
            intro k5 hk5 l5 hl5 e5
            obtain ⟨q, hq, eq⟩ := List.mem_map.mp hk5
            obtain ⟨q2, hq2, eq2⟩ := List.mem_map.mp hl5
            obtain ⟨_, a2, b2, e2, ha2, _⟩ := R5.el q hq
            obtain ⟨_, b3, e4, _⟩ := k2 q2 hq2
            rw [eq, e5, ← eq2, e4] at e2
            injection e2 with e2 _
            injection e2 with e2
            exact aout (e2 ▸ ha2)
          · rw [List.length_append]
            have := R5.sz
            omega
      · rintro σ H5 ⟨y6, y7, y9, y10, rs, rfl, F5, R5⟩
        refine nxt ?_
        rw [lenz] at R5
        have zfull : zs.take zs.length = zs := List.take_length
        have rsK : ∀ q ∈ rs, ∃ a b, q.2 = pairK a b ∧ Low a ∧ Low b := fun q hq => by
          obtain ⟨_, a, b, e, ha, hb, _⟩ := R5.el q hq
          exact ⟨a, b, e, (nok a (List.mem_of_mem_take ha)).2.2, (nok b hb).2.2⟩
        have rsK2 : ∀ q ∈ rs, ∃ a b, q.2 = pairK a b := fun q hq => by
          obtain ⟨a, b, e, _⟩ := rsK q hq
          exact ⟨a, b, e⟩
        have PF : ∀ {H' : Hp}, (∀ q ∈ ps, H' q.1 = some (.tup (q.2.map kV))) → PairsOk H' zs ps := fun {H'} hh => ⟨fun q hq => by
          obtain ⟨_, a, b, e, ha, hb, lt⟩ := F5.el q hq
          exact ⟨hh q hq, a, b, e, memz a (List.mem_of_mem_take ha), memz b (List.mem_of_mem_take hb), lt⟩, F5.nd⟩
        refine ⟨_, rfl, by show 0 ≤ sizeLine; decide, fun e ne => ?_⟩
        have s6 : Same H5 (upd H5 e (.lst [])) := same_new ne
        have F6 := F5.same s6
        have kg6 := s6 _ _ R5.kg
        refine ⟨.list (rs.map kT), .list [], .lst (SqL.of kg6) (rows_dp fun q hq => ⟨s6 _ _ (R5.el q hq).1, rsK2 q hq⟩), .lst (SqL.of upd_same) .nil, rows_shaped rsK, by decide +kernel, _, rfl, ite2 (fun c => ?_) (fun c => ?_)⟩
        · have hpos : 0 < rs.length := by
            cases rs with
            | nil => simp [PyData.eqv, PyData.eqvAll] at c
            | cons _ _ => exact Nat.succ_pos _
          have hsz := R5.sz
          refine ⟨_, rfl, _, rfl, _, rfl, p, g, _, B + 20, rfl, F6.po, by omega, gp, SqL.of kg6, by rw [List.length_map]; exact hpos, by rw [List.length_map]; omega, fun ys q H6 py b6 p6 nq hq => ?_⟩
          obtain ⟨rs', pr, rfl⟩ := perm_map (fun q : Addr × List Key => V.ref q.1) py rfl
          have F7 := F6.on b6 p6
          refine ⟨_, rfl, .inl ⟨_, rfl, _, rfl, _, _, rfl, .inl ⟨_, SqL.of F7.kf, rfl⟩, _, _, rfl, rfl, _, _, rfl, _, rfl, q, _, rfl, SqL.of hq, fun q2 nq2 => ?_⟩⟩
          obtain ⟨c2, ec, hc2⟩ : ∃ c2 : Nat, (if (m : Int) - ((ps.map fun q => V.ref q.1).length : Nat) > 0 then (m : Int) - ((ps.map fun q => V.ref q.1).length : Nat) else 0) = (c2 : Int) ∧ (ps.length + c2 ≤ m ∨ c2 = 0) := by
            refine ⟨m - ps.length, ?_, by omega⟩
            rw [List.length_map]
            split <;> omega
          rw [ec, cut_take]
          have s8 := same_new (o := .lst ((rs'.map fun q => V.ref q.1).take c2)) nq2
          refine ⟨f, q2, _, _, rfl, rfl, s8 _ _ F7.kf, upd_same, ?_, fun l nl => ?_⟩
          · have q1 := F7.sz
            have q3 := pr.length_eq
            rw [List.length_map, List.length_take, List.length_map, sizeLine_eq]
            omega
          have F9 := (F7.same s8).same (same_new (o := .lst ((ps.map fun q => V.ref q.1) ++ (rs'.map fun q => V.ref q.1).take c2)) nl)
          have s9 := s8.trans (same_new (o := .lst ((ps.map fun q => V.ref q.1) ++ (rs'.map fun q => V.ref q.1).take c2)) nl)
          refine k (ps ++ rs'.take c2) l _ ⟨fun x hx => ?_, ?_⟩ ?_ F9.bu (F9.po.mono (by omega)) (but_none (F7.same s8).bu (F7.same s8).po nl) ?_
          · rcases List.mem_append.mp hx with z | z
            · obtain ⟨e1, a, b, e2, ha, hb, lt⟩ := F9.el x z
              exact ⟨e1, a, b, e2, memz a (List.mem_of_mem_take ha), memz b (List.mem_of_mem_take hb), lt⟩
            · obtain ⟨e1, a, b, e2, ha, hb, lt, _⟩ := R5.el x (pr.mem_iff.mp (List.mem_of_mem_take z))
              have e3 := s6 _ _ e1
              exact ⟨s9 _ _ (b6 _ _ (tup_notp e3 F6.po) e3), a, b, e2, List.mem_of_mem_take ha, hb, lt⟩
          · rw [List.map_append]
            have nr : ((rs'.take c2).map (·.2)).Nodup := by
              rw [List.map_take]
              exact (((pr.map (·.2)).nodup_iff.mpr R5.nd)).sublist (List.take_sublist _ _)
            refine List.nodup_append.mpr ⟨F5.nd, nr, ?_⟩
            intro k5 hk5 l5 hl5 e5
            obtain ⟨x, hx, ex⟩ := List.mem_map.mp hl5
            obtain ⟨_, _, _, _, _, _, _, n2⟩ := R5.el x (pr.mem_iff.mp (List.mem_of_mem_take hx))
            rw [ex, ← e5] at n2
            exact n2 hk5
          · rw [List.length_append, List.length_take]
            have := F5.sz
            omega
          · rw [upd_same, List.map_append, List.map_take]
        · have hnil : rs = [] := by
            cases rs with
            | nil => rfl
            | cons _ _ => simp [PyData.eqv, PyData.eqvAll] at c
          refine ⟨_, rfl, k ps f _ (PF fun q hq => (F6.el q hq).1) (.inr ?_) F6.bu (F6.po.mono (by omega)) F6.nf F6.kf⟩
          have := F6.sz
          omega
end
end Toy
set_option Elab.async false
set_option linter.all false
set_option maxRecDepth 100000
set_option maxHeartbeats 4000000
namespace Toy
open PySem L2 Q
theorem roomU3 {k : Nat} {A : Around} (h : Room k A) : A.units + 3 < cLine := by
  have q := h.units
  omega
abbrev linkK (a b : Str) (x y : Nat) : List Key := [.inr a, .inr b, .inl (x : Int), .inl (y : Int)]
/-- right links of the names zs in their order, each a tuple -/
def LinksOk (H : Hp) (zs : List Str) (ls : List (Addr × List Key)) : Prop :=
  (∀ q ∈ ls, H q.1 = some (.tup (q.2.map kV)) ∧ ∃ a b x y, q.2 = linkK a b x y ∧ a ∈ zs ∧ b ∈ zs ∧ tLt a b ∧ 1 ≤ x ∧ x ≤ 90 ∧ 1 ≤ y ∧ y ≤ 90) ∧
  ls.Pairwise (fun q r => ksLt (q.2.take 2) (r.2.take 2) = true) ∧ ls.length ≤ 16
/-- _law_world(pot, least, most, more) -/
def spWorld (K : PySem.W.Frag) : Sp := fun vs H Q _ => ∃ (p : Addr) (lo hi mo B : Nat), vs = [.ref p, .int (lo : Int), .int (hi : Int), .int (mo : Int)] ∧ Pot H p B ∧ B < 990000 ∧ 2 ≤ lo ∧ lo ≤ hi ∧ hi ≤ 8 ∧ mo ≤ 1000 ∧
  ∀ (w r l : Addr) (zs : List Str) (ls : List (Addr × List Key)) (H' : Hp), H' w = some (.tup [.ref r, .ref l]) → H' r = some (.tup (zs.map V.str)) → H' l = some (.tup (ls.map fun q => V.ref q.1)) →
    zs.Pairwise tLt → (∀ z ∈ zs, NameOk z) → lo ≤ zs.length → zs.length ≤ hi → LinksOk H' zs ls → But p H H' → Pot H' p (B + 200) → Q (.ref w) H'
theorem link_lt {a b a' b' : Str} {x y x' y' : Nat} (h : ksLt (linkK a b x y) (linkK a' b' x' y') = true) (ne : pairK a b ≠ pairK a' b') : ksLt (pairK a b) (pairK a' b') = true := by
  unfold linkK ksLt at h
  unfold pairK ksLt
  by_cases e : (Sum.inr a : Key) = Sum.inr a'
  · rw [if_pos e] at h ⊢
    unfold ksLt at h ⊢
    by_cases e2 : (Sum.inr b : Key) = Sum.inr b'
    · exact absurd (by unfold pairK; rw [e, e2]) ne
    · rw [if_neg e2] at h ⊢
      exact h
  · rw [if_neg e] at h ⊢
    exact h
/-- the links made of the first i pairs -/
structure Lnk (p f c : Addr) (H0 H : Hp) (zs : List Str) (r : Addr) (i B : Nat) (ps ls : List (Addr × List Key)) : Prop where
  kf : H f = some (.lst (ls.map fun q => V.ref q.1))
  kc : H c = some (.lst (ps.map fun q => V.ref q.1))
  kr : H r = some (.tup (zs.map V.str))
  pk : PairsOk H zs ps
  el : ∀ q ∈ ls, H q.1 = some (.tup (q.2.map kV)) ∧ ∃ a b x y, q.2 = linkK a b x y ∧ 1 ≤ x ∧ x ≤ 90 ∧ 1 ≤ y ∧ y ≤ 90
  kk : ls.map (fun q => q.2.take 2) = (ps.take i).map (·.2)
  bu : But p H0 H
  po : Pot H p B
  nf : H0 f = none
  fp : f ≠ p
  cp : c ≠ p
  fc : f ≠ c
theorem Lnk.on {p f c r : Addr} {H0 H H' : Hp} {zs : List Str} {i B B' : Nat} {ps ls : List (Addr × List Key)} (h : Lnk p f c H0 H zs r i B ps ls) (b : But p H H') (q : Pot H' p B') : Lnk p f c H0 H' zs r i B' ps ls :=
  ⟨b _ _ h.fp h.kf, b _ _ h.cp h.kc, b _ _ (tup_notp h.kr h.po) h.kr, ⟨fun x hx => ⟨b _ _ (tup_notp (h.pk.1 x hx).1 h.po) (h.pk.1 x hx).1, (h.pk.1 x hx).2⟩, h.pk.2⟩,
    fun x hx => ⟨b _ _ (tup_notp (h.el x hx).1 h.po) (h.el x hx).1, (h.el x hx).2⟩, h.kk, h.bu.trans b, q, h.nf, h.fp, h.cp, h.fc⟩
theorem Lnk.push {p f c r t : Addr} {H0 H : Hp} {zs : List Str} {i B : Nat} {ps ls : List (Addr × List Key)} (h : Lnk p f c H0 H zs r i B ps ls) {q : Addr × List Key} {a b : Str} {x y : Nat} (hq : ps[i]? = some q) (e : q.2 = pairK a b)
    (ht : H t = some (.tup ((linkK a b x y).map kV))) (h1 : 1 ≤ x) (h2 : x ≤ 90) (h3 : 1 ≤ y) (h4 : y ≤ 90) :
    Lnk p f c H0 (upd H f (.lst ((ls.map fun q => V.ref q.1) ++ [.ref t]))) zs r (i + 1) B ps (ls ++ [(t, linkK a b x y)]) := by
  have notf : ∀ {d : Addr} {ws : List V}, H d = some (.tup ws) → d ≠ f := fun {d ws} e z => by
    rw [z, h.kf] at e
    cases e
  refine ⟨?_, by rw [upd_ne h.fc.symm]; exact h.kc, by rw [upd_ne (notf h.kr)]; exact h.kr, ⟨fun x hx => ⟨by rw [upd_ne (notf (h.pk.1 x hx).1)]; exact (h.pk.1 x hx).1, (h.pk.1 x hx).2⟩, h.pk.2⟩, fun z hz => ?_, ?_, fun d u nd e => ?_, ?_, h.nf, h.fp, h.cp, h.fc⟩
  · rw [upd_same, List.map_append]
    rfl
  · rcases List.mem_append.mp hz with w | w
    · exact ⟨by rw [upd_ne (notf (h.el z w).1)]; exact (h.el z w).1, (h.el z w).2⟩
    · rw [List.mem_singleton.mp w]
      exact ⟨by rw [upd_ne (notf ht)]; exact ht, a, b, x, y, rfl, h1, h2, h3, h4⟩
  · rw [List.map_append, h.kk, List.take_add_one, hq, List.map_append]
    show _ ++ [pairK a b] = _ ++ [q.2]
    rw [e]
  · rw [upd_ne]
    · exact h.bu d u nd e
    · rintro rfl
      rw [h.nf] at e
      cases e
  · obtain ⟨o1, s1, c1, e, r⟩ := h.po
    exact ⟨o1, s1, c1, by rw [upd_ne h.fp.symm]; exact e, r⟩
theorem Lnk.same {p f c r : Addr} {H0 H H' : Hp} {zs : List Str} {i B : Nat} {ps ls : List (Addr × List Key)} (h : Lnk p f c H0 H zs r i B ps ls) (s : Same H H') : Lnk p f c H0 H' zs r i B ps ls := h.on (But.of s) (h.po.same s)
theorem Lnk.more {p f c r : Addr} {H0 H : Hp} {zs : List Str} {i B B' : Nat} {ps ls : List (Addr × List Key)} (h : Lnk p f c H0 H zs r i B ps ls) (l : B ≤ B') : Lnk p f c H0 H zs r i B' ps ls := h.on (But.refl _ _) (h.po.mono l)
section
variable {P : Program} {w : World} {K : PySem.W.Frag} {mg : Str → Option Value} {base : Heap} {ca ia fa : Nat → Addr} {fd fi : Nat → FuncData}
theorem ok_world (T : Txt K mg ca ia fa fd fi) : FnOk P w K mg base CX0 4 (fa 42) (fd 42) ["_law_pot_here", "_law_least", "_law_most", "_law_more"] (spWorld K) := by
  have G_l_take := ok_take (P := P) (w := w) (base := base) T
  have G_l_names := ok_names (P := P) (w := w) (base := base) T
  have G_l_pairs := ok_pairs (P := P) (w := w) (base := base) T
  have G_l_far := ok_far (P := P) (w := w) (base := base) T
  refine T.F_l_world.ok sc_l_world (fun vs H Q E h => ?_) (fun cdv A outer s H vs Q E hr h => ?_)
  · obtain ⟨p, lo, hi, mo, B, rfl, _⟩ := h
    rfl
  · obtain ⟨p, lo, hi, mo, B, rfl, hp, hB, h1, h2, h3, h4, k⟩ := h
    refine ⟨_, (pss_cons (ps_set (i := 4) sc_l_world.nd rfl (Or.inl rfl) (pe_op op_add (pv 1) (pe_call G_l_take (hr.mono (by decide)) rfl T.g_l_take T.k_l_take T.b_l_take .nil pass0 (pa_cons (pv 0) (pa_cons (pe_op op_add (pe_op op_sub (pv 2) (pv 1)) pe_int) pa_nil)))))
      (pss_cons (ps_set (i := 5) sc_l_world.nd rfl (Or.inl rfl) (pe_callTy call_tuple_of (by rfl) T.n_tuple (by decide +kernel) (pa_cons (pe_call G_l_names (hr.mono (by decide)) rfl T.g_l_names T.k_l_names T.b_l_names .nil pass0 (pa_cons (pv 0) (pa_cons (pv 4) pa_nil))) pa_nil)))
      (pss_cons (ps_set (i := 6) sc_l_world.nd rfl (Or.inl rfl) (pe_call G_l_pairs (hr.mono (by decide)) rfl T.g_l_pairs T.k_l_pairs T.b_l_pairs .nil pass0 (pa_cons (pv 0) (pa_cons (pv 5) (pa_cons (pe_callB (call_min2 rfl) (by rfl) T.n_min (by decide +kernel) (pa_cons pe_int (pa_cons (pe_op op_add (pe_op op_sub (pv 4) pe_int) (pe_call G_l_take (hr.mono (by decide)) rfl T.g_l_take T.k_l_take T.b_l_take .nil pass0 (pa_cons (pv 0) (pa_cons (pe_op op_add (pv 3) pe_int) pa_nil)))) pa_nil))) pa_nil)))))
      (pss_cons (ps_par (i := 7) (j := 8) (by rfl) sc_l_world.nd rfl rfl (by decide) rfl rfl (pa_cons (pe_lst pa_nil) (pa_cons (pe_cmpR op_eq (pe_call G_l_take (hr.mono (by decide)) rfl T.g_l_take T.k_l_take T.b_l_take .nil pass0 (pa_cons (pv 0) (pa_cons pe_int pa_nil))) pe_int (nomark _)) pa_nil)) (by rfl))
      (pss_cons (ps_for PassesOwn.never rfl (pi_list (pv 6)) (pg_tup rfl (pgs_cons (pg_name (i := 9) sc_l_world.nd rfl (Or.inl rfl)) (pgs_cons (pg_name (i := 10) sc_l_world.nd rfl (Or.inl rfl)) pgs_nil))) (pss_cons (ps_set (i := 11) sc_l_world.nd rfl (Or.inl rfl) (pe_call G_l_far (hr.mono (by decide)) rfl T.g_l_far T.k_l_far T.b_l_far .nil pass0 (pa_cons (pv 0) pa_nil)))
      (pss_one (ps_expr (pe_bm PySem.F.plainAttrs_list PySem.F.slot_list_append PySem.F.type_list_append mt_append (pv 7) (pa_cons (pe_tup (pa_cons (pv 9) (pa_cons (pv 10) (pa_cons (pv 11) (pa_cons (pe_ifExp (pt_val (pv 8)) (pv 11) (pe_call G_l_far (hr.mono (by decide)) rfl T.g_l_far T.k_l_far T.b_l_far .nil pass0 (pa_cons (pv 0) pa_nil))) pa_nil))))) pa_nil))))))
      (pss_one (ps_ret (pe_tup (pa_cons (pv 5) (pa_cons (pe_callTy call_tuple_of (by rfl) T.n_tuple (by decide +kernel) (pa_cons (pe_callB (cr_sortTu rfl (roomU3 hr)) (by rfl) T.n_sorted (by decide +kernel) (pa_cons (pe_callTy (cr_setTu rfl (roomU3 hr)) (by rfl) T.n_set (by decide +kernel) (pa_cons (pv 7) pa_nil)) pa_nil)) pa_nil)) pa_nil)))))))))), ?_⟩
    refine seqS (fun v H' => ∃ n : Nat, v = .int (n : Int) ∧ lo ≤ n ∧ n ≤ hi ∧ But p H H' ∧ Pot H' p (B + 1)) (fun Q k' => ?_) ?_
    · refine ⟨_, rfl, _, rfl, _, rfl, _, rfl, _, _, rfl, rfl, _, _, rfl, rfl, p, _, B, rfl, hp, by omega, by omega, by omega, fun d H1 hd b1 p1 => ⟨_, _, rfl, rfl, k' _ _ ⟨lo + d, congrArg V.int (by omega), by omega, by omega, b1, p1⟩⟩⟩
    rintro _ H1 ⟨n, rfl, n1, n2, b1, p1⟩
    refine seqS (fun v H' => ∃ (r : Addr) (zs : List Str), v = .ref r ∧ H' r = some (.tup (zs.map V.str)) ∧ zs.length = n ∧ zs.Pairwise tLt ∧ (∀ z ∈ zs, NameOk z) ∧ But p H H' ∧ Pot H' p (B + 21)) (fun Q k' => ?_) ?_
    · refine ⟨_, rfl, _, rfl, p, n, B + 1, rfl, p1, by omega, by omega, fun zs q H2 hl pw nok b2 p2 nq hq => ⟨q, _, rfl, .inl ⟨SqL.of hq, fun r nr => k' _ _ ⟨r, zs, rfl, upd_same, hl, pw, nok, (b1.trans b2).trans (But.of (same_new nr)), (p2.same (same_new nr)).mono (by omega)⟩⟩⟩⟩
    rintro _ H2 ⟨r, zs, rfl, hr2, hl, pw, nok, b2, p2⟩
    have nrp := tup_notp hr2 p2
    refine seqS (fun v H' => ∃ (c : Addr) (ps : List (Addr × List Key)), v = .ref c ∧ H' c = some (.lst (ps.map fun q => V.ref q.1)) ∧ PairsOk H' zs ps ∧ ps.length ≤ 16 ∧ H' r = some (.tup (zs.map V.str)) ∧ c ≠ p ∧ But p H H' ∧ Pot H' p (B + 60)) (fun Q k' => ?_) ?_
    · refine ⟨_, rfl, _, rfl, _, rfl, _, _, rfl, rfl, _, rfl, _, rfl, _, _, rfl, rfl, p, _, B + 21, rfl, p2, by omega, by omega, by omega, fun d H3 hd b3 p3 => ⟨_, _, rfl, rfl, _, _, rfl, ?_⟩⟩
      obtain ⟨m, em, hm⟩ : ∃ m : Nat, (if (n : Int) - 1 + (d : Int) < 16 then (n : Int) - 1 + (d : Int) else 16) = (m : Int) ∧ m ≤ 16 := by
        refine ⟨(if (n : Int) - 1 + (d : Int) < 16 then (n : Int) - 1 + (d : Int) else 16).toNat, ?_, ?_⟩ <;> split <;> omega
      have hr3 := b3 _ _ nrp hr2
      refine ⟨p, r, zs, m, B + 22, ?_, p3, by omega, nrp, SqT.of hr3, pw, nok, by omega, by omega, fun ps c H4 pk lp b4 p4 nc hc => k' _ _ ⟨c, ps, rfl, hc, pk, by omega, b4 _ _ nrp hr3, pot_none p3 nc, (b2.trans b3).trans b4, p4.mono (by omega)⟩⟩
      show [V.ref p, V.ref r, V.int _] = _
      rw [← em]
    rintro _ H3 ⟨c, ps, rfl, hc, pk, lp, hr3, ncp, b3, p3⟩
    refine ⟨by show 0 ≤ sizeLine; decide, fun f nf => ⟨_, rfl, p, 2, B + 60, rfl, p3.same (same_new nf), by decide, by decide, by omega, fun d H4 hd b4 p4 => ⟨rfl, _, _, rfl, ?_⟩⟩⟩
    refine nxt ?_
    have s3 : Same H3 (upd H3 f (.lst [])) := same_new nf
    have L4 : Lnk p f c H H4 zs r 0 (B + 61) ps [] := Lnk.on (H := upd H3 f (.lst []))
      ⟨upd_same, s3 _ _ hc, s3 _ _ hr3, ⟨fun x hx => ⟨s3 _ _ (pk.1 x hx).1, (pk.1 x hx).2⟩, pk.2⟩, fun _ z => (by cases z), rfl, b3.trans (But.of s3), p3.same s3, but_none b3 p3 nf, pot_none p3 nf, ncp, fun z => by rw [z, hc] at nf; cases nf⟩ b4 p4
    generalize decide (V.int (d : Int) = V.int 0) = ev
    refine ⟨_, rfl, c, rfl, ⟨_, SqL.of L4.kc⟩, ?_⟩
    refine for_list (xs := ps.map fun q => V.ref q.1) (fun i σ H' => ∃ (y9 y10 y11 : Option V) (ls : List (Addr × List Key)), σ = [some (.ref p), some (.int (lo : Int)), some (.int (hi : Int)), some (.int (mo : Int)), some (.int (n : Int)), some (.ref r), some (.ref c), some (.ref f), some (.bl ev), y9, y10, y11] ∧
      Lnk p f c H H' zs r i (B + 61 + 6 * i) ps ls) ⟨_, _, _, [], rfl, L4⟩ (fun i σ H' _ z => ?_) ?_ ?_
    · obtain ⟨_, _, _, _, _, L⟩ := z
      exact SqL.of L.kc
    · rintro i x σ H5 hx ⟨y9, y10, y11, ls, rfl, L5⟩
      rw [List.getElem?_map] at hx
      obtain ⟨q, gq, rfl⟩ := Option.map_eq_some_iff.mp hx
      have li : i < ps.length := (List.getElem?_eq_some_iff.mp gq).1
      obtain ⟨eq1, a, b, eq2, ha, hb, lt⟩ := L5.pk.1 q (List.mem_of_getElem? gq)
      rw [eq2] at eq1
      refine ⟨q.1, _, rfl, SqT.of eq1, rfl, _, _, rfl, _, _, rfl, rfl, ?_⟩
      refine seqS (fun v H' => ∃ x : Nat, v = .int (x : Int) ∧ 1 ≤ x ∧ x ≤ 90 ∧ Lnk p f c H H' zs r i (B + 61 + 6 * i + 3) ps ls) (fun Q k' => ?_) ?_
      · exact ⟨_, rfl, p, _, rfl, L5.po, by omega, fun x H6 x1 x2 b6 p6 => k' _ _ ⟨x, rfl, x1, x2, L5.on b6 p6⟩⟩
      rintro _ H6 ⟨x, rfl, x1, x2, L6⟩
      refine ⟨_, rfl, .inl ⟨rfl, _, SqL.of L6.kf⟩, ?_⟩
      have lls : (ls.map fun q => V.ref q.1).length < sizeLine := by
        have e := congrArg List.length L6.kk
        rw [List.length_map, List.length_map, List.length_take] at e
        rw [List.length_map, sizeLine_eq]
        omega
      refine ⟨_, rfl, _, rfl, _, rfl, _, rfl, ev, rfl, ?_⟩
      cases ev
      · dsimp only
        rw [if_neg Bool.false_ne_true]
        refine ⟨_, rfl, p, _, rfl, L6.po, by omega, fun y H7 y1 y2 b7 p7 => ?_⟩
        have L7 := L6.on b7 p7
        refine ⟨by show 4 ≤ sizeLine; decide, fun t nt => ?_⟩
        have s8 := same_new (o := .tup [.str a, .str b, .int (x : Int), .int (y : Int)]) nt
        exact ⟨f, _, .ref t, rfl, rfl, (L7.same s8).kf, lls, _, _, _, ls ++ [(t, linkK a b x y)], rfl, ((L7.same s8).push gq eq2 upd_same x1 x2 y1 y2).more (by omega)⟩
      · dsimp only
        rw [if_pos rfl]
        refine ⟨_, rfl, ?_⟩
        refine ⟨by show 4 ≤ sizeLine; decide, fun t nt => ?_⟩
        have s8 := same_new (o := .tup [.str a, .str b, .int (x : Int), .int (x : Int)]) nt
        exact ⟨f, _, .ref t, rfl, rfl, (L6.same s8).kf, lls, _, _, _, ls ++ [(t, linkK a b x x)], rfl, ((L6.same s8).push gq eq2 upd_same x1 x2 x1 x2).more (by omega)⟩
    · rintro σ H5 ⟨y9, y10, y11, ls, rfl, L5⟩
      refine nxt ?_
      have kk : ls.map (fun q => q.2.take 2) = ps.map (·.2) := by
        have e := L5.kk
        rw [List.length_map, List.take_length] at e
        exact e
      have lls : ls.length = ps.length := by
        have e := congrArg List.length kk
        rw [List.length_map, List.length_map] at e
        exact e
      have nd2 : (ls.map (fun q => q.2.take 2)).Nodup := by
        rw [kk]
        exact L5.pk.2
      have ndk : (ls.map (·.2)).Nodup := by
        refine nodup_of_map (f := fun k : List Key => k.take 2) ?_
        rw [List.map_map]
        exact nd2
      have shp : ∀ q ∈ ls, shape q.2 = [false, false, true, true] := fun q hq => by
        obtain ⟨_, a, b, x, y, e, _⟩ := L5.el q hq
        rw [e]
        rfl
      refine ⟨_, rfl, _, rfl, f, ls, rfl, SqL.of L5.kf, fun q hq => SqT.of (L5.el q hq).1, ndk, by omega, fun S nS => ?_⟩
      have L6 := L5.same (same_new (o := SetM w S (ls.map fun q => Value.ref q.1)) nS)
      refine ⟨S, ls, _, rfl, upd_same, fun q hq => SqT.of (L6.el q hq).1, shp, by simp, ndk, by omega, fun g ts pts pwt ng => ?_⟩
      have L7 := L6.same (same_new (o := .lst (ts.map fun q => V.ref q.1)) ng)
      refine ⟨g, _, rfl, .inl ⟨SqL.of upd_same, fun lt nlt => ?_⟩⟩
      have L8 := L7.same (same_new (o := .tup (ts.map fun q => V.ref q.1)) nlt)
      refine ⟨by show 2 ≤ sizeLine; decide, fun wd nwd => ?_⟩
      have s9 := same_new (o := .tup [.ref r, .ref lt]) nwd
      have L9 := L8.same s9
      have lz := hl
      refine k wd r lt zs ts _ upd_same L9.kr (s9 _ _ upd_same) pw nok (by omega) (by omega) ⟨fun q hq => ?_, ?_, by rw [pts.length_eq]; omega⟩ L9.bu (L9.po.mono (by rw [List.length_map]; omega))
      · have hq2 := pts.mem_iff.mp hq
        obtain ⟨e1, a, b, x, y, e2, x1, x2, y1, y2⟩ := L9.el q hq2
        have hm : pairK a b ∈ ps.map (·.2) := by
          rw [← kk]
          exact List.mem_map.mpr ⟨q, hq2, by rw [e2]; rfl⟩
        obtain ⟨q3, hq3, e3⟩ := List.mem_map.mp hm
        obtain ⟨_, a3, b3, e4, ha, hb, lt⟩ := L5.pk.1 q3 hq3
        rw [e3] at e4
        injection e4 with e5 e6
        injection e5 with e5
        injection e6 with e6 _
        injection e6 with e6
        subst e5
        subst e6
        exact ⟨e1, a, b, x, y, e2, ha, hb, lt, x1, x2, y1, y2⟩
      · have nt : (ts.map (fun q => q.2.take 2)).Nodup := ((pts.map (fun q : Addr × List Key => q.2.take 2)).nodup_iff).mpr nd2
        refine List.Pairwise.imp_of_mem (fun {q q'} hq hq' h => ?_) (List.Pairwise.and pwt (List.pairwise_map.mp nt))
        obtain ⟨_, a, b, x, y, e, _⟩ := L5.el q (pts.mem_iff.mp hq)
        obtain ⟨_, a', b', x', y', e', _⟩ := L5.el q' (pts.mem_iff.mp hq')
        rw [e, e'] at h ⊢
        exact link_lt h.1 h.2
end
end Toy
set_option Elab.async false
set_option linter.all false
set_option maxRecDepth 100000
set_option maxHeartbeats 4000000
namespace Toy
open PySem L2 Q
section
variable {K : PySem.W.Frag} {mg : Str → Option Value} {nm : Str} {C Cn : Addr}
theorem mro_of (h : ∃ nm q N bs sn sub ab col dd k0 k1 k2 k3 k5, K.lookup C = some (excClassObj nm q C N bs (.ref Cn :: PySem.HandSPX.veTail) true sn sub ab col dd k0 k1 k2 k3 k5 "ValueError.__new__"))
    (b : Value) : PySem.W.mroIn K C b = some ((Value.ref C :: Value.ref Cn :: PySem.HandSPX.veTail).contains b) := by
  obtain ⟨_, _, _, _, _, _, _, _, _, _, _, _, _, _, e⟩ := h
  unfold PySem.W.mroIn PySem.W.clsIn
  rw [e]
  rfl
theorem cls_of {bm : List Value} (h : ∃ nm q N bs sn sub ab col dd k0 k1 k2 k3 k5, K.lookup C = some (excClassObj nm q C N bs bm true sn sub ab col dd k0 k1 k2 k3 k5 "ValueError.__new__")) :
    (PySem.W.clsIn K C).isSome = true ∧ PySem.W.hasDictIn K C = true ∧ PySem.W.typeIn K (.ref C) = some (.type "type") := by
  obtain ⟨_, _, _, _, _, _, _, _, _, _, _, _, _, _, e⟩ := h
  refine ⟨?_, ?_, ?_⟩
  · unfold PySem.W.clsIn
    rw [e]
    rfl
  · unfold PySem.W.hasDictIn PySem.W.clsIn
    rw [e]
    rfl
  · show (K.lookup C).map (·.cls) = _
    rw [e]
    rfl
theorem ErrC.sub (c : ErrC K mg nm C Cn) (b : Value) : PySem.W.subIn K (.ref C) b = some ((Value.ref C :: Value.ref Cn :: PySem.HandSPX.veTail).contains b) := mro_of c.xL b
theorem ErrC.oex (c : ErrC K mg nm C Cn) : OexC K C := by
  have h := c.xL
  obtain ⟨nm', q, N, bs, sn, sub, ab, col, dd, k0, k1, k2, k3, k5, e⟩ := h
  refine ⟨⟨nm', q, N, bs, _, sn, sub, ab, col, dd, k0, k1, k2, k3, k5, e, rfl⟩, c.sa, ?_, (cls_of c.xL).2.2, c.kC⟩
  rw [c.sub]
  rfl
theorem ErrC.exc (c : ErrC K mg nm C Cn) (hn : PySem.W.specialIn K (.builtin "object.__class__") "__get__" = some (some (.builtin "getset_descriptor.__get__")))
    (ht : PySem.W.takesIn K (.builtin "object.__class__") = some true) : ExcC K C := by
  refine ⟨c.ga, c.gg, ?_, (cls_of c.xL).2.1, c.hc, hn, ht, ?_⟩
  · rw [c.sub]
    rfl
  · rw [mro_of c.xL]
    rfl
theorem ErrC.kit (c : ErrC K mg nm C Cn) {D : Addr} (h1 : (PySem.W.clsIn K D).isSome = true) (h2 : PySem.W.typeIn K (.ref D) = some (.type "type")) :
    PySem.W.kitOne K (.ref C) (.ref D) = some (decide (D = C ∨ D = Cn)) := by
  unfold PySem.W.kitOne
  by_cases e : C = D
  · subst e
    rw [if_pos (by simp)]
    simp
  · rw [if_neg (by simpa using e)]
    show (if ((PySem.W.clsIn K D).isSome && PySem.W.typeIn K (.ref D) == some (.type "type")) = true then PySem.W.subIn K (.ref C) (.ref D) else none) = _
    rw [if_pos (by rw [h1, h2]; rfl), c.sub]
    congr 1
    simp only [List.contains_cons, PySem.HandSPX.veTail]
    have e2 : (Value.ref D == Value.ref C) = decide (D = C) := by
      by_cases z : D = C
      · simp [z]
      · simp [z]
    have e3 : (Value.ref D == Value.ref Cn) = decide (D = Cn) := by
      by_cases z : D = Cn
      · simp [z]
      · simp [z]
    rw [e2, e3]
    by_cases z : D = C <;> by_cases y : D = Cn <;> simp [z, y]
theorem ErrC.kitVE (c : ErrC K mg nm C Cn) : PySem.W.kitOne K (.ref C) (.type "ValueError") = some true := by
  unfold PySem.W.kitOne
  rw [if_neg (by simp)]
  show (if PySem.W.kitMeta "ValueError" = true then PySem.W.subIn K (.ref C) (.type "ValueError") else none) = _
  rw [if_pos (by decide +kernel), c.sub]
  rfl
end

/-! ### the errors' own __init__ -/
def spI1 (C : Addr) (f : Str) : Sp := fun vs H Q _ => ∃ (a : Addr) (v : V), vs = [.ref a, v] ∧ H a = some (exo a C none) ∧
  ∀ d H', But a H H' → H d = none → H' a = some (exo a C (some d)) → H' d = some (exd d [(f, v)]) → Q .non H'
def spI2 (C : Addr) (f g : Str) : Sp := fun vs H Q _ => ∃ (a : Addr) (v u : V), vs = [.ref a, v, u] ∧ H a = some (exo a C none) ∧
  ∀ d H', But a H H' → H d = none → H' a = some (exo a C (some d)) → H' d = some (exd d [(g, u), (f, v)]) → Q .non H'
theorem spI1_len {C : Addr} {f : Str} {vs : List V} {H : Hp} {Q : VK} {E : XK} (h : spI1 C f vs H Q E) : vs.length = 2 := by
  obtain ⟨a, v, rfl, _⟩ := h
  rfl
theorem spI2_len {C : Addr} {f g : Str} {vs : List V} {H : Hp} {Q : VK} {E : XK} (h : spI2 C f g vs H Q E) : vs.length = 3 := by
  obtain ⟨a, v, u, rfl, _⟩ := h
  rfl
theorem err_laid {H : Hp} {a dx C : Addr} {fs : List (Str × V)} (n : H dx = none) (ne : dx ≠ a) :
    But a H (upd (upd H dx (exd dx fs)) a (exo a C (some dx))) ∧ upd (upd H dx (exd dx fs)) a (exo a C (some dx)) dx = some (exd dx fs) := by
  refine ⟨fun b o nb e => ?_, ?_⟩
  · rw [upd_ne nb, upd_ne (ne_of_none e n)]
    exact e
  · rw [upd_ne ne, upd_same]
theorem init1 {K : PySem.W.Frag} {C : Addr} {f : Str} (o : OexC K C) (nf : PySem.W.findIn K (.ref C) f = some none) {vs : List V} {H : Hp} {Q : VK} {E : XK} {N : List Str}
    (h : spI1 C f vs H Q E) : tOst K f (tVar 0) (tVar 1) { nx := fun _ H' => Q .non H', rt := Q } (L2.start N vs) H := by
  obtain ⟨a, v, rfl, ha, k⟩ := h
  refine ⟨_, rfl, _, rfl, a, C, rfl, o, nf, .inl ⟨ha, fun dx nd ne => ?_⟩⟩
  obtain ⟨b, e⟩ := err_laid (C := C) (fs := [(f, v)]) nd ne
  exact k dx _ b nd upd_same e
theorem init2 {K : PySem.W.Frag} {C : Addr} {f g : Str} (o : OexC K C) (nf : PySem.W.findIn K (.ref C) f = some none) (ng : PySem.W.findIn K (.ref C) g = some none) {vs : List V} {H : Hp} {Q : VK} {E : XK} {N : List Str}
    (h : spI2 C f g vs H Q E) : tSeq (tOst K f (tVar 0) (tVar 1)) (tOst K g (tVar 0) (tVar 2)) { nx := fun _ H' => Q .non H', rt := Q } (L2.start N vs) H := by
  obtain ⟨a, v, u, rfl, ha, k⟩ := h
  refine ⟨_, rfl, _, rfl, a, C, rfl, o, nf, .inl ⟨ha, fun dx nd ne => ?_⟩⟩
  refine ⟨_, rfl, _, rfl, a, C, rfl, o, ng, .inr ⟨dx, [(f, v)], upd_same, by rw [upd_ne ne, upd_same], (by show 1 ≤ 900; decide), ?_⟩⟩
  refine k dx _ (fun b x nb e => ?_) nd ?_ upd_same
  · rw [upd_ne (ne_of_none e nd), upd_ne nb, upd_ne (ne_of_none e nd)]
    exact e
  · rw [upd_ne (Ne.symm ne), upd_same]
section
variable {P : Program} {w : World} {K : PySem.W.Frag} {mg : Str → Option Value} {base : Heap} {ca ia fa : Nat → Addr} {fd fi : Nat → FuncData}
theorem sci_BadNet : FnScope ["self", "value"] ["self", "value"] (defScope (inClass (topS 3) 0)) := ⟨rfl, rfl, rfl, by decide +kernel, rfl, by decide +kernel, by decide +kernel⟩
theorem in_BadNet (T : Txt K mg ca ia fa fd fi) : FnOk P w K mg base CX0 1 (ia 3) (fi 3) ["self", "value"] (spI1 (ca 3) "value") :=
  T.FI_BadNet.ok sci_BadNet (fun _ _ _ _ h => spI1_len h) (fun cdv A outer s H vs Q E hr h => ⟨_, pss_one (ps_ost (pv 0) (pv 1)), init1 T.c_BadNet.oex T.no_BadNet_value h⟩)
theorem sci_NoRouter : FnScope ["self", "value"] ["self", "value"] (defScope (inClass (topS 4) 0)) := ⟨rfl, rfl, rfl, by decide +kernel, rfl, by decide +kernel, by decide +kernel⟩
theorem in_NoRouter (T : Txt K mg ca ia fa fd fi) : FnOk P w K mg base CX0 1 (ia 4) (fi 4) ["self", "value"] (spI1 (ca 4) "value") :=
  T.FI_NoRouter.ok sci_NoRouter (fun _ _ _ _ h => spI1_len h) (fun cdv A outer s H vs Q E hr h => ⟨_, pss_one (ps_ost (pv 0) (pv 1)), init1 T.c_NoRouter.oex T.no_NoRouter_value h⟩)
theorem sci_NoLink : FnScope ["self", "value"] ["self", "value"] (defScope (inClass (topS 5) 0)) := ⟨rfl, rfl, rfl, by decide +kernel, rfl, by decide +kernel, by decide +kernel⟩
theorem in_NoLink (T : Txt K mg ca ia fa fd fi) : FnOk P w K mg base CX0 1 (ia 5) (fi 5) ["self", "value"] (spI1 (ca 5) "value") :=
  T.FI_NoLink.ok sci_NoLink (fun _ _ _ _ h => spI1_len h) (fun cdv A outer s H vs Q E hr h => ⟨_, pss_one (ps_ost (pv 0) (pv 1)), init1 T.c_NoLink.oex T.no_NoLink_value h⟩)
theorem sci_BadText : FnScope ["self", "value"] ["self", "value"] (defScope (inClass (topS 6) 0)) := ⟨rfl, rfl, rfl, by decide +kernel, rfl, by decide +kernel, by decide +kernel⟩
theorem in_BadText (T : Txt K mg ca ia fa fd fi) : FnOk P w K mg base CX0 1 (ia 6) (fi 6) ["self", "value"] (spI1 (ca 6) "value") :=
  T.FI_BadText.ok sci_BadText (fun _ _ _ _ h => spI1_len h) (fun cdv A outer s H vs Q E hr h => ⟨_, pss_one (ps_ost (pv 0) (pv 1)), init1 T.c_BadText.oex T.no_BadText_value h⟩)
theorem Txt.exm (T : Txt K mg ca ia fa fd fi) {nm : Str} {C : Addr} (c : ErrC K mg nm C (ca 2)) : PySem.W.exmOne K (.ref C) (.ref (ca 2)) = some true := by
  obtain ⟨d1, d2, d3⟩ := cls_of T.cN.xL
  refine PySem.W.exm_ref ?_ d2 d3 ?_
  · obtain ⟨_, _, _, _, _, _, _, _, _, _, _, _, _, _, e⟩ := T.cN.xL
    show PySem.W.mroIn K (ca 2) _ = _
    unfold PySem.W.mroIn PySem.W.clsIn
    rw [e]
    rfl
  · rw [c.sub]
    congr 1
    simp
end
/-- a new error as an argument, the rest behind it -/
theorem mk1 {C : Addr} {f : Str} {te : TE} {σ : L2.St} {H : Hp} {v : V} {Q : VK} (h : ∀ Q' : VK, Q' v H → te σ H Q')
    (k : ∀ a H', Same H H' → ErrAt H' a C [(f, v)] → H a = none → Q (.ref a) H') : tMkV C (spI1 C f) [] (tCons te tNil) σ H Q := by
  refine h _ ⟨(by decide : 1 ≤ 1000), fun a na => ⟨a, v, rfl, upd_same, fun d H' b _ ea ed => ⟨rfl, k a H' ?_ ⟨d, .inl ea, .inl ed⟩ na⟩⟩⟩
  intro c o e2
  exact b c o (ne_of_none e2 na) (same_new na _ _ e2)
theorem mk2 {C : Addr} {f g : Str} {te ue : TE} {σ : L2.St} {H : Hp} {v u : V} {Q : VK} (h : ∀ Q' : VK, Q' v H → te σ H Q') (h2 : ∀ Q' : VK, Q' u H → ue σ H Q')
    (k : ∀ a H', Same H H' → ErrAt H' a C [(g, u), (f, v)] → H a = none → Q (.ref a) H') : tMkV C (spI2 C f g) [] (tCons te (tCons ue tNil)) σ H Q := by
  refine h _ (h2 _ ⟨(by decide : 2 ≤ 1000), fun a na => ⟨a, v, u, rfl, upd_same, fun d H' b _ ea ed => ⟨rfl, k a H' ?_ ⟨d, .inl ea, .inl ed⟩ na⟩⟩⟩)
  intro c o e2
  exact b c o (ne_of_none e2 na) (same_new na _ _ e2)
theorem lst0 {t : TA} {σ : L2.St} {H : Hp} {Q : VK} (h : t σ H fun xs H1 => xs.length ≤ sizeLine ∧ ∀ p, H1 p = none → Q (.ref p) (upd H1 p (.lst xs))) : tLst t σ H Q := h
theorem tup0 {t : TA} {σ : L2.St} {H : Hp} {Q : VK} (h : t σ H fun xs H1 => xs.length ≤ sizeLine ∧ ∀ p, H1 p = none → Q (.ref p) (upd H1 p (.tup xs))) : tTup t σ H Q := h
theorem cons0 {ta : TE} {tr : TA} {σ : L2.St} {H : Hp} {Q : List V → Hp → Prop} (h : ta σ H fun x H1 => tr σ H1 fun xs H2 => Q (x :: xs) H2) : tCons ta tr σ H Q := h
theorem var {i : Nat} {σ : L2.St} {H : Hp} {v : V} (e : σ[i]? = some (some v)) : ∀ Q' : VK, Q' v H → tVar i σ H Q' := fun _ q => ⟨v, e, q⟩
end Toy
set_option Elab.async false
set_option linter.all false
set_option maxRecDepth 100000
set_option maxHeartbeats 4000000
namespace Toy
open PySem L2 Q
/-- is_integer(v) of a whole number -/
def spInt : Sp := fun vs H Q _ => ∃ v : Int, vs = [.int v] ∧ Q (.bl true) H
/-- is_integer_from(v, least) of whole numbers -/
def spIntFrom : Sp := fun vs H Q _ => ∃ v l : Int, vs = [.int v, .int l] ∧ Q (.bl (decide (l ≤ v))) H
def spLength : Sp := fun vs H Q _ => ∃ v : Int, vs = [.int v] ∧ Q (.bl (decide (1 ≤ v))) H
/-- is_name of a text -/
def spName : Sp := fun vs H Q _ => ∃ z : Str, vs = [.str z] ∧ z.length ≤ 1000000 ∧ ∀ b : Bool, (b = true ↔ NameOk z) → ∀ H', Same H H' → Q (.bl b) H'
section
variable {P : Program} {w : World} {K : PySem.W.Frag} {mg : Str → Option Value} {base : Heap} {ca ia fa : Nat → Addr} {fd fi : Nat → FuncData}
theorem ok_integer (T : Txt K mg ca ia fa fd fi) : FnOk P w K mg base CX0 1 (fa 9) (fd 9) ["value"] spInt := by
  refine T.F_is_integer.ok sc_is_integer (fun vs H Q E h => ?_) (fun cdv A outer s H vs Q E hr h => ?_)
  · obtain ⟨v, rfl, _⟩ := h
    rfl
  · obtain ⟨v, rfl, k⟩ := h
    refine ⟨_, (pss_one (ps_ret (pe_and (pe_callB call_isi (by rfl) T.n_isinstance (by decide +kernel) (pa_cons (pv 0) (pa_cons (pe_bltn (v := .ty "int") (by rfl) T.n_int (by decide +kernel) rfl) pa_nil))) (pe_one (pe_not (pe_callB call_isi (by rfl) T.n_isinstance (by decide +kernel) (pa_cons (pv 0) (pa_cons (pe_bltn (v := .ty "bool") (by rfl) T.n_bool (by decide +kernel) rfl) pa_nil)))))))), ?_⟩
    refine ⟨_, rfl, .int v, .ty "int", _, _, true, rfl, .ty _, .base (.int v), rfl, ?_⟩
    refine ⟨_, rfl, ?_⟩
    dsimp only
    rw [if_pos rfl]
    exact ⟨_, rfl, .int v, .ty "bool", _, _, false, rfl, .ty _, .base (.int v), rfl, _, rfl, k⟩
theorem ok_int_from (T : Txt K mg ca ia fa fd fi) : FnOk P w K mg base CX0 2 (fa 10) (fd 10) ["value", "least"] spIntFrom := by
  have G_is_integer := ok_integer (P := P) (w := w) (base := base) T
  refine T.F_is_integer_from.ok sc_is_integer_from (fun vs H Q E h => ?_) (fun cdv A outer s H vs Q E hr h => ?_)
  · obtain ⟨v, l, rfl, _⟩ := h
    rfl
  · obtain ⟨v, l, rfl, k⟩ := h
    refine ⟨_, (pss_one (ps_ret (pe_and (pe_call G_is_integer (hr.mono (by decide)) rfl T.g_is_integer T.k_is_integer T.b_is_integer .nil pass0 (pa_cons (pv 0) pa_nil)) (pe_one (pe_cmpR op_ge (pv 0) (pv 1) (nomark _)))))), ?_⟩
    refine ⟨_, rfl, v, rfl, _, rfl, ?_⟩
    dsimp only
    rw [if_pos rfl]
    exact ⟨_, rfl, _, rfl, _, _, rfl, rfl, k⟩
theorem ok_length (T : Txt K mg ca ia fa fd fi) : FnOk P w K mg base CX0 3 (fa 23) (fd 23) ["value"] spLength := by
  have G_is_integer_from := ok_int_from (P := P) (w := w) (base := base) T
  refine T.F_is_length.ok sc_is_length (fun vs H Q E h => ?_) (fun cdv A outer s H vs Q E hr h => ?_)
  · obtain ⟨v, rfl, _⟩ := h
    rfl
  · obtain ⟨v, rfl, k⟩ := h
    refine ⟨_, (pss_one (ps_ret (pe_call G_is_integer_from (hr.mono (by decide)) rfl T.g_is_integer_from T.k_is_integer_from T.b_is_integer_from .nil pass0 (pa_cons (pv 0) (pa_cons pe_int pa_nil))))), ?_⟩
    exact ⟨_, rfl, v, 1, rfl, k⟩
theorem lowS (c : Nat) : (!decide ((⟨#[c]⟩ : Str).cps.toList < (Str.ofString "a").cps.toList)) = decide (97 ≤ c) ∧ (!decide ((Str.ofString "z").cps.toList < (⟨#[c]⟩ : Str).cps.toList)) = decide (c ≤ 122) := by
  have ea : (Str.ofString "a").cps.toList = [97] := by decide +kernel
  have ez : (Str.ofString "z").cps.toList = [122] := by decide +kernel
  rw [ea, ez]
  constructor
  · rw [Bool.eq_iff_iff]
    simp [List.cons_lt_cons_iff]
  · rw [Bool.eq_iff_iff]
    simp [List.cons_lt_cons_iff]
theorem ok_name (T : Txt K mg ca ia fa fd fi) : FnOk P w K mg base CX0 1 (fa 11) (fd 11) ["value"] spName := by
  refine T.F_is_name.ok sc_is_name (fun vs H Q E h => ?_) (fun cdv A outer s H vs Q E hr h => ?_)
  · obtain ⟨z, rfl, _⟩ := h
    rfl
  · obtain ⟨z, rfl, hz, k⟩ := h
    obtain ⟨tk8, hv_LONGEST_NAME⟩ := T.v_LONGEST_NAME
    refine ⟨_, (pss_cons (ps_if (PW.pt (pw_or (pt_not (pt_val (pe_callB call_isi (by rfl) T.n_isinstance (by decide +kernel) (pa_cons (pv 0) (pa_cons (pe_bltn (v := .ty "str") (by rfl) T.n_str (by decide +kernel) rfl) pa_nil))))) (pw_or1 (pt_not (pt_chain op_le op_le pe_int (pe_callB call_len (by rfl) T.n_len (by decide +kernel) (pa_cons (pv 0) pa_nil)) (pe_glob rfl hv_LONGEST_NAME (v := .int 8) ⟨_, rfl⟩)))))) (pss_one (ps_ret pe_bl)) pss_nil)
      (pss_one (ps_ret (pe_callB (cr_all rfl) (by rfl) T.n_all (by decide +kernel) (pa_cons (pe_lc (own := [("letter", 1)]) (g := (gName 1)) (tt := tYes) rfl sc_is_name.nd (pi_str (pv 0)) (blkOk_by (own := [("letter", 1)]) (N := N_is_name) (sc := defScope s_is_name) (by decide +kernel)) (fun _ _ _ _ _ => (pg_name (i := 1) sc_is_name.nd rfl (Or.inl rfl))) (fun _ _ _ _ _ => pts_nil) (fun _ _ _ _ _ => by exact (pe_chain op_le_str op_le_str pe_str (pv 1) pe_str))) pa_nil))))), ?_⟩
    have lenV : LenV K (.str z) H z.length := ⟨by rw [sizeLine_eq]; omega, rfl⟩
    have stop : ∀ {u : TS} {D : Ends} {σ : L2.St}, D.rt = Q → ¬ NameOk z → tRet (tC (.bl false)) D σ H := fun {u D σ} e n => by
      show D.rt (.bl false) H
      rw [e]
      exact k false ⟨fun q => (by cases q), fun q => absurd q n⟩ H (fun _ _ e => e)
    refine ⟨_, rfl, .str z, .ty "str", _, _, true, rfl, .ty _, .base (.str z), rfl, _, rfl, ?_⟩
    refine ite2 (fun c => (by cases c)) fun _ => ?_
    refine ⟨_, rfl, _, _, rfl, lenV, _, _, rfl, rfl, _, rfl, ite2 (fun c1 => ?_) (fun c1 => ?_)⟩
    · have l1 : (1 : Int) ≤ (z.length : Nat) := of_decide_eq_true c1
      refine ⟨_, _, rfl, rfl, _, rfl, ite2 (fun c2 => ?_) (fun c2 => ?_)⟩
      · have l2 : ¬ ((z.length : Nat) : Int) ≤ 8 := fun q => by
          rw [decide_eq_true q] at c2
          cases c2
        exact stop (u := tNext) rfl fun q => l2 (by have := q.2.1; omega)
      · have l2 : ((z.length : Nat) : Int) ≤ 8 := Classical.byContradiction fun q => c2 (by rw [decide_eq_false q]; rfl)
        refine nxt ?_
        refine ⟨_, rfl, z, rfl, fun D hD => ?_⟩
        refine lc_it walk_str (fun i H' => ∃ bs : List Bool, bs.length = i ∧ H' D = some (.lst (bs.map V.bl)) ∧ Same H H' ∧ (bs.all id = true ↔ ∀ c ∈ z.cps.toList.take i, 97 ≤ c ∧ c ≤ 122))
          ⟨[], rfl, upd_same, same_new hD, by simp⟩ (fun _ _ _ _ => trivial) ?_ ?_
        · rintro i x H1 H2 hi ⟨bs, lb, hb, s1, iff1⟩ ⟨rfl, c, hc, rfl⟩
          refine ⟨rfl, ?_⟩
          dsimp only [tYes]
          rw [if_pos rfl]
          have hi2 : i < z.length := hi
          have fin : ∀ b : Bool, (b = true ↔ 97 ≤ c ∧ c ≤ 122) → ∃ acc, H2 D = some (.lst acc) ∧ acc.length < sizeLine ∧ ∃ bs : List Bool, bs.length = i + 1 ∧ upd H2 D (.lst (acc ++ [.bl b])) D = some (.lst (bs.map V.bl)) ∧ Same H (upd H2 D (.lst (acc ++ [.bl b]))) ∧
              (bs.all id = true ↔ ∀ c ∈ z.cps.toList.take (i + 1), 97 ≤ c ∧ c ≤ 122) := fun b hb2 => by
            refine ⟨_, hb, ?_, bs ++ [b], by simp [lb], ?_, fun d u e => ?_, ?_⟩
            · rw [List.length_map, sizeLine_eq]
              omega
            · rw [upd_same, List.map_append]
              rfl
            · rw [upd_ne (ne_of_none e hD)]
              exact s1 _ _ e
            · have hc2 : z.cps.toList[i]? = some c := by rw [Array.getElem?_toList]; exact hc
              rw [List.take_add_one, hc2, List.all_append, Bool.and_eq_true, iff1]
              constructor
              · rintro ⟨q1, q2⟩ d hd
                rcases List.mem_append.mp hd with q | q
                · exact q1 d q
                · have e : d = c := by simpa using q
                  rw [e]
                  exact hb2.1 (by simpa using q2)
              · intro q
                refine ⟨fun d hd => q d (List.mem_append_left _ hd), ?_⟩
                have e := hb2.2 (q c (List.mem_append_right _ (by simp)))
                simp [e]
          obtain ⟨low1, low2⟩ := lowS c
          refine ⟨_, rfl, _, _, rfl, rfl, _, rfl, ite2 (fun a1 => ?_) (fun a1 => ?_)⟩
          · rw [low1] at a1
            refine ⟨_, _, rfl, rfl, ?_⟩
            rw [low2]
            exact fin _ ⟨fun q => ⟨of_decide_eq_true a1, of_decide_eq_true q⟩, fun q => decide_eq_true q.2⟩
          · rw [low1] at a1
            exact fin _ ⟨fun q => (by cases q), fun q => absurd (decide_eq_true q.1) a1⟩
        · rintro H1 ⟨bs, lb, hb, s1, iff1⟩
          have e : z.cps.toList.take z.cps.size = z.cps.toList := List.take_of_length_le (Nat.le_of_eq (Array.length_toList ..))
          rw [e] at iff1
          exact ⟨D, bs, rfl, SqL.of hb, k _ ⟨fun q => ⟨by omega, by omega, iff1.1 q⟩, fun q => iff1.2 q.2.2⟩ H1 s1⟩
    · have l1 : ¬ (1 : Int) ≤ (z.length : Nat) := fun q => c1 (decide_eq_true q)
      refine ⟨_, rfl, ite2 (fun _ => ?_) (fun c2 => absurd rfl c2)⟩
      exact stop (u := tNext) rfl fun q => l1 (by have := q.1; omega)
end
end Toy
set_option Elab.async false
set_option linter.all false
set_option maxRecDepth 100000
set_option maxHeartbeats 4000000
namespace Toy
open PySem L2 Q RZ
theorem walk_zipT {K : PySem.W.Frag} {a b : Addr} {xs ys : List V} {n : Nat} (hn : n = min xs.length ys.length) :
    Walk (ItzT K a b) n (fun H => SqT K H a xs ∧ SqT K H b ys) (YPair (fun i => xs[i]?) (fun i => ys[i]?)) where
  goes := fun i H hi q => by
    have l1 : i < xs.length := by rw [hn] at hi; exact Nat.lt_of_lt_of_le hi (Nat.min_le_left _ _)
    have l2 : i < ys.length := by rw [hn] at hi; exact Nat.lt_of_lt_of_le hi (Nat.min_le_right _ _)
    exact ⟨xs, ys, _, _, q.1, q.2, List.getElem?_eq_getElem l1, List.getElem?_eq_getElem l2⟩
  stops := fun H q => ⟨xs, ys, q.1, q.2, by rw [hn]; omega⟩
  yields := fun i H v H' _ q y => by
    obtain ⟨T, u, z, r1, r2, r3, r4, r5⟩ := y
    exact ⟨T, u, z, r1, r2, r3, r4 _ q.1, r5 _ q.2⟩
/-- a slice of a tuple, new or the tuple itself -/
theorem slT {K : PySem.W.Frag} {H : Hp} {a : Addr} {xs : List V} {lo hi : Option Int} {Q : VK} (h : H a = some (.tup xs))
    (q : ∀ t H', Same H H' → H' t = some (.tup (cutV xs lo hi)) → Q (.ref t) H') : rSlA K (.ref a) lo hi H Q := by
  refine ⟨a, xs, rfl, SqT.of h, fun z => q a H (Same.refl H) ?_, fun z p np => q p _ (same_new np) upd_same⟩
  unfold cutV
  rw [z.1, z.2, List.drop_zero, Nat.sub_zero, List.take_length]
  exact h
theorem all_rep : ∀ n : Nat, (List.replicate n true).all id = true
  | 0 => rfl
  | n + 1 => by rw [List.replicate_succ, List.all_cons, all_rep n]; rfl
theorem rep_succ {α : Type} (n : Nat) (x : α) : List.replicate n x ++ [x] = List.replicate (n + 1) x := by
  rw [List.replicate_succ']
theorem cut_tail (xs : List V) : cutV xs (some 1) none = xs.drop 1 := cut_drop xs 1
theorem pair_at {α : Type} {R : α → α → Prop} {l : List α} (pw : l.Pairwise R) {i : Nat} {x y : α} (hx : l[i]? = some x) (hy : (l.drop 1)[i]? = some y) : R x y := by
  rw [List.getElem?_drop] at hy
  obtain ⟨h1, rfl⟩ := List.getElem?_eq_some_iff.mp hx
  obtain ⟨h2, rfl⟩ := List.getElem?_eq_some_iff.mp hy
  exact List.pairwise_iff_getElem.mp pw i (1 + i) h1 h2 (by omega)
theorem at_map {α β : Type} {f : α → β} {l : List α} {i : Nat} {v : β} (h : (l.map f)[i]? = some v) : ∃ x, l[i]? = some x ∧ v = f x := by
  rw [List.getElem?_map] at h
  obtain ⟨x, h1, h2⟩ := Option.map_eq_some_iff.mp h
  exact ⟨x, h1, h2.symm⟩
theorem tcons {te : TE} {ta : TA} {σ : L2.St} {H : Hp} {Q : List V → Hp → Prop} (h : te σ H fun x H1 => ta σ H1 fun xs H2 => Q (x :: xs) H2) : tCons te ta σ H Q := h
theorem roomU1 {k : Nat} {A : Around} (h : Room k A) : A.units + 1 < cLine := by
  have q := h.units
  omega
abbrev rLess (K : PySem.W.Frag) : R2 := fun x y H Q => (∃ i j, x = .str i ∧ y = .str j ∧ Q (.bl (decide (i.cps.toList < j.cps.toList))) H) ∨ rLtK K x y H Q
/-- is_rising of texts that rise, or of tuples that do -/
def spRising (K : PySem.W.Frag) : Sp := fun vs H Q _ => ∃ a : Addr, vs = [.ref a] ∧ (∀ H', Same H H' → Q (.bl true) H') ∧
  ((∃ zs : List Str, H a = some (.tup (zs.map V.str)) ∧ zs.Pairwise tLt ∧ zs.length ≤ 1000) ∨
   (∃ (ks : List (Addr × List Key)) (sh : List Bool), SqL K H a (ks.map fun p => V.ref p.1) ∧ (∀ p ∈ ks, SqT K H p.1 (p.2.map kV) ∧ shape p.2 = sh) ∧ ks.Pairwise (fun p q => ksLt p.2 q.2 = true) ∧ ks.length ≤ 1000))
section
variable {P : Program} {w : World} {K : PySem.W.Frag} {mg : Str → Option Value} {base : Heap} {ca ia fa : Nat → Addr} {fd fi : Nat → FuncData}
theorem ok_rising (T : Txt K mg ca ia fa fd fi) : FnOk P w K mg base CX0 1 (fa 12) (fd 12) ["values"] (spRising K) := by
  refine T.F_is_rising.ok sc_is_rising (fun vs H Q E h => ?_) (fun cdv A outer s H vs Q E hr h => ?_)
  · obtain ⟨a, rfl, _⟩ := h
    rfl
  · obtain ⟨a, rfl, k, h⟩ := h
    refine ⟨_, (pss_one (ps_ret (pe_callB (cr_all rfl) (by rfl) T.n_all (by decide +kernel) (pa_cons (pe_lc (own := [("low", 1), ("high", 2)]) (g := (gTup K 2 (gCons (gName 1) (gCons (gName 2) gNil)))) (tt := tYes) (te := (tOp (rLess K) (tVar 1) (tVar 2))) rfl sc_is_rising.nd (pi_zipA (by rfl) T.n_zip (pa_cons (pv 0) (pa_cons (pe_slice (SlR.or sl_list sl_tupA) (pv 0) (po_some pe_int) po_none) pa_nil))) (blkOk_by (own := [("low", 1), ("high", 2)]) (N := N_is_rising) (sc := defScope s_is_rising) (by decide +kernel)) (fun _ _ _ _ _ => (pg_tup rfl (pgs_cons (pg_name (i := 1) sc_is_rising.nd rfl (Or.inl rfl)) (pgs_cons (pg_name (i := 2) sc_is_rising.nd rfl (Or.inl rfl)) pgs_nil)))) (fun _ _ _ _ _ => pts_nil) (fun _ _ _ _ _ => by exact (pe_cmpR (OpR.or op_lt_str (op_ltK (roomU1 hr))) (pv 1) (pv 2) (nomark _)))) pa_nil)))), ?_⟩
    rcases h with ⟨zs, hz, pw, l1⟩ | ⟨ks, sh, hz, hk, pw, l1⟩
    · refine ⟨_, rfl, _, rfl, _, rfl, .inr (slT hz fun t H1 s1 ht => ?_)⟩
      rw [cut_tail] at ht
      refine ⟨a, t, _, _, rfl, .inr ⟨SqT.of (s1 _ _ hz), SqT.of ht, fun D hD => ?_⟩⟩
      refine lc_it (walk_zipT rfl) (fun i H' => H' D = some (.lst (List.replicate i (V.bl true))) ∧ Same H1 H') ⟨upd_same, same_new hD⟩ (fun i H' _ q => ⟨SqT.of (q.2 _ _ (s1 _ _ hz)), SqT.of (q.2 _ _ ht)⟩) ?_ ?_
      · rintro i x H2 H3 hi ⟨h2, s2⟩ ⟨T, u, v, rfl, nT, rfl, e1, e2⟩
        obtain ⟨y, hy, rfl⟩ := at_map e1
        rw [← List.map_drop] at e2
        obtain ⟨z, hz2, rfl⟩ := at_map e2
        have lt : tLt y z := pair_at pw hy hz2
        have hi2 : i < 1000 := by rw [List.length_map] at hi; omega
        refine ⟨T, _, rfl, SqT.of upd_same, rfl, _, _, rfl, _, _, rfl, rfl, rfl, ?_⟩
        dsimp only [tYes]
        rw [if_pos rfl]
        refine ⟨_, rfl, _, rfl, .inl ⟨_, _, rfl, rfl, _, same_new nT _ _ h2, ?_, ?_, ?_⟩⟩
        · rw [List.length_replicate, sizeLine_eq]
          omega
        · rw [upd_same, decide_eq_true lt, rep_succ]
        · intro b o e
          rw [upd_ne (ne_of_none e hD)]
          exact same_new nT _ _ (s2 _ _ e)
      · rintro H2 ⟨h2, s2⟩
        refine ⟨D, List.replicate _ true, rfl, SqL.of (by rw [List.map_replicate]; exact h2), ?_⟩
        rw [all_rep]
        exact k H2 (s1.trans s2)
    · refine ⟨_, rfl, _, rfl, _, rfl, .inl ⟨a, _, rfl, hz, fun t nt => ?_⟩⟩
      rw [cut_tail]
      have s1 : Same H (upd H t (.lst ((ks.map fun p => V.ref p.1).drop 1))) := same_new nt
      refine ⟨a, t, _, _, rfl, .inl ⟨s1.seq hz, SqL.of upd_same, fun D hD => ?_⟩⟩
      have ht : upd H t (.lst ((ks.map fun p => V.ref p.1).drop 1)) t = some (.lst ((ks.map fun p => V.ref p.1).drop 1)) := upd_same
      generalize upd H t (.lst ((ks.map fun p => V.ref p.1).drop 1)) = H1 at s1 ht hD ⊢
      refine lc_it (walk_zip rfl) (fun i H' => H' D = some (.lst (List.replicate i (V.bl true))) ∧ Same H1 H') ⟨upd_same, same_new hD⟩ (fun i H' _ q => ⟨(s1.trans q.2).seq hz, SqL.of (q.2 _ _ ht)⟩) ?_ ?_
      · rintro i x H2 H3 hi ⟨h2, s2⟩ ⟨T, u, v, rfl, nT, rfl, e1, e2⟩
        obtain ⟨y, hy, rfl⟩ := at_map e1
        rw [← List.map_drop] at e2
        obtain ⟨z, hz2, rfl⟩ := at_map e2
        have lt := pair_at pw hy hz2
        have iy := List.mem_of_getElem? hy
        have iz : z ∈ ks := List.mem_of_mem_drop (List.mem_of_getElem? hz2)
        have hi2 : i < 1000 := by rw [List.length_map] at hi; omega
        have s3 := (s1.trans s2).trans (same_new (o := .tup [V.ref y.1, V.ref z.1]) nT)
        refine ⟨T, _, rfl, SqT.of upd_same, rfl, _, _, rfl, _, _, rfl, rfl, rfl, ?_⟩
        dsimp only [tYes]
        rw [if_pos rfl]
        refine ⟨_, rfl, _, rfl, .inr ⟨_, _, y.2, z.2, rfl, rfl, SqT.same s3 (hk y iy).1, SqT.same s3 (hk z iz).1, (hk y iy).2.trans (hk z iz).2.symm, _, same_new nT _ _ h2, ?_, ?_, ?_⟩⟩
        · rw [List.length_replicate, sizeLine_eq]
          omega
        · rw [upd_same, lt, rep_succ]
        · intro b o e
          rw [upd_ne (ne_of_none e hD)]
          exact same_new nT _ _ (s2 _ _ e)
      · rintro H2 ⟨h2, s2⟩
        refine ⟨D, List.replicate _ true, rfl, SqL.of (by rw [List.map_replicate]; exact h2), ?_⟩
        rw [all_rep]
        exact k H2 (s1.trans s2)
end
end Toy
set_option Elab.async false
set_option linter.all false
set_option maxRecDepth 100000
set_option maxHeartbeats 4000000
namespace Toy
open PySem L2 Q RZ
/-- routers as a net takes them -/
abbrev RtOk (zs : List Str) : Prop := 2 ≤ zs.length ∧ zs.length ≤ 8 ∧ ∀ z ∈ zs, NameOk z
def spRouters : Sp := fun vs H Q _ => ∃ (r : Addr) (zs : List Str), vs = [.ref r] ∧ H r = some (.tup (zs.map V.str)) ∧ (∀ z ∈ zs, z.length ≤ 1000000) ∧ zs.length ≤ 1000 ∧ zs.Pairwise tLt ∧
  ∀ b : Bool, (b = true ↔ RtOk zs) → ∀ H', Same H H' → Q (.bl b) H'
/-- a link of routers -/
def LkOk (zs : List Str) (k : List Key) : Prop := ∃ (a b : Str) (x y : Int), k = [.inr a, .inr b, .inl x, .inl y] ∧ a ∈ zs ∧ b ∈ zs ∧ tLt a b ∧ 1 ≤ x ∧ 1 ≤ y
abbrev pLt (k l : List Key) : Prop := ksLt (k.take 2) (l.take 2) = true
def spLink : Sp := fun vs H Q _ => ∃ (t r : Addr) (zs : List Str) (k : List Key), vs = [.ref t, .ref r] ∧ H t = some (.tup (k.map kV)) ∧ H r = some (.tup (zs.map V.str)) ∧ LkOk zs k ∧
  ∀ H', Same H H' → Q (.bl true) H'
/-- links of routers, by their pairs -/
structure Lks (H : Hp) (zs : List Str) (l : Addr) (ls : List (Addr × List Key)) : Prop where
  at_ : H l = some (.tup (ls.map fun q => V.ref q.1))
  el : ∀ q ∈ ls, H q.1 = some (.tup (q.2.map kV)) ∧ LkOk zs q.2
  up : ls.Pairwise fun p q => pLt p.2 q.2
  few : ls.length ≤ 100
theorem Lks.same {H H' : Hp} {zs : List Str} {l : Addr} {ls : List (Addr × List Key)} (h : Lks H zs l ls) (s : Same H H') : Lks H' zs l ls :=
  ⟨s _ _ h.at_, fun q hq => ⟨s _ _ (h.el q hq).1, (h.el q hq).2⟩, h.up, h.few⟩
def spLinks : Sp := fun vs H Q _ => ∃ (l r : Addr) (zs : List Str) (ls : List (Addr × List Key)), vs = [.ref l, .ref r] ∧ H r = some (.tup (zs.map V.str)) ∧ Lks H zs l ls ∧
  ∀ b : Bool, (b = true ↔ ls.length ≤ 16) → ∀ H', Same H H' → Q (.bl b) H'
theorem flat_strs : ∀ zs : List Str, (zs.map V.str).all flatV = true
  | [] => rfl
  | z :: zs => by rw [List.map_cons, List.all_cons, flat_strs zs]; rfl
theorem in_strs {a : Str} : ∀ {zs : List Str}, inV (V.str a) (zs.map V.str) = true ↔ a ∈ zs
  | [] => by simp [inV]
  | z :: zs => by
    have ih := in_strs (a := a) (zs := zs)
    unfold inV at ih ⊢
    rw [List.map_cons, List.any_cons, Bool.or_eq_true, ih, List.mem_cons]
    refine or_congr_left ?_
    show (z == a) = true ↔ a = z
    rw [beq_iff_eq]
    exact eq_comm
theorem iteB {c : Bool} {A B : Prop} (h : c = true) (a : A) : if c = true then A else B := by
  rw [if_pos h]
  exact a
end Toy
set_option Elab.async false
set_option linter.all false
set_option maxRecDepth 100000
set_option maxHeartbeats 4000000
namespace Toy
open PySem L2 Q RZ
abbrev netFs (r l : Addr) : List (Str × V) := [("_routers", .ref r), ("_links", .ref l)]
/-- a net at n with these routers and links -/
def NetO (C : Addr) (H : Hp) (n r l : Addr) : Prop := ∃ dx, H n = some (.ins C dx (netFs r l))
theorem NetO.same {C : Addr} {H H' : Hp} {n r l : Addr} (h : NetO C H n r l) (s : Same H H') : NetO C H' n r l := let ⟨dx, e⟩ := h; ⟨dx, s _ _ e⟩
theorem put_links (u v : V) : putF "_links" v (putF "_routers" u []) = ([("_routers", u), ("_links", v)] : List (Str × V)) := by
  unfold putF
  simp only [putF]
  rw [if_neg (by decide)]
/-- an error of one value, raised -/
theorem oexc {C : Addr} {f : Str} {v : V} {H : Hp} {Q : XK} (q : ∀ d H', Same H H' → H' d = some (.xd [(f, v)]) → Q (.ref C) (some d) H') :
    ([v] : List V).length ≤ 1000 ∧ ∀ a, H a = none → spI1 C f (.ref a :: ([v] ++ [])) (upd H a (exo a C none))
      (fun u H2 => u = .non ∧ ∃ (d : Addr) (fs : List (Str × V)), H2 a = some (exo a C (some d)) ∧ H2 d = some (exd d fs) ∧ H d = none ∧ Q (.ref C) (some d) (upd (del H2 a) d (.xd fs))) (fun _ _ _ => False) := by
  refine ⟨(by show 1 ≤ 1000; decide), fun a na => ⟨a, v, rfl, upd_same, fun d H2 b nd ea ed => ?_⟩⟩
  have nd0 : H d = none := by
    cases z : H d with
    | none => rfl
    | some o =>
      rw [same_new na _ _ z] at nd
      cases nd
  refine ⟨rfl, d, _, ea, ed, nd0, q d _ (fun c o e => ?_) upd_same⟩
  rw [upd_ne (ne_of_none e nd0), del_ne (ne_of_none e na)]
  exact b c o (ne_of_none e na) (same_new na _ _ e)
section
variable {P : Program} {w : World} {K : PySem.W.Frag} {mg : Str → Option Value} {base : Heap} {ca ia fa : Nat → Addr} {fd fi : Nat → FuncData}
theorem ok_m_routers (T : Txt K mg ca ia fa fd fi) : FnOk P w K mg base CX0 1 (ia 101) (fi 101) ["self"] (getSp (ca 20) "_routers") := by
  refine T.F_m_routers.ok sc_m_routers (fun vs H Q E h => ?_) (fun cdv A outer s H vs Q E hr h => ?_)
  · obtain ⟨a, dx, fs, v, rfl, _⟩ := h
    rfl
  · obtain ⟨a, dx, fs, v, rfl, ha, hl, q⟩ := h
    exact ⟨_, (pss_one (ps_ret (pe_fld (pv 0) rfl))), _, rfl, a, _, dx, fs, v, rfl, ha, T.cl_Net, T.no_Net_routers, hl, q⟩
theorem ok_m_links (T : Txt K mg ca ia fa fd fi) : FnOk P w K mg base CX0 1 (ia 102) (fi 102) ["self"] (getSp (ca 20) "_links") := by
  refine T.F_m_links.ok sc_m_links (fun vs H Q E h => ?_) (fun cdv A outer s H vs Q E hr h => ?_)
  · obtain ⟨a, dx, fs, v, rfl, _⟩ := h
    rfl
  · obtain ⟨a, dx, fs, v, rfl, ha, hl, q⟩ := h
    exact ⟨_, (pss_one (ps_ret (pe_fld (pv 0) rfl))), _, rfl, a, _, dx, fs, v, rfl, ha, T.cl_Net, T.no_Net_links, hl, q⟩
/-- one of the routers -/
def inR (x : V) (zs : List Str) : Prop := ∃ z ∈ zs, x = .str z
theorem any_isStr {x : V} {zs : List Str} : zs.any (isStr x) = true ↔ inR x zs := by
  rw [List.any_eq_true]
  constructor
  · rintro ⟨z, hz, e⟩
    unfold isStr at e
    split at e
    · rename_i y
      exact ⟨z, hz, by rw [of_decide_eq_true e]⟩
    · cases e
  · rintro ⟨z, hz, rfl⟩
    exact ⟨z, hz, decide_eq_true rfl⟩
/-- need_router(net, x): x any told value; N: the class NoRouter -/
def spNeed1 {K : PySem.W.Frag} (C N : Addr) : Sp := fun vs H Q E => ∃ (n r l : Addr) (zs : List Str) (x : V), vs = [.ref n, x] ∧ NetO C H n r l ∧ H r = some (.tup (zs.map V.str)) ∧ Odd K H x ∧
  (inR x zs → Q .non H) ∧ (¬ inR x zs → ∀ d H', Same H H' → H' d = some (.xd [("value", x)]) → E (.ref N) (some d) H')
def spNeed2 {K : PySem.W.Frag} (C N : Addr) : Sp := fun vs H Q E => ∃ (n r l : Addr) (zs : List Str) (x y : V), vs = [.ref n, x, y] ∧ NetO C H n r l ∧ H r = some (.tup (zs.map V.str)) ∧ Odd K H x ∧ Odd K H y ∧
  (inR x zs → inR y zs → Q .non H) ∧ (¬ inR x zs → ∀ d H', Same H H' → H' d = some (.xd [("value", x)]) → E (.ref N) (some d) H') ∧
  (inR x zs → ¬ inR y zs → ∀ d H', Same H H' → H' d = some (.xd [("value", y)]) → E (.ref N) (some d) H')
theorem ok_need_router (T : Txt K mg ca ia fa fd fi) : FnOk P w K mg base (L2.CX P w) 3 (fa 22) (fd 22) ["net", "value"] (spNeed1 (K := K) (ca 20) (ca 4)) := by
  have G_m_routers := ok_m_routers (P := P) (w := w) (base := base) T
  obtain ⟨pr, hp_routers⟩ := T.P_routers
  refine T.F_need_router.okX sc_need_router (fun vs H Q E h => ?_) (fun cdv A outer s H vs Q E hr h => ?_)
  · obtain ⟨n, r, l, zs, a, rfl, _⟩ := h
    rfl
  · obtain ⟨n, r, l, zs, x, rfl, ⟨dx, hn⟩, hz, hx, q, q2⟩ := h
    refine ⟨_, (pss_one (ps_if (pt_cmpR (op_notInO (roomU1 hr)) (pv 1) (pe_prop (pv 0) T.cl_Net hp_routers G_m_routers (hr.mono (by decide)) T.b_m_routers .nil pass0 rfl) rfl) (pss_one (ps_raise rfl (takes_of rfl rfl rfl rfl) (pmk_oex T.c_NoRouter.oex T.iC_NoRouter T.tI_NoRouter (in_NoRouter T) (hr.mono (by decide)) T.bi_NoRouter .nil pass0 rfl T.c_NoRouter.g (pa_cons (pv 1) pa_nil)))) pss_nil)), ?_⟩
    refine ⟨_, rfl, _, rfl, n, dx, _, rfl, hn, n, dx, _, _, rfl, hn, rfl, r, zs, rfl, SqT.of hz, hx, _, rfl, ?_⟩
    refine ite2 (fun e => ?_) fun e => ?_
    · have no : ¬ inR x zs := fun z => by
        have e2 : (!(zs.any (isStr x))) = true := e
        rw [any_isStr.mpr z] at e2
        cases e2
      exact ⟨_, rfl, oexc fun d H' s e => q2 no d H' s e⟩
    · have yes : inR x zs := by
        refine any_isStr.mp ?_
        have e2 : ¬ (!(zs.any (isStr x))) = true := e
        cases z : zs.any (isStr x)
        · rw [z] at e2
          exact absurd rfl e2
        · rfl
      exact q yes
theorem ok_need_routers (T : Txt K mg ca ia fa fd fi) : FnOk P w K mg base (L2.CX P w) 4 (fa 21) (fd 21) ["net", "a", "b"] (spNeed2 (K := K) (ca 20) (ca 4)) := by
  have G_need_router := ok_need_router (P := P) (w := w) (base := base) T
  refine T.F_need_routers.okX sc_need_routers (fun vs H Q E h => ?_) (fun cdv A outer s H vs Q E hr h => ?_)
  · obtain ⟨n, r, l, zs, a, b, rfl, _⟩ := h
    rfl
  · obtain ⟨n, r, l, zs, x, y, rfl, hn, hz, hx, hy, q, q1, q2⟩ := h
    refine ⟨_, (pss_cons (ps_expr (pe_call G_need_router (hr.mono (by decide)) rfl T.g_need_router T.k_need_router T.b_need_router .nil (passes_call (takes_of rfl rfl rfl rfl) fun _ _ _ _ h => h) (pa_cons (pv 0) (pa_cons (pv 1) pa_nil))))
      (pss_one (ps_expr (pe_call G_need_router (hr.mono (by decide)) rfl T.g_need_router T.k_need_router T.b_need_router .nil (passes_call (takes_of rfl rfl rfl rfl) fun _ _ _ _ h => h) (pa_cons (pv 0) (pa_cons (pv 2) pa_nil)))))), ?_⟩
    exact ⟨_, rfl, _, rfl, n, r, l, zs, x, rfl, hn, hz, hx, fun ix => nxt ⟨_, rfl, _, rfl, n, r, l, zs, y, rfl, hn, hz, hy, fun iy => q ix iy, fun ny => q2 ix ny⟩, q1⟩
end
end Toy
set_option Elab.async false
set_option linter.all false
set_option maxRecDepth 100000
set_option maxHeartbeats 4000000
namespace Toy
open PySem L2 Q RZ D7
abbrev linkI (a b : Str) (x y : Int) : List Key := [.inr a, .inr b, .inl x, .inl y]
theorem lks_irr : ∀ k : List Key, ksLt k k = false
  | [] => rfl
  | a :: as => by
    unfold ksLt
    rw [if_pos rfl]
    exact lks_irr as
/-- a net with its routers and links -/
structure NetW (C : Addr) (H : Hp) (n r l : Addr) (zs : List Str) (ls : List (Addr × List Key)) : Prop where
  net : NetO C H n r l
  rt : H r = some (.tup (zs.map V.str))
  ok : RtOk zs
  pw : zs.Pairwise tLt
  lk : Lks H zs l ls
  m : ls.length ≤ 16
section
variable {C : Addr} {H H' : Hp} {n r l : Addr} {zs : List Str} {ls : List (Addr × List Key)}
theorem NetW.same (h : NetW C H n r l zs ls) (s : Same H H') : NetW C H' n r l zs ls := ⟨h.net.same s, s _ _ h.rt, h.ok, h.pw, h.lk.same s, h.m⟩
theorem NetW.low (h : NetW C H n r l zs ls) {a : Str} (ha : a ∈ zs) : Low a := (h.ok.2.2 a ha).2.2
theorem Lks.nd (h : Lks H zs l ls) : (ls.map fun q => q.2.take 2).Nodup := by
  refine List.pairwise_map.mpr (h.up.imp fun {x y} e z => ?_)
  have e2 : ksLt (x.2.take 2) (y.2.take 2) = true := e
  rw [z, lks_irr] at e2
  cases e2
theorem nd_same {α β : Type} {f : α → β} {l : List α} (nd : (l.map f).Nodup) {i j : Nat} {x y : α} (hx : l[i]? = some x) (hy : l[j]? = some y) (e : f x = f y) : i = j := by
  obtain ⟨h1, rfl⟩ := List.getElem?_eq_some_iff.mp hx
  obtain ⟨h2, rfl⟩ := List.getElem?_eq_some_iff.mp hy
  have l1 : i < (l.map f).length := by rw [List.length_map]; exact h1
  have l2 : j < (l.map f).length := by rw [List.length_map]; exact h2
  exact (List.getElem_inj (h₀ := l1) (h₁ := l2) nd).mp (by rw [List.getElem_map, List.getElem_map]; exact e)
end
/-- how one link leads -/
def LkOf (k : List Key) (a m : Str) (x : Int) : Prop := ∃ u v x' y', k = linkI u v x' y' ∧ ((a = u ∧ m = v ∧ x = x') ∨ (a = v ∧ m = u ∧ x = y'))
def LkR (ls : List (Addr × List Key)) : LK := fun a m x => ∃ q ∈ ls, LkOf q.2 a m x
theorem lk_bound {zs : List Str} : ∀ {ls : List (Addr × List Key)}, (∀ q ∈ ls, LkOk zs q.2) → ∃ L : Int, 0 ≤ L ∧ ∀ a m x, LkR ls a m x → a ∈ zs ∧ m ∈ zs ∧ 1 ≤ x ∧ x ≤ L
  | [], _ => ⟨0, Int.le_refl _, fun _ _ _ ⟨q, hq, _⟩ => nomatch hq⟩
  | p :: ls, h => by
    obtain ⟨L, l0, hL⟩ := lk_bound (ls := ls) fun q hq => h q (List.mem_cons_of_mem _ hq)
    obtain ⟨u, v, x, y, e, hu, hv, _, x1, y1⟩ := h p List.mem_cons_self
    refine ⟨L + x + y, by omega, fun a m z hz => ?_⟩
    obtain ⟨q, hq, lk⟩ := hz
    rcases List.mem_cons.mp hq with rfl | hq
    · obtain ⟨u', v', x', y', e2, c⟩ := lk
      rw [e] at e2
      cases e2
      rcases c with ⟨rfl, rfl, rfl⟩ | ⟨rfl, rfl, rfl⟩
      · exact ⟨hu, hv, by omega, by omega⟩
      · exact ⟨hv, hu, by omega, by omega⟩
    · obtain ⟨q1, q2, q3, q4⟩ := hL a m z ⟨q, hq, lk⟩
      exact ⟨q1, q2, q3, by omega⟩
theorem NetW.rel {C : Addr} {H : Hp} {n r l : Addr} {zs : List Str} {ls : List (Addr × List Key)} (h : NetW C H n r l zs ls) : ∃ L, RelOk (LkR ls) zs L := by
  obtain ⟨L, l0, hL⟩ := lk_bound fun q hq => (h.lk.el q hq).2
  exact ⟨L, h.ok.2.1, l0, hL⟩
/-- net.length(x, y) of any told values -/
def spLen {K : PySem.W.Frag} (C N : Addr) : Sp := fun vs H Q E => ∃ (n r l : Addr) (zs : List Str) (ls : List (Addr × List Key)) (x y : V), vs = [.ref n, x, y] ∧ NetW C H n r l zs ls ∧ Odd K H x ∧ Odd K H y ∧
  (∀ a b, x = .str a → y = .str b → a ∈ zs → b ∈ zs → ∀ v H', Same H H' → ((∃ t : Int, v = .int t ∧ LkR ls a b t) ∨ (v = .non ∧ ∀ t : Int, ¬ LkR ls a b t)) → Q v H') ∧
  (¬ inR x zs → ∀ d H', Same H H' → H' d = some (.xd [("value", x)]) → E (.ref N) (some d) H') ∧
  (inR x zs → ¬ inR y zs → ∀ d H', Same H H' → H' d = some (.xd [("value", y)]) → E (.ref N) (some d) H')
section
variable {P : Program} {w : World} {K : PySem.W.Frag} {mg : Str → Option Value} {base : Heap} {ca ia fa : Nat → Addr} {fd fi : Nat → FuncData}
theorem dp_pair {H : Hp} {t : Addr} {a b : Str} (h : H t = some (.tup [.str a, .str b])) : Dp K H (.ref t) (.tuple [.str a, .str b]) := .tup (SqT.of h) (.cons (.str a) (.cons (.str b) .nil))
theorem ok_m_length (T : Txt K mg ca ia fa fd fi) : FnOk P w K mg base (L2.CX P w) 5 (ia 104) (fi 104) ["self", "a", "b"] (spLen (K := K) (ca 20) (ca 4)) := by
  have G_need_routers := ok_need_routers (P := P) (w := w) (base := base) T
  have G_m_links := ok_m_links (P := P) (w := w) (base := base) T
  obtain ⟨pl, hp_links⟩ := T.P_links
  refine T.F_m_length.okX sc_m_length (fun vs H Q E h => ?_) (fun cdv A outer s H vs Q E hr h => ?_)
  · obtain ⟨n, r, l, zs, ls, x, y, rfl, _⟩ := h
    rfl
  · obtain ⟨n, r, l, zs, ls, x, y, rfl, hw, ox, oy, k, k1, k2⟩ := h
    refine ⟨_, (pss_cons (ps_expr (pe_call G_need_routers (hr.mono (by decide)) rfl T.g_need_routers T.k_need_routers T.b_need_routers .nil (passes_call (takes_of rfl rfl rfl rfl) fun _ _ _ _ h => h) (pa_cons (pv 0) (pa_cons (pv 1) (pa_cons (pv 2) pa_nil)))))
      (pss_cons (ps_for (passes_of rfl) rfl (pi_tup (pe_prop (pv 0) T.cl_Net hp_links G_m_links (hr.mono (by decide)) T.b_m_links .nil pass0 rfl)) (pg_tup rfl (pgs_cons (pg_name (i := 3) sc_m_length.nd rfl (Or.inl rfl)) (pgs_cons (pg_name (i := 4) sc_m_length.nd rfl (Or.inl rfl)) (pgs_cons (pg_name (i := 5) sc_m_length.nd rfl (Or.inl rfl)) (pgs_cons (pg_name (i := 6) sc_m_length.nd rfl (Or.inl rfl)) pgs_nil))))) (pss_cons (ps_if (pt_cmpR (op_eqD hr.units) (pe_tup (pa_cons (pv 1) (pa_cons (pv 2) pa_nil))) (pe_tup (pa_cons (pv 3) (pa_cons (pv 4) pa_nil))) (nomark _)) (pss_one (ps_ret (pv 5))) pss_nil)
      (pss_one (ps_if (pt_cmpR (op_eqD hr.units) (pe_tup (pa_cons (pv 2) (pa_cons (pv 1) pa_nil))) (pe_tup (pa_cons (pv 3) (pa_cons (pv 4) pa_nil))) (nomark _)) (pss_one (ps_ret (pv 6))) pss_nil))))
      (pss_one (ps_ret pe_non)))), ?_⟩
    obtain ⟨dx, hn⟩ := hw.net
    refine ⟨_, rfl, _, rfl, _, rfl, n, r, l, zs, x, y, rfl, hw.net, hw.rt, ox, oy, fun ix iy => ?_, k1, k2⟩
    obtain ⟨a, ha, rfl⟩ := ix
    obtain ⟨b, hb, rfl⟩ := iy
    have k := k a b rfl rfl ha hb
    refine nxt ?_
    refine ⟨_, rfl, n, dx, _, rfl, hn, n, dx, _, _, rfl, hn, rfl, l, rfl, ⟨_, SqT.of hw.lk.at_⟩, ?_⟩
    refine for_it (walk_tup (xs := ls.map fun q => V.ref q.1)) (fun i σ H' => (∀ q ∈ ls.take i, ∀ t : Int, ¬ LkOf q.2 a b t) ∧ Same H H' ∧ ∃ x3 x4 x5 x6 : Option V, σ = [some (.ref n), some (.str a), some (.str b), x3, x4, x5, x6]) ⟨fun q hq => (nomatch hq), Same.refl H, none, none, none, none, rfl⟩ (fun i σ H' _ z => SqT.of (z.2.1 _ _ hw.lk.at_)) ?_ ?_
    · rintro i x σ H1 H2 hi ⟨ij, s1, x3, x4, x5, x6, rfl⟩ ⟨rfl, hx⟩
      obtain ⟨p, hp, rfl⟩ := at_map hx
      have mp := List.mem_of_getElem? hp
      obtain ⟨ep, c, d, cx, cy, e3, hc, hd, cd, _⟩ := hw.lk.el p mp
      rw [e3] at ep
      refine ⟨p.1, _, rfl, SqT.of (s1 _ _ ep), rfl, _, _, rfl, _, _, rfl, _, _, rfl, _, _, rfl, rfl, ?_⟩
      refine ⟨_, rfl, _, rfl, (by show 2 ≤ sizeLine; decide), fun t1 n1 => ⟨_, rfl, _, rfl, (by show 2 ≤ sizeLine; decide), fun t2 n2 => ?_⟩⟩
      have la := hw.low ha
      have lb := hw.low hb
      have lc := hw.low hc
      have ld := hw.low hd
      have s3 : Same H (upd (upd H2 t1 (.tup [.str a, .str b])) t2 (.tup [.str c, .str d])) := (s1.trans (same_new n1)).trans (same_new n2)
      refine ⟨_, _, dp_pair (same_new n2 _ _ upd_same), dp_pair upd_same, pair_shaped la lb, pair_shaped lc ld, _, rfl, ite2 (fun e1 => ?_) fun e1 => ?_⟩
      · have e2 := of_decide_eq_true ((pair_eqv a b c d).symm.trans e1)
        cases e2
        exact ⟨_, rfl, k _ _ s3 (.inl ⟨cx, rfl, p, mp, a, b, cx, cy, e3, .inl ⟨rfl, rfl, rfl⟩⟩)⟩
      · refine nxt ?_
        refine stepH (fun H3 => Same H H3) s3 fun H3 s3 => ?_
        refine ⟨_, rfl, _, rfl, (by show 2 ≤ sizeLine; decide), fun t3 n3 => ⟨_, rfl, _, rfl, (by show 2 ≤ sizeLine; decide), fun t4 n4 => ?_⟩⟩
        have s4 : Same H (upd (upd H3 t3 (.tup [.str b, .str a])) t4 (.tup [.str c, .str d])) := (s3.trans (same_new n3)).trans (same_new n4)
        refine ⟨_, _, dp_pair (same_new n4 _ _ upd_same), dp_pair upd_same, pair_shaped lb la, pair_shaped lc ld, _, rfl, ite2 (fun e2 => ?_) fun e2 => ?_⟩
        · have e2 := of_decide_eq_true ((pair_eqv b a c d).symm.trans e2)
          cases e2
          exact ⟨_, rfl, k _ _ s4 (.inl ⟨cy, rfl, p, mp, b, a, cx, cy, e3, .inr ⟨rfl, rfl, rfl⟩⟩)⟩
        · refine nxt ⟨fun q hq t lk => ?_, s4, _, _, _, _, rfl⟩
          rw [List.take_add_one (l := ls), show ls[i]? = some p from hp] at hq
          rcases List.mem_append.mp hq with hq | hq
          · exact ij q hq t lk
          · obtain rfl : q = p := by simpa using hq
            obtain ⟨u, v, x', y', e5, z⟩ := lk
            rw [e3] at e5
            cases e5
            rcases z with ⟨rfl, rfl, _⟩ | ⟨rfl, rfl, _⟩
            · exact e1 ((pair_eqv a b a b).trans (decide_eq_true rfl))
            · exact e2 ((pair_eqv b a b a).trans (decide_eq_true rfl))
    · rintro σ H1 ⟨ij, s1, x3, x4, x5, x6, rfl⟩
      rw [List.length_map, List.take_length] at ij
      exact nxt (k _ _ s1 (.inr ⟨rfl, fun t ⟨q, hq, lk⟩ => ij q hq t lk⟩))
end
end Toy
set_option Elab.async false
set_option linter.all false
set_option maxRecDepth 100000
set_option maxHeartbeats 8000000
namespace Toy
open PySem L2 Q RZ D7 TL
/-! ### the text of a net -/
def tRowS : TE := fun σ H Q => tJs [tC (V.str (Str.ofString "link ")), tFmt (tVar 2), tC (V.str (Str.ofString " ")), tFmt (tVar 3), tC (V.str (Str.ofString " ")), tFmt (tVar 4), tC (V.str (Str.ofString " ")), tFmt (tVar 5)] Str.empty σ H fun out H1 => Q (V.str out) H1
abbrev tx (s : String) : Str := Str.ofString s
def num (n : Nat) : Str := Str.ofString (toString (n : Int))
/-- a row, its words separated by a space -/
def wrd (ws : List Str) : Str := Txt.join (tx " ") ws
def linkW (a b : Str) (x y : Nat) : List Str := [tx "link", a, b, num x, num y]
def netW (zs : List Str) : List Str := tx "routers" :: zs
/-- without this sign -/
def Free (s : Nat) (z : Str) : Prop := s ∉ tl z
theorem free_name {s : Nat} (h : s < 97) {z : Str} (n : Low z) : Free s z := fun m => by
  have := (n s m).1
  omega
theorem free_num {s : Nat} (h : s < 48) (n : Nat) : Free s (num n) := by
  unfold Free num
  rw [tl_num]
  exact numL_free (.inl h)
theorem free_link {s : Nat} (h : s < 97) : Free s (tx "link") := by
  have e : tl (tx "link") = [108, 105, 110, 107] := by decide +kernel
  unfold Free
  rw [e]
  simp
  omega
theorem free_routers {s : Nat} (h : s < 97) : Free s (tx "routers") := by
  have e : tl (tx "routers") = [114, 111, 117, 116, 101, 114, 115] := by decide +kernel
  unfold Free
  rw [e]
  simp
  omega
theorem sp_tl : tl (tx " ") = [32] := by decide +kernel
theorem lf_tl : tl (tx "\n") = [10] := by decide +kernel
theorem split_wrd {ws : List Str} (ne : ws ≠ []) (h : ∀ z ∈ ws, Free 32 z) : Txt.split (wrd ws) (tx " ") = ws := split_join sp_tl (by decide +kernel) ne h
theorem split_rows {rs : List Str} (ne : rs ≠ []) (h : ∀ z ∈ rs, Free 10 z) : Txt.split (Txt.join (tx "\n") rs) (tx "\n") = rs := split_join lf_tl (by decide +kernel) ne h
theorem joinL_mem {S : List Nat} {c : Nat} : ∀ {ps : List (List Nat)}, c ∈ joinL S ps → c ∈ S ∨ ∃ p ∈ ps, c ∈ p
  | [], h => (nomatch h)
  | [p], h => .inr ⟨p, List.mem_cons_self, h⟩
  | p :: q :: r, h => by
    have h : c ∈ p ++ (S ++ joinL S (q :: r)) := h
    rcases List.mem_append.mp h with h | h
    · exact .inr ⟨p, List.mem_cons_self, h⟩
    · rcases List.mem_append.mp h with h | h
      · exact .inl h
      · exact (joinL_mem h).imp id fun ⟨p', m, h⟩ => ⟨p', List.mem_cons_of_mem _ m, h⟩
theorem free_wrd {ws : List Str} (h : ∀ z ∈ ws, Free 10 z) : Free 10 (wrd ws) := fun m => by
  unfold wrd at m
  rw [join_eq, tl_join, sp_tl] at m
  rcases joinL_mem m with m | ⟨p, hp, m⟩
  · simp at m
  · obtain ⟨z, hz, rfl⟩ := List.mem_map.mp hp
    exact h z hz m
/-- the words of a link are told apart -/
theorem link_parts {a b : Str} (ha : NameOk a) (hb : NameOk b) (x y : Nat) {s : Nat} (h : s < 48) : ∀ z ∈ linkW a b x y, Free s z := fun z hz => by
  unfold linkW at hz
  simp only [List.mem_cons, List.not_mem_nil, or_false] at hz
  rcases hz with rfl | rfl | rfl | rfl | rfl
  · exact free_link (by omega)
  · exact free_name (by omega) ha.2.2
  · exact free_name (by omega) hb.2.2
  · exact free_num h _
  · exact free_num h _
theorem net_parts {zs : List Str} (nok : ∀ z ∈ zs, NameOk z) {s : Nat} (h : s < 48) : ∀ z ∈ netW zs, Free s z := fun z hz => by
  rcases List.mem_cons.mp hz with rfl | hz
  · exact free_routers (by omega)
  · exact free_name (by omega) (nok z hz).2.2
/-- the first sign of a number from 1 on is no nought -/
theorem numL_head {n : Nat} : 1 ≤ n → ∃ c l, numL n = c :: l ∧ c ≠ 48 := by
  induction n using Nat.strongRecOn with
  | _ n ih =>
    intro h
    by_cases l : n < 10
    · exact ⟨48 + n, [], numL_lt l, by omega⟩
    · obtain ⟨c, r, e, ne⟩ := ih (n / 10) (by omega) (by omega)
      exact ⟨c, r ++ [48 + n % 10], by rw [numL_step (by omega), e]; rfl, ne⟩
theorem num_tl (n : Nat) : tl (num n) = numL n := tl_num n
theorem num_len {n : Nat} (h : n < 1000000000) : 1 ≤ (num n).length ∧ (num n).length ≤ 9 := by
  rw [len_tl, num_tl]
  exact ⟨List.length_pos_iff.mpr (numL_ne n), numL_len (k := 9) (by decide) h⟩
theorem num_int {n : Nat} (h : n < 1000000000) : intText? (num n) = some (n : Int) := int_num (by have := numL_len (k := 9) (by decide) h; omega)
theorem num_log {n : Nat} (h : n < 1000000000) : (n : Int).natAbs.log2 < 1920 := by
  rw [Int.natAbs_natCast]
  by_cases z : n = 0
  · subst z
    decide
  · exact (Nat.log2_lt z).mpr (Nat.lt_trans h (by decide +kernel))
/-! the two ways to write a link -/
theorem wrd_link (a b : Str) (x y : Nat) : wrd (linkW a b x y) = tx "link " ++ a ++ tx " " ++ b ++ tx " " ++ num x ++ tx " " ++ num y := by
  refine ext_tl ?_
  unfold wrd linkW
  rw [join_eq, tl_join, sp_tl]
  simp only [tl_append, List.map_cons, List.map_nil, joinL, sp_tl]
  have e1 : tl (tx "link ") = tl (tx "link") ++ [32] := by decide +kernel
  rw [e1]
  simp only [List.append_assoc, List.cons_append, List.nil_append]
theorem wrd_net {zs : List Str} (ne : zs ≠ []) : wrd (netW zs) = tx "routers " ++ wrd zs := by
  match zs, ne with
  | z :: zs, _ =>
    refine ext_tl ?_
    unfold wrd netW
    rw [join_eq, join_eq, tl_append, tl_join, tl_join, sp_tl]
    have e1 : tl (tx "routers ") = tl (tx "routers") ++ [32] := by decide +kernel
    rw [e1]
    simp only [List.map_cons, joinL, List.append_assoc, List.cons_append, List.nil_append]
/-! lengths -/
theorem joinL_len (S : List Nat) : ∀ ps : List (List Nat), (joinL S ps).length ≤ (ps.map List.length).sum + ps.length * S.length
  | [] => Nat.zero_le _
  | [p] => by
    show p.length ≤ _
    simp
  | p :: q :: r => by
    have ih := joinL_len S (q :: r)
    show (p ++ (S ++ joinL S (q :: r))).length ≤ _
    rw [List.length_append, List.length_append, List.map_cons, List.sum_cons, List.length_cons, Nat.succ_mul]
    omega
theorem wrd_len {ws : List Str} {m : Nat} (h : ∀ z ∈ ws, z.length ≤ m) : (wrd ws).length ≤ ws.length * (m + 1) := by
  unfold wrd
  rw [len_tl, join_eq, tl_join, sp_tl]
  refine Nat.le_trans (joinL_len _ _) ?_
  have : ∀ l : List Str, (∀ z ∈ l, z.length ≤ m) → ((l.map tl).map List.length).sum ≤ l.length * m := fun l => by
    induction l with
    | nil => intro _; exact Nat.zero_le _
    | cons z l ih =>
      intro h
      have := ih fun y hy => h y (List.mem_cons_of_mem _ hy)
      have hz := h z List.mem_cons_self
      rw [len_tl] at hz
      rw [List.map_cons, List.map_cons, List.sum_cons, List.length_cons, Nat.succ_mul]
      omega
  have := this ws h
  rw [List.length_map, List.length_singleton, Nat.mul_add]
  omega
theorem sum_le {ws : List Str} {m : Nat} : (∀ z ∈ ws, z.length ≤ m) → (ws.map (·.length)).sum ≤ ws.length * m := by
  induction ws with
  | nil => intro _; exact Nat.zero_le _
  | cons z l ih =>
    intro h
    have := ih fun y hy => h y (List.mem_cons_of_mem _ hy)
    have hz := h z List.mem_cons_self
    rw [List.map_cons, List.sum_cons, List.length_cons, Nat.succ_mul]
    omega
theorem link_len {a b : Str} (ha : NameOk a) (hb : NameOk b) {x y : Nat} (hx : x < 1000000000) (hy : y < 1000000000) : ∀ z ∈ linkW a b x y, z.length ≤ 9 := fun z hz => by
  unfold linkW at hz
  simp only [List.mem_cons, List.not_mem_nil, or_false] at hz
  rcases hz with rfl | rfl | rfl | rfl | rfl
  · decide +kernel
  · have := ha.2.1; omega
  · have := hb.2.1; omega
  · exact (num_len hx).2
  · exact (num_len hy).2
theorem net_len {zs : List Str} (nok : ∀ z ∈ zs, NameOk z) : ∀ z ∈ netW zs, z.length ≤ 9 := fun z hz => by
  rcases List.mem_cons.mp hz with rfl | hz
  · decide +kernel
  · have := (nok z hz).2.1; omega
/-- the row of a link by its parts -/
def rowW (k : List Key) : Str := match k with
  | [.inr a, .inr b, .inl x, .inl y] => wrd (linkW a b x.toNat y.toNat)
  | _ => Str.empty
def rowsW (zs : List Str) (ls : List (Addr × List Key)) : List Str := wrd (netW zs) :: ls.map fun q => rowW q.2
def pageW (zs : List Str) (ls : List (Addr × List Key)) : Str := Txt.join (tx "\n") (rowsW zs ls)
/-- a link with lengths of nine figures at the most -/
def Lk9 (zs : List Str) (k : List Key) : Prop := ∃ (a b : Str) (x y : Nat), k = [.inr a, .inr b, .inl (x : Int), .inl (y : Int)] ∧ NameOk a ∧ NameOk b ∧ 1 ≤ x ∧ 1 ≤ y ∧ x < 1000000000 ∧ y < 1000000000
theorem row_eq {a b : Str} {x y : Nat} : rowW [.inr a, .inr b, .inl (x : Int), .inl (y : Int)] = wrd (linkW a b x y) := by
  show wrd (linkW a b (x : Int).toNat (y : Int).toNat) = _
  rw [Int.toNat_natCast, Int.toNat_natCast]
theorem rows_free {zs : List Str} {ls : List (Addr × List Key)} (nok : ∀ z ∈ zs, NameOk z) (h : ∀ q ∈ ls, Lk9 zs q.2) : ∀ r ∈ rowsW zs ls, Free 10 r := fun r hr => by
  rcases List.mem_cons.mp hr with rfl | hr
  · exact free_wrd (net_parts nok (by decide))
  · obtain ⟨q, hq, rfl⟩ := List.mem_map.mp hr
    obtain ⟨a, b, x, y, e, ha, hb, _⟩ := h q hq
    rw [e, row_eq]
    exact free_wrd (link_parts ha hb x y (by decide))
theorem rows_long {zs : List Str} {ls : List (Addr × List Key)} (z8 : zs.length ≤ 8) (nok : ∀ z ∈ zs, NameOk z) (h : ∀ q ∈ ls, Lk9 zs q.2) : ∀ r ∈ rowsW zs ls, r.length ≤ 90 := fun r hr => by
  rcases List.mem_cons.mp hr with rfl | hr
  · have := wrd_len (net_len nok)
    unfold netW at this ⊢
    rw [List.length_cons] at this
    omega
  · obtain ⟨q, hq, rfl⟩ := List.mem_map.mp hr
    obtain ⟨a, b, x, y, e, ha, hb, _, _, hx, hy⟩ := h q hq
    rw [e, row_eq]
    have := wrd_len (link_len ha hb hx hy)
    have e5 : (linkW a b x y).length = 5 := rfl
    omega
theorem page_len {zs : List Str} {ls : List (Addr × List Key)} (z8 : zs.length ≤ 8) (nok : ∀ z ∈ zs, NameOk z) (h : ∀ q ∈ ls, Lk9 zs q.2) (few : ls.length ≤ 16) : (pageW zs ls).length ≤ 17 * 91 := by
  unfold pageW
  rw [len_tl, join_eq, tl_join, lf_tl]
  refine Nat.le_trans (joinL_len _ _) ?_
  have s := sum_le (rows_long z8 nok h)
  have e : (((rowsW zs ls).map tl).map List.length) = (rowsW zs ls).map (·.length) := by
    rw [List.map_map]
    exact List.map_congr_left fun z _ => (len_tl z).symm
  rw [e, List.length_map]
  have l : (rowsW zs ls).length ≤ 17 := by
    unfold rowsW
    rw [List.length_cons, List.length_map]
    omega
  have := Nat.mul_le_mul_right 90 l
  simp only [List.length_singleton, Nat.mul_one]
  omega
end Toy
set_option Elab.async false
set_option linter.all false
set_option maxRecDepth 100000
set_option maxHeartbeats 8000000
namespace Toy
open PySem L2 Q RZ D7 TL NumText
/-! ### what a text of any kind says of a net -/
def wordsOf (r : Str) : List Str := Txt.split r (tx " ")
def rowsOf (t : Str) : List Str := Txt.split t (tx "\n")
theorem spl_le (S : List Nat) (ne : S ≠ []) : ∀ (n : Nat) (l acc : List Nat), l.length ≤ n → (spl S 0 acc l).length ≤ l.length + 1 ∧ spl S 0 acc l ≠ [] ∧ ∀ p ∈ spl S 0 acc l, p.length ≤ acc.length + l.length
  | _, [], acc, _ => by
    rw [spl_nil]
    exact ⟨Nat.le_refl _, by simp, fun p hp => by rw [List.mem_singleton.mp hp]; simp⟩
  | 0, c :: r, acc, h => by
    rw [List.length_cons] at h
    omega
  | n + 1, c :: r, acc, h => by
    rw [List.length_cons] at h
    cases e : pre S (c :: r) with
    | true =>
      rw [spl_hit e, spl_pass]
      obtain ⟨h1, h2, h3⟩ := spl_le S ne n (r.drop (S.length - 1)) [] (by rw [List.length_drop]; omega)
      rw [List.length_drop] at h1
      refine ⟨by rw [List.length_cons, List.length_cons]; omega, by simp, fun p hp => ?_⟩
      rcases List.mem_cons.mp hp with rfl | hp
      · omega
      · have := h3 p hp
        rw [List.length_drop, List.length_nil] at this
        rw [List.length_cons]
        omega
    | false =>
      rw [spl_miss e]
      obtain ⟨h1, h2, h3⟩ := spl_le S ne n r (acc ++ [c]) (by omega)
      refine ⟨by rw [List.length_cons]; omega, h2, fun p hp => ?_⟩
      have := h3 p hp
      rw [List.length_append, List.length_singleton] at this
      rw [List.length_cons]
      omega
theorem split_le {r s : Str} {c : Nat} (es : tl s = [c]) (hc : s.cps.all (· < 256) = true) : (Txt.split r s).length ≤ r.length + 1 ∧ Txt.split r s ≠ [] ∧ ∀ p ∈ Txt.split r s, p.length ≤ r.length := by
  have e := split_spl r s (by rw [es]; simp) (kind_ok hc)
  obtain ⟨h1, h2, h3⟩ := spl_le (tl s) (by rw [es]; simp) (tl r).length (tl r) [] (Nat.le_refl _)
  rw [← e] at h1 h2 h3
  rw [List.length_map] at h1
  refine ⟨by rw [len_tl]; exact h1, fun z => h2 (by rw [z]; rfl), fun p hp => ?_⟩
  have := h3 _ (List.mem_map.mpr ⟨p, hp, rfl⟩)
  rw [len_tl, len_tl]
  simpa using this
theorem words_le (r : Str) : (wordsOf r).length ≤ r.length + 1 ∧ wordsOf r ≠ [] ∧ ∀ p ∈ wordsOf r, p.length ≤ r.length := split_le sp_tl (by decide +kernel)
theorem rows_le (t : Str) : (rowsOf t).length ≤ t.length + 1 ∧ rowsOf t ≠ [] ∧ ∀ p ∈ rowsOf t, p.length ≤ t.length := split_le lf_tl (by decide +kernel)
/-- the word of a number -/
def DigOk (w : Str) : Prop := ∀ c ∈ tl w, 48 ≤ c ∧ c ≤ 57
def NumOk (w : Str) : Prop := 1 ≤ w.length ∧ w.length ≤ 9 ∧ DigOk w ∧ (w = tx "0" ∨ ∀ c, (tl w).head? = some c → c ≠ 48)
def valW (w : Str) : Nat := digitsVal (tl w)
theorem val_int {w : Str} (h : NumOk w) : intText? w = some (valW w : Int) := by
  obtain ⟨h1, h2, h3, _⟩ := h
  refine intText_digits (x := w) h3 (fun z => ?_) (by omega)
  rw [len_tl] at h1
  have z : tl w = [] := z
  rw [z] at h1
  exact absurd h1 (by decide)
theorem digits_lt : ∀ (l : List Nat) (a k : Nat), AllDigits l → a < 10 ^ k → l.foldl (fun acc c => acc * 10 + (c - 48)) a < 10 ^ (k + l.length)
  | [], a, k, _, h => h
  | c :: r, a, k, hd, h => by
    have hc := hd.head
    rw [List.foldl_cons, List.length_cons, show k + (r.length + 1) = (k + 1) + r.length by omega]
    refine digits_lt r _ (k + 1) hd.tail ?_
    rw [Nat.pow_succ]
    omega
theorem val_lt {w : Str} (h : NumOk w) : valW w < 1000000000 := by
  obtain ⟨h1, h2, h3, _⟩ := h
  have := digits_lt (tl w) 0 0 h3 (by decide)
  rw [Nat.zero_add, ← len_tl] at this
  refine Nat.lt_of_lt_of_le this ?_
  calc 10 ^ w.length ≤ 10 ^ 9 := Nat.pow_le_pow_right (by decide) h2
    _ = 1000000000 := by decide
open Classical in
noncomputable def routersW (r : Str) : Option (List Str) := match wordsOf r with
  | w :: zs => if w = tx "routers" ∧ ∀ z ∈ zs, NameOk z then some zs else none
  | [] => none
open Classical in
noncomputable def linkQ (r : Str) : Option (List Key) := match wordsOf r with
  | [k, a, b, x, y] => if k = tx "link" ∧ NameOk a ∧ NameOk b ∧ NumOk x ∧ NumOk y then some [.inr a, .inr b, .inl (valW x : Int), .inl (valW y : Int)] else none
  | _ => none
/-- the links of rows up to the first one that is none -/
noncomputable def linksQ : List Str → List (List Key)
  | [] => []
  | r :: rs => match linkQ r with
    | some k => k :: linksQ rs
    | none => []
theorem linksQ_le : ∀ rs : List Str, (linksQ rs).length ≤ rs.length
  | [] => Nat.le_refl _
  | r :: rs => by
    unfold linksQ
    split
    · have := linksQ_le rs
      rw [List.length_cons, List.length_cons]
      omega
    · exact Nat.zero_le _
theorem linksQ_at : ∀ {rs : List Str} {i : Nat} {r : Str} {k : List Key}, rs[i]? = some r → i < (linksQ rs).length → linkQ r = some k → (linksQ rs)[i]? = some k
  | r0 :: rs, 0, r, k, h, _, e => by
    have h : r0 = r := by simpa using h
    unfold linksQ
    rw [h, e]
    rfl
  | r0 :: rs, i + 1, r, k, h, l, e => by
    unfold linksQ at l ⊢
    split at l
    · rename_i k0 e0
      exact linksQ_at (rs := rs) (i := i) (by simpa using h) (by simpa using l) e
    · simp at l
/-- the first i rows are links, and so on -/
theorem linksQ_go : ∀ {rs : List Str} {i : Nat} {r : Str}, rs[i]? = some r → i ≤ (linksQ rs).length → (linkQ r = none → (linksQ rs).length = i) ∧ (∀ k, linkQ r = some k → i < (linksQ rs).length)
  | r0 :: rs, 0, r, h, _ => by
    have h : r0 = r := by simpa using h
    subst h
    constructor
    · intro e
      unfold linksQ
      rw [e]
      rfl
    · intro k e
      unfold linksQ
      rw [e]
      exact Nat.succ_pos _
  | r0 :: rs, i + 1, r, h, l => by
    unfold linksQ at l ⊢
    split at l
    · rename_i k0 e0
      obtain ⟨h1, h2⟩ := linksQ_go (rs := rs) (i := i) (r := r) (by simpa using h) (by simpa using l)
      rw [List.length_cons]
      exact ⟨fun e => by rw [h1 e], fun k e => Nat.succ_lt_succ (h2 k e)⟩
    · simp at l
inductive Parse where
  | bad (i : Nat)
  | ok (zs : List Str) (kk : List (List Key))
noncomputable def parseR : List Str → Parse
  | [] => .bad 0
  | r :: rs => match routersW r with
    | none => .bad 0
    | some zs => if (linksQ rs).length = rs.length then .ok zs (linksQ rs) else .bad ((linksQ rs).length + 1)
noncomputable def parseW (t : Str) : Parse := parseR (rowsOf t)
theorem routersW_ok {r : Str} {zs : List Str} (h : routersW r = some zs) : (∀ z ∈ zs, NameOk z) ∧ wordsOf r = tx "routers" :: zs := by
  unfold routersW at h
  split at h
  · rename_i w ys e
    split at h
    · rename_i c
      injection h with h
      subst h
      exact ⟨c.2, by rw [e, c.1]⟩
    · cases h
  · cases h
theorem linkQ_ok {r : Str} {k : List Key} (h : linkQ r = some k) : ∃ (a b x y : Str), k = [.inr a, .inr b, .inl (valW x : Int), .inl (valW y : Int)] ∧ NameOk a ∧ NameOk b ∧ NumOk x ∧ NumOk y ∧ wordsOf r = [tx "link", a, b, x, y] := by
  unfold linkQ at h
  split at h
  · rename_i k0 a b x y e
    split at h
    · rename_i c
      injection h with h
      subst h
      exact ⟨a, b, x, y, rfl, c.2.1, c.2.2.1, c.2.2.2.1, c.2.2.2.2, by rw [e, c.1]⟩
    · cases h
  · cases h
theorem linksQ_ok : ∀ {rs : List Str}, ∀ k ∈ linksQ rs, ∃ r, linkQ r = some k
  | [], k, h => (nomatch h)
  | r :: rs, k, h => by
    unfold linksQ at h
    split at h
    · rename_i k0 e0
      rcases List.mem_cons.mp h with rfl | h
      · exact ⟨r, e0⟩
      · exact linksQ_ok k h
    · cases h
end Toy
set_option Elab.async false
set_option linter.all false
set_option maxRecDepth 100000
set_option maxHeartbeats 4000000
namespace Toy
open PySem L2 Q RZ D7
/-! ### data of every kind: is it a whole number, a length, a name -/
def intB : PyData → Bool
  | .int _ => true
  | _ => false
def boolB : PyData → Bool
  | .bool _ => true
  | _ => false
def strB : PyData → Bool
  | .str _ => true
  | _ => false
def tupB : PyData → Bool
  | .tuple _ => true
  | _ => false
section
variable {K : PySem.W.Frag} {H : Hp} {x : V} {d : PyData}
theorem _root_.Q.Dd.kits (h : Dd K H x d) : ∃ t, TyX K H x t ∧ PySem.W.kitOne K t (.type "int") = some (intB d || boolB d) ∧ PySem.W.kitOne K t (.type "bool") = some (boolB d) ∧ PySem.W.kitOne K t (.type "str") = some (strB d) ∧ PySem.W.kitOne K t (.type "tuple") = some (tupB d) := by
  cases h with
  | non => exact ⟨_, .base .non, rfl, rfl, rfl, rfl⟩
  | bl b => exact ⟨_, .base (.bl b), rfl, rfl, rfl, rfl⟩
  | int i => exact ⟨_, .base (.int i), rfl, rfl, rfl, rfl⟩
  | str z => exact ⟨_, .base (.str z), rfl, rfl, rfl, rfl⟩
  | lst h _ =>
    rcases h with (h | ⟨o, h⟩) | ⟨o, its, n, e, c, _⟩
    · exact ⟨_, .base (.lst h), rfl, rfl, rfl, rfl⟩
    · exact ⟨_, .base (.frz h), rfl, rfl, rfl, rfl⟩
    · exact ⟨_, .kList e c, rfl, rfl, rfl, rfl⟩
  | tup h _ =>
    rcases h with (h | ⟨o, h⟩) | ⟨o, its, n, e, c, _⟩
    · exact ⟨_, .base (.tup h), rfl, rfl, rfl, rfl⟩
    · exact ⟨_, .fTuple h, rfl, rfl, rfl, rfl⟩
    · exact ⟨_, .kTuple e c, rfl, rfl, rfl, rfl⟩
  | dic h _ _ => exact ⟨_, .base (.dK h), rfl, rfl, rfl, rfl⟩
/-- isinstance(x, c) of data -/
theorem isD {c : String} {b : Bool} {t : Value} {Q : VK} (ty : TyX K H x t) (e : PySem.W.kitOne K t (.type c) = some b) (q : Q (.bl b) H) : rIsi K [x, .ty c] H Q :=
  ⟨x, .ty c, t, .type c, b, rfl, .ty c, ty, e, q⟩
end
theorem ifB {c : Bool} {A B : Prop} (h1 : c = true → A) (h2 : c = false → B) : if c = true then A else B := by
  cases c
  · rw [if_neg Bool.false_ne_true]
    exact h2 rfl
  · rw [if_pos rfl]
    exact h1 rfl
/-- a whole number from l on -/
def fromB : PyData → Int → Bool
  | .int i, l => decide (l ≤ i)
  | _, _ => false
theorem fromB_no {d : PyData} {l : Int} (h : intB d = false) : fromB d l = false := by
  cases d <;> first | rfl | cases h
theorem intB_of {K : PySem.W.Frag} {H : Hp} {x : V} {d : PyData} (h : Dd K H x d) (e : intB d = true) : ∃ i, x = .int i ∧ d = .int i := by
  cases h <;> first | exact ⟨_, rfl, rfl⟩ | cases e
theorem strB_of {K : PySem.W.Frag} {H : Hp} {x : V} {d : PyData} (h : Dd K H x d) (e : strB d = true) : ∃ z, x = .str z ∧ d = .str z := by
  cases h <;> first | exact ⟨_, rfl, rfl⟩ | cases e
theorem tupB_of {K : PySem.W.Frag} {H : Hp} {x : V} {d : PyData} (h : Dd K H x d) (e : tupB d = true) : ∃ a xs ds, x = .ref a ∧ d = .tuple ds ∧ SqT K H a xs ∧ DdAll K H xs ds := by
  cases h with
  | tup h a => exact ⟨_, _, _, rfl, rfl, h, a⟩
  | _ => cases e
def spIntA (K : PySem.W.Frag) : Sp := fun vs H Q _ => ∃ (v : V) (d : PyData), vs = [v] ∧ Dd K H v d ∧ Q (.bl (intB d)) H
def spFromA (K : PySem.W.Frag) : Sp := fun vs H Q _ => ∃ (v : V) (d : PyData) (l : Int), vs = [v, .int l] ∧ Dd K H v d ∧ Q (.bl (fromB d l)) H
def spLengthA (K : PySem.W.Frag) : Sp := fun vs H Q _ => ∃ (v : V) (d : PyData), vs = [v] ∧ Dd K H v d ∧ Q (.bl (fromB d 1)) H
/-- a name, as data -/
def NameD (d : PyData) : Prop := ∃ z, d = .str z ∧ NameOk z
abbrev TxOk (d : PyData) : Prop := ∀ z, d = .str z → z.length ≤ 1000000
def spNameA (K : PySem.W.Frag) : Sp := fun vs H Q _ => ∃ (v : V) (d : PyData), vs = [v] ∧ Dd K H v d ∧ TxOk d ∧ ∀ b : Bool, (b = true ↔ NameD d) → ∀ H', Same H H' → Q (.bl b) H'
section
variable {P : Program} {w : World} {K : PySem.W.Frag} {mg : Str → Option Value} {base : Heap} {ca ia fa : Nat → Addr} {fd fi : Nat → FuncData}
theorem ok_integerA (T : Txt K mg ca ia fa fd fi) : FnOk P w K mg base CX0 1 (fa 9) (fd 9) ["value"] (spIntA K) := by
  refine T.F_is_integer.ok sc_is_integer (fun vs H Q E h => ?_) (fun cdv A outer s H vs Q E hr h => ?_)
  · obtain ⟨v, d, rfl, _⟩ := h
    rfl
  · obtain ⟨v, d, rfl, hd, k⟩ := h
    refine ⟨_, (pss_one (ps_ret (pe_and (pe_callB call_isi (by rfl) T.n_isinstance (by decide +kernel) (pa_cons (pv 0) (pa_cons (pe_bltn (v := .ty "int") (by rfl) T.n_int (by decide +kernel) rfl) pa_nil))) (pe_one (pe_not (pe_callB call_isi (by rfl) T.n_isinstance (by decide +kernel) (pa_cons (pv 0) (pa_cons (pe_bltn (v := .ty "bool") (by rfl) T.n_bool (by decide +kernel) rfl) pa_nil)))))))), ?_⟩
    obtain ⟨t, ty, e1, e2, _⟩ := hd.kits
    refine ⟨_, rfl, _, _, _, _, _, rfl, .ty _, ty, e1, _, rfl, ifB (fun c => ?_) fun c => ?_⟩
    · refine ⟨_, rfl, _, _, _, _, _, rfl, .ty _, ty, e2, _, rfl, ?_⟩
      have e : (!boolB d) = intB d := by
        cases d <;> first | rfl | (cases c; done)
      rw [e]
      exact k
    · have e : intB d = false := by
        cases d <;> first | rfl | (cases c; done)
      rw [e] at k
      first | exact k | (rw [c]; exact k)
theorem ok_fromA (T : Txt K mg ca ia fa fd fi) : FnOk P w K mg base CX0 2 (fa 10) (fd 10) ["value", "least"] (spFromA K) := by
  have G_is_integer := ok_integerA (P := P) (w := w) (base := base) T
  refine T.F_is_integer_from.ok sc_is_integer_from (fun vs H Q E h => ?_) (fun cdv A outer s H vs Q E hr h => ?_)
  · obtain ⟨v, d, l, rfl, _⟩ := h
    rfl
  · obtain ⟨v, d, l, rfl, hd, k⟩ := h
    refine ⟨_, (pss_one (ps_ret (pe_and (pe_call G_is_integer (hr.mono (by decide)) rfl T.g_is_integer T.k_is_integer T.b_is_integer .nil pass0 (pa_cons (pv 0) pa_nil)) (pe_one (pe_cmpR op_ge (pv 0) (pv 1) (nomark _)))))), ?_⟩
    refine ⟨_, rfl, v, d, rfl, hd, _, rfl, ifB (fun c => ?_) fun c => ?_⟩
    · obtain ⟨i, rfl, rfl⟩ := intB_of hd c
      exact ⟨_, rfl, _, rfl, _, _, rfl, rfl, k⟩
    · rw [fromB_no c] at k
      first | exact k | (rw [c]; exact k)
theorem ok_lengthA (T : Txt K mg ca ia fa fd fi) : FnOk P w K mg base CX0 3 (fa 23) (fd 23) ["value"] (spLengthA K) := by
  have G_is_integer_from := ok_fromA (P := P) (w := w) (base := base) T
  refine T.F_is_length.ok sc_is_length (fun vs H Q E h => ?_) (fun cdv A outer s H vs Q E hr h => ?_)
  · obtain ⟨v, d, rfl, _⟩ := h
    rfl
  · obtain ⟨v, d, rfl, hd, k⟩ := h
    refine ⟨_, (pss_one (ps_ret (pe_call G_is_integer_from (hr.mono (by decide)) rfl T.g_is_integer_from T.k_is_integer_from T.b_is_integer_from .nil pass0 (pa_cons (pv 0) (pa_cons pe_int pa_nil))))), ?_⟩
    exact ⟨_, rfl, v, d, 1, rfl, hd, k⟩
end
end Toy
set_option Elab.async false
set_option linter.all false
set_option maxRecDepth 100000
set_option maxHeartbeats 4000000
namespace Toy
open PySem L2 Q RZ D7
/-! ### is_rising of texts, of pairs -/
/-- each item beside the next one -/
def Adj {α : Type} (R : α → α → Prop) (l : List α) : Prop := ∀ i x y, l[i]? = some x → l[i + 1]? = some y → R x y
theorem adj_of_pw {α : Type} {R : α → α → Prop} {l : List α} (h : l.Pairwise R) : Adj R l := fun i x y hx hy => by
  obtain ⟨h1, rfl⟩ := List.getElem?_eq_some_iff.mp hx
  obtain ⟨h2, rfl⟩ := List.getElem?_eq_some_iff.mp hy
  exact List.pairwise_iff_getElem.mp h i (i + 1) h1 h2 (by omega)
theorem pw_of_adj {α : Type} {R : α → α → Prop} (tr : ∀ x y z, R x y → R y z → R x z) : ∀ {l : List α}, Adj R l → l.Pairwise R
  | [], _ => .nil
  | [x], _ => .cons (fun _ h => nomatch h) .nil
  | x :: y :: l, h => by
    have ih : (y :: l).Pairwise R := pw_of_adj (R := R) tr fun i a b ha hb => h (i + 1) a b ha hb
    refine .cons (fun z hz => ?_) ih
    have xy := h 0 x y rfl rfl
    rcases List.mem_cons.mp hz with rfl | hz
    · exact xy
    · exact tr _ _ _ xy ((List.pairwise_cons.mp ih).1 z hz)
theorem adj_map {α β : Type} {R : β → β → Prop} {f : α → β} {l : List α} : Adj R (l.map f) ↔ Adj (fun x y => R (f x) (f y)) l := by
  constructor
  · intro h i x y hx hy
    exact h i (f x) (f y) (by rw [List.getElem?_map, hx]; rfl) (by rw [List.getElem?_map, hy]; rfl)
  · intro h i u v hu hv
    obtain ⟨x, hx, rfl⟩ := at_map hu
    obtain ⟨y, hy, rfl⟩ := at_map hv
    exact h i x y hx hy
/-- the answers so far -/
theorem adj_more {α : Type} {R : α → α → Prop} {l : List α} {i : Nat} {x y : α} {b : Bool} {bs : List Bool} (hx : l[i]? = some x) (hy : l[i + 1]? = some y) (hb : b = true ↔ R x y)
    (iff : bs.all id = true ↔ ∀ j < i, ∀ u v, l[j]? = some u → l[j + 1]? = some v → R u v) : (bs ++ [b]).all id = true ↔ ∀ j < i + 1, ∀ u v, l[j]? = some u → l[j + 1]? = some v → R u v := by
  rw [List.all_append, Bool.and_eq_true, iff]
  constructor
  · rintro ⟨q1, q2⟩ j hj u v hu hv
    by_cases z : j < i
    · exact q1 j z u v hu hv
    · obtain rfl : j = i := by omega
      rw [hx] at hu
      rw [hy] at hv
      cases hu
      cases hv
      exact hb.1 (by simpa using q2)
  · intro q
    refine ⟨fun j hj u v hu hv => q j (by omega) u v hu hv, ?_⟩
    have e := hb.2 (q i (by omega) x y hx hy)
    simp [e]
theorem adj_end {α : Type} {R : α → α → Prop} {l : List α} {n : Nat} (hn : n = min l.length (l.drop 1).length) : (∀ j < n, ∀ u v, l[j]? = some u → l[j + 1]? = some v → R u v) ↔ Adj R l := by
  constructor
  · intro h i x y hx hy
    refine h i ?_ x y hx hy
    obtain ⟨h2, _⟩ := List.getElem?_eq_some_iff.mp hy
    rw [List.length_drop] at hn
    omega
  · intro h j _ u v hu hv
    exact h j u v hu hv
/-- a slice of a tuple, new or the tuple itself -/
theorem slA {K : PySem.W.Frag} {H : Hp} {a : Addr} {xs : List V} {lo hi : Option Int} {Q : VK} (h : SqT K H a xs)
    (q : ∀ t H', Same H H' → SqT K H' t (cutV xs lo hi) → Q (.ref t) H') : rSlA K (.ref a) lo hi H Q := by
  refine ⟨a, xs, rfl, h, fun z => q a H (Same.refl H) ?_, fun z p np => q p _ (same_new np) (SqT.of upd_same)⟩
  unfold cutV
  rw [z.1, z.2, List.drop_zero, Nat.sub_zero, List.take_length]
  exact h
/-- is_rising of texts, or of tuples of one shape -/
def spRisA (K : PySem.W.Frag) : Sp := fun vs H Q _ => ∃ a : Addr, vs = [.ref a] ∧
  ((∃ zs : List Str, SqT K H a (zs.map V.str) ∧ zs.length ≤ 1000 ∧ ∀ b : Bool, (b = true ↔ Adj tLt zs) → ∀ H', Same H H' → Q (.bl b) H') ∨
   (∃ (ks : List (Addr × List Key)) (sh : List Bool), SqL K H a (ks.map fun p => V.ref p.1) ∧ (∀ p ∈ ks, SqT K H p.1 (p.2.map kV) ∧ shape p.2 = sh) ∧ ks.length ≤ 1000 ∧
     ∀ b : Bool, (b = true ↔ Adj (fun p q : Addr × List Key => ksLt p.2 q.2 = true) ks) → ∀ H', Same H H' → Q (.bl b) H'))
section
variable {P : Program} {w : World} {K : PySem.W.Frag} {mg : Str → Option Value} {base : Heap} {ca ia fa : Nat → Addr} {fd fi : Nat → FuncData}
theorem ok_risA (T : Txt K mg ca ia fa fd fi) : FnOk P w K mg base CX0 1 (fa 12) (fd 12) ["values"] (spRisA K) := by
  refine T.F_is_rising.ok sc_is_rising (fun vs H Q E h => ?_) (fun cdv A outer s H vs Q E hr h => ?_)
  · obtain ⟨a, rfl, _⟩ := h
    rfl
  · obtain ⟨a, rfl, h⟩ := h
    refine ⟨_, (pss_one (ps_ret (pe_callB (cr_all rfl) (by rfl) T.n_all (by decide +kernel) (pa_cons (pe_lc (own := [("low", 1), ("high", 2)]) (g := (gTup K 2 (gCons (gName 1) (gCons (gName 2) gNil)))) (tt := tYes) (te := (tOp (rLess K) (tVar 1) (tVar 2))) rfl sc_is_rising.nd (pi_zipA (by rfl) T.n_zip (pa_cons (pv 0) (pa_cons (pe_slice (SlR.or sl_list sl_tupA) (pv 0) (po_some pe_int) po_none) pa_nil))) (blkOk_by (own := [("low", 1), ("high", 2)]) (N := N_is_rising) (sc := defScope s_is_rising) (by decide +kernel)) (fun _ _ _ _ _ => (pg_tup rfl (pgs_cons (pg_name (i := 1) sc_is_rising.nd rfl (Or.inl rfl)) (pgs_cons (pg_name (i := 2) sc_is_rising.nd rfl (Or.inl rfl)) pgs_nil)))) (fun _ _ _ _ _ => pts_nil) (fun _ _ _ _ _ => by exact (pe_cmpR (OpR.or op_lt_str (op_ltK (roomU1 hr))) (pv 1) (pv 2) (nomark _)))) pa_nil)))), ?_⟩
    rcases h with ⟨zs, hz, l1, k⟩ | ⟨ks, sh, hz, hk, l1, k⟩
    · refine ⟨_, rfl, _, rfl, _, rfl, .inr (slA hz fun t H1 s1 ht => ?_)⟩
      rw [cut_tail] at ht
      refine ⟨a, t, _, _, rfl, .inr ⟨SqT.same s1 hz, ht, fun D hD => ?_⟩⟩
      refine lc_it (walk_zipT (xs := zs.map V.str) (ys := (zs.map V.str).drop 1) rfl) (fun i H' => ∃ bs : List Bool, bs.length = i ∧ H' D = some (.lst (bs.map V.bl)) ∧ Same H1 H' ∧ (bs.all id = true ↔ ∀ j < i, ∀ u v, zs[j]? = some u → zs[j + 1]? = some v → tLt u v)) ⟨[], rfl, upd_same, same_new hD, by simp⟩ (fun i H' _ q => ?_) ?_ ?_
      · obtain ⟨_, _, _, q, _⟩ := q
        exact ⟨SqT.same (s1.trans q) hz, SqT.same q ht⟩
      · rintro i x H2 H3 hi ⟨bs, lb, h2, s2, iff⟩ ⟨T, u, v, rfl, nT, rfl, e1, e2⟩
        obtain ⟨y, hy, rfl⟩ := at_map e1
        rw [← List.map_drop] at e2
        obtain ⟨z, hz2, rfl⟩ := at_map e2
        rw [List.getElem?_drop, Nat.add_comm] at hz2
        have hi2 : i < 1000 := by rw [List.length_map] at hi; omega
        refine ⟨T, _, rfl, SqT.of upd_same, rfl, _, _, rfl, _, _, rfl, rfl, rfl, ?_⟩
        dsimp only [tYes]
        rw [if_pos rfl]
        refine ⟨_, rfl, _, rfl, .inl ⟨_, _, rfl, rfl, _, same_new nT _ _ h2, ?_, bs ++ [decide (tLt y z)], by simp [lb], ?_, ?_, ?_⟩⟩
        · rw [List.length_map, sizeLine_eq]
          omega
        · rw [upd_same, List.map_append]
          rfl
        · intro b o e
          rw [upd_ne (ne_of_none e hD)]
          exact same_new nT _ _ (s2 _ _ e)
        · exact adj_more hy hz2 (decide_eq_true_iff) iff
      · rintro H2 ⟨bs, lb, h2, s2, iff⟩
        refine ⟨D, bs, rfl, SqL.of h2, k _ ?_ H2 (s1.trans s2)⟩
        rw [iff]
        exact adj_end (by rw [List.length_map, List.length_drop, List.length_map, List.length_drop])
    · refine ⟨_, rfl, _, rfl, _, rfl, .inl ⟨a, _, rfl, hz, fun t nt => ?_⟩⟩
      rw [cut_tail]
      have s1 : Same H (upd H t (.lst ((ks.map fun p => V.ref p.1).drop 1))) := same_new nt
      refine ⟨a, t, _, _, rfl, .inl ⟨s1.seq hz, SqL.of upd_same, fun D hD => ?_⟩⟩
      have ht : upd H t (.lst ((ks.map fun p => V.ref p.1).drop 1)) t = some (.lst ((ks.map fun p => V.ref p.1).drop 1)) := upd_same
      generalize upd H t (.lst ((ks.map fun p => V.ref p.1).drop 1)) = H1 at s1 ht hD ⊢
      refine lc_it (walk_zip (xs := ks.map fun p => V.ref p.1) (ys := (ks.map fun p => V.ref p.1).drop 1) rfl) (fun i H' => ∃ bs : List Bool, bs.length = i ∧ H' D = some (.lst (bs.map V.bl)) ∧ Same H1 H' ∧ (bs.all id = true ↔ ∀ j < i, ∀ u v : Addr × List Key, ks[j]? = some u → ks[j + 1]? = some v → ksLt u.2 v.2 = true)) ⟨[], rfl, upd_same, same_new hD, by simp⟩ (fun i H' _ q => ?_) ?_ ?_
      · obtain ⟨_, _, _, q, _⟩ := q
        exact ⟨(s1.trans q).seq hz, SqL.of (q _ _ ht)⟩
      · rintro i x H2 H3 hi ⟨bs, lb, h2, s2, iff⟩ ⟨T, u, v, rfl, nT, rfl, e1, e2⟩
        obtain ⟨y, hy, rfl⟩ := at_map e1
        rw [← List.map_drop] at e2
        obtain ⟨z, hz2, rfl⟩ := at_map e2
        rw [List.getElem?_drop, Nat.add_comm] at hz2
        have iy := List.mem_of_getElem? hy
        have iz : z ∈ ks := List.mem_of_getElem? hz2
        have hi2 : i < 1000 := by rw [List.length_map] at hi; omega
        have s3 := (s1.trans s2).trans (same_new (o := .tup [V.ref y.1, V.ref z.1]) nT)
        refine ⟨T, _, rfl, SqT.of upd_same, rfl, _, _, rfl, _, _, rfl, rfl, rfl, ?_⟩
        dsimp only [tYes]
        rw [if_pos rfl]
        refine ⟨_, rfl, _, rfl, .inr ⟨_, _, y.2, z.2, rfl, rfl, SqT.same s3 (hk y iy).1, SqT.same s3 (hk z iz).1, (hk y iy).2.trans (hk z iz).2.symm, _, same_new nT _ _ h2, ?_, bs ++ [ksLt y.2 z.2], by simp [lb], ?_, ?_, ?_⟩⟩
        · rw [List.length_map, sizeLine_eq]
          omega
        · rw [upd_same, List.map_append]
          rfl
        · intro b o e
          rw [upd_ne (ne_of_none e hD)]
          exact same_new nT _ _ (s2 _ _ e)
        · exact adj_more hy hz2 Iff.rfl iff
      · rintro H2 ⟨bs, lb, h2, s2, iff⟩
        refine ⟨D, bs, rfl, SqL.of h2, k _ ?_ H2 (s1.trans s2)⟩
        rw [iff]
        exact adj_end (by rw [List.length_map, List.length_drop, List.length_map, List.length_drop])
end
end Toy
set_option Elab.async false
set_option linter.all false
set_option maxRecDepth 100000
set_option maxHeartbeats 4000000
namespace Toy
open PySem L2 Q RZ D7
/-! ### names, and routers, of any data -/
theorem low_iff (c : Nat) : c ∈ (Str.ofString "abcdefghijklmnopqrstuvwxyz").cps.toList ↔ 97 ≤ c ∧ c ≤ 122 := by
  have e : (Str.ofString "abcdefghijklmnopqrstuvwxyz").cps.toList = (List.range 26).map (· + 97) := by decide +kernel
  rw [e, List.mem_map]
  constructor
  · rintro ⟨k, hk, rfl⟩
    have := List.mem_range.mp hk
    omega
  · rintro ⟨h1, h2⟩
    exact ⟨c - 97, List.mem_range.mpr (by omega), by omega⟩
theorem dd_at {K : PySem.W.Frag} {H : Hp} : ∀ {xs : List V} {ds : List PyData} {i : Nat} {v : V}, DdAll K H xs ds → xs[i]? = some v → ∃ d, ds[i]? = some d ∧ Dd K H v d
  | _, _, 0, _, .cons h _, e => ⟨_, rfl, by simp at e; subst e; exact h⟩
  | _, _, i + 1, v, .cons _ t, e => by
    obtain ⟨d, m, h⟩ := dd_at (i := i) (v := v) t (by simpa using e)
    exact ⟨d, by simpa using m, h⟩
theorem dd_len {K : PySem.W.Frag} {H : Hp} : ∀ {xs : List V} {ds : List PyData}, DdAll K H xs ds → xs.length = ds.length
  | _, _, .nil => rfl
  | _, _, .cons _ t => by simp [dd_len t]
theorem Same.upd_at {H H' : Hp} {p : Addr} {o : HO} (s : Same H H') (n : H p = none) : Same H (upd H' p o) := fun b u e => by
  rw [upd_ne (ne_of_none e n)]
  exact s b u e
/-- whether an item holds what is asked, so far and with one more -/
theorem all_more {α : Type} {R : α → Prop} {ds : List α} {i : Nat} {d : α} {b : Bool} {bs : List Bool} (hd : ds[i]? = some d) (hb : b = true ↔ R d) (iff : bs.all id = true ↔ ∀ e ∈ ds.take i, R e) :
    (bs ++ [b]).all id = true ↔ ∀ e ∈ ds.take (i + 1), R e := by
  rw [List.take_add_one, hd, List.all_append, Bool.and_eq_true, iff]
  constructor
  · rintro ⟨q1, q2⟩ e he
    rcases List.mem_append.mp he with q | q
    · exact q1 e q
    · have z : e = d := by simpa using q
      rw [z]
      exact hb.1 (by simpa using q2)
  · intro q
    refine ⟨fun e he => q e (List.mem_append_left _ he), ?_⟩
    have e := hb.2 (q d (List.mem_append_right _ (by simp)))
    simp [e]
theorem names_of {K : PySem.W.Frag} {H : Hp} : ∀ {xs : List V} {ds : List PyData}, DdAll K H xs ds → (∀ d ∈ ds, NameD d) → ∃ zs : List Str, xs = zs.map V.str ∧ ds = zs.map PyData.str ∧ ∀ z ∈ zs, NameOk z
  | _, _, .nil, _ => ⟨[], rfl, rfl, fun _ h => nomatch h⟩
  | _, _, .cons (d := d) (ds := ds) h t, hn => by
    obtain ⟨zs, e1, e2, e3⟩ := names_of t fun d hd => hn d (List.mem_cons_of_mem _ hd)
    obtain ⟨z, rfl, hz⟩ := hn _ List.mem_cons_self
    cases h
    exact ⟨z :: zs, by rw [e1]; rfl, by rw [e2]; rfl, fun y hy => by
      rcases List.mem_cons.mp hy with rfl | hy
      · exact hz
      · exact e3 y hy⟩
theorem str_inj : ∀ {zs ys : List Str}, zs.map PyData.str = ys.map PyData.str → zs = ys
  | [], [], _ => rfl
  | z :: zs, y :: ys, h => by
    rw [List.map_cons, List.map_cons] at h
    injection h with h1 h2
    injection h1 with h1
    rw [h1, str_inj h2]
  | [], _ :: _, h => nomatch h
  | _ :: _, [], h => nomatch h
/-- routers, as data -/
def RtD (zs : List Str) (d : PyData) : Prop := d = .tuple (zs.map PyData.str) ∧ RtOk zs ∧ Adj tLt zs
def RoutersD (d : PyData) : Prop := ∃ zs, RtD zs d
/-- the texts in it are short -/
def Txs (d : PyData) : Prop := TxOk d ∧ ∀ ds, d = .tuple ds → ∀ e ∈ ds, TxOk e
def spRtA (K : PySem.W.Frag) : Sp := fun vs H Q _ => ∃ (v : V) (d : PyData), vs = [v] ∧ Dd K H v d ∧ Txs d ∧ ∀ b : Bool, (b = true ↔ RoutersD d) → ∀ H', Same H H' → Q (.bl b) H'
section
variable {P : Program} {w : World} {K : PySem.W.Frag} {mg : Str → Option Value} {base : Heap} {ca ia fa : Nat → Addr} {fd fi : Nat → FuncData}
theorem ok_nameA (T : Txt K mg ca ia fa fd fi) : FnOk P w K mg base CX0 1 (fa 11) (fd 11) ["value"] (spNameA K) := by
  refine T.F_is_name.ok sc_is_name (fun vs H Q E h => ?_) (fun cdv A outer s H vs Q E hr h => ?_)
  · obtain ⟨v, d, rfl, _⟩ := h
    rfl
  · obtain ⟨v, d, rfl, hd, hz, k⟩ := h
    obtain ⟨tk8, hv_LONGEST_NAME⟩ := T.v_LONGEST_NAME
    refine ⟨_, (pss_cons (ps_if (PW.pt (pw_or (pt_not (pt_val (pe_callB call_isi (by rfl) T.n_isinstance (by decide +kernel) (pa_cons (pv 0) (pa_cons (pe_bltn (v := .ty "str") (by rfl) T.n_str (by decide +kernel) rfl) pa_nil))))) (pw_or1 (pt_not (pt_chain op_le op_le pe_int (pe_callB call_len (by rfl) T.n_len (by decide +kernel) (pa_cons (pv 0) pa_nil)) (pe_glob rfl hv_LONGEST_NAME (v := .int 8) ⟨_, rfl⟩)))))) (pss_one (ps_ret pe_bl)) pss_nil)
      (pss_one (ps_ret (pe_callB (cr_all rfl) (by rfl) T.n_all (by decide +kernel) (pa_cons (pe_lc (own := [("letter", 1)]) (g := (gName 1)) (tt := tYes) rfl sc_is_name.nd (pi_str (pv 0)) (blkOk_by (own := [("letter", 1)]) (N := N_is_name) (sc := defScope s_is_name) (by decide +kernel)) (fun _ _ _ _ _ => (pg_name (i := 1) sc_is_name.nd rfl (Or.inl rfl))) (fun _ _ _ _ _ => pts_nil) (fun _ _ _ _ _ => by exact (pe_chain op_le_str op_le_str pe_str (pv 1) pe_str))) pa_nil))))), ?_⟩
    obtain ⟨t, ty, _, _, e3, _⟩ := hd.kits
    refine ⟨_, rfl, _, _, _, _, _, rfl, .ty _, ty, e3, _, rfl, ?_⟩
    refine ifB (fun c => ?_) fun c => ?_
    · exact k false ⟨fun q => (by cases q), fun ⟨z, e, _⟩ => by rw [e] at c; cases c⟩ H (Same.refl H)
    have c2 : strB d = true := by
      cases q : strB d
      · rw [q] at c
        cases c
      · rfl
    obtain ⟨z, rfl, rfl⟩ := strB_of hd c2
    have hz := hz z rfl
    have lenV : LenV K (.str z) H z.length := ⟨by rw [sizeLine_eq]; omega, rfl⟩
    have stop : ∀ {D : Ends} {σ : L2.St}, D.rt = Q → ¬ NameOk z → tRet (tC (.bl false)) D σ H := fun {D σ} e n => by
      show D.rt (.bl false) H
      rw [e]
      exact k false ⟨fun q => (by cases q), fun ⟨y, q, q2⟩ => absurd q2 (by cases q; exact n)⟩ H (fun _ _ e => e)
    refine ⟨_, rfl, _, _, rfl, lenV, _, _, rfl, rfl, _, rfl, ite2 (fun c1 => ?_) (fun c1 => ?_)⟩
    · have l1 : (1 : Int) ≤ (z.length : Nat) := of_decide_eq_true c1
      refine ⟨_, _, rfl, rfl, _, rfl, ite2 (fun c2 => ?_) (fun c2 => ?_)⟩
      · have l2 : ¬ ((z.length : Nat) : Int) ≤ 8 := fun q => by
          rw [decide_eq_true q] at c2
          cases c2
        exact stop rfl fun q => l2 (by have := q.2.1; omega)
      · have l2 : ((z.length : Nat) : Int) ≤ 8 := Classical.byContradiction fun q => c2 (by rw [decide_eq_false q]; rfl)
        refine nxt ?_
        refine ⟨_, rfl, z, rfl, fun D hD => ?_⟩
        refine lc_it walk_str (fun i H' => ∃ bs : List Bool, bs.length = i ∧ H' D = some (.lst (bs.map V.bl)) ∧ Same H H' ∧ (bs.all id = true ↔ ∀ c ∈ z.cps.toList.take i, 97 ≤ c ∧ c ≤ 122))
          ⟨[], rfl, upd_same, same_new hD, by simp⟩ (fun _ _ _ _ => trivial) ?_ ?_
        · rintro i x H1 H2 hi ⟨bs, lb, hb, s1, iff1⟩ ⟨rfl, c, hc, rfl⟩
          refine ⟨rfl, ?_⟩
          dsimp only [tYes]
          rw [if_pos rfl]
          have hi2 : i < z.length := hi
          have fin : ∀ b : Bool, (b = true ↔ 97 ≤ c ∧ c ≤ 122) → ∃ acc, H2 D = some (.lst acc) ∧ acc.length < sizeLine ∧ ∃ bs : List Bool, bs.length = i + 1 ∧ upd H2 D (.lst (acc ++ [.bl b])) D = some (.lst (bs.map V.bl)) ∧ Same H (upd H2 D (.lst (acc ++ [.bl b]))) ∧
              (bs.all id = true ↔ ∀ c ∈ z.cps.toList.take (i + 1), 97 ≤ c ∧ c ≤ 122) := fun b hb2 => by
            refine ⟨_, hb, ?_, bs ++ [b], by simp [lb], ?_, Same.upd_at s1 hD, ?_⟩
            · rw [List.length_map, sizeLine_eq]
              omega
            · rw [upd_same, List.map_append]
              rfl
            · exact all_more (by rw [Array.getElem?_toList]; exact hc) hb2 iff1
          obtain ⟨low1, low2⟩ := lowS c
          refine ⟨_, rfl, _, _, rfl, rfl, _, rfl, ite2 (fun a1 => ?_) (fun a1 => ?_)⟩
          · rw [low1] at a1
            refine ⟨_, _, rfl, rfl, ?_⟩
            rw [low2]
            exact fin _ ⟨fun q => ⟨of_decide_eq_true a1, of_decide_eq_true q⟩, fun q => decide_eq_true q.2⟩
          · rw [low1] at a1
            exact fin _ ⟨fun q => (by cases q), fun q => absurd (decide_eq_true q.1) a1⟩
        · rintro H1 ⟨bs, lb, hb, s1, iff1⟩
          rw [show z.cps.toList.take z.cps.size = z.cps.toList from List.take_of_length_le (Nat.le_of_eq (Array.length_toList ..))] at iff1
          exact ⟨D, bs, rfl, SqL.of hb, k _ ⟨fun q => ⟨z, rfl, by omega, by omega, iff1.1 q⟩, fun ⟨y, e, q⟩ => by cases e; exact iff1.2 q.2.2⟩ H1 s1⟩
    · have l1 : ¬ (1 : Int) ≤ (z.length : Nat) := fun q => c1 (decide_eq_true q)
      refine ⟨_, rfl, ite2 (fun _ => ?_) (fun c2 => absurd rfl c2)⟩
      exact stop rfl fun q => l1 (by have := q.1; omega)
theorem ok_l_nameA (T : Txt K mg ca ia fa fd fi) : FnOk P w K mg base CX0 1 (fa 45) (fd 45) ["_law_value"] (spNameA K) := by
  refine T.F_l_is_name.ok sc_l_is_name (fun vs H Q E h => ?_) (fun cdv A outer s H vs Q E hr h => ?_)
  · obtain ⟨v, d, rfl, _⟩ := h
    rfl
  · obtain ⟨v, d, rfl, hd, hz, k⟩ := h
    refine ⟨_, (pss_cons (ps_if (PW.pt (pw_or (pt_not (pt_val (pe_callB call_isA (by rfl) T.n_isinstance (by decide +kernel) (pa_cons (pv 0) (pa_cons (pe_bltn (v := .ty "str") (by rfl) T.n_str (by decide +kernel) rfl) pa_nil))))) (pw_or1 (pt_not (pt_chain op_le op_le pe_int (pe_callB call_len (by rfl) T.n_len (by decide +kernel) (pa_cons (pv 0) pa_nil)) pe_int))))) (pss_one (ps_ret pe_bl)) pss_nil)
      (pss_one (ps_ret (pe_callB (cr_all rfl) (by rfl) T.n_all (by decide +kernel) (pa_cons (pe_lc (own := [("_law_sign", 1)]) (g := (gName 1)) (tt := tYes) rfl sc_l_is_name.nd (pi_str (pv 0)) (blkOk_by (own := [("_law_sign", 1)]) (N := N_l_is_name) (sc := defScope s_l_is_name) (by decide +kernel)) (fun _ _ _ _ _ => (pg_name (i := 1) sc_l_is_name.nd rfl (Or.inl rfl))) (fun _ _ _ _ _ => pts_nil) (fun _ _ _ _ _ => by exact (pe_cmpR op_inS (pv 1) pe_str rfl))) pa_nil))))), ?_⟩
    obtain ⟨t, ty, _, _, e3, _⟩ := hd.kits
    refine ⟨_, rfl, .inl ⟨_, _, _, _, _, rfl, .ty _, ty, e3, _, rfl, ?_⟩⟩
    refine ifB (fun c => ?_) fun c => ?_
    · exact k false ⟨fun q => (by cases q), fun ⟨z, e, _⟩ => by rw [e] at c; cases c⟩ H (Same.refl H)
    have c2 : strB d = true := by
      cases q : strB d
      · rw [q] at c
        cases c
      · rfl
    obtain ⟨z, rfl, rfl⟩ := strB_of hd c2
    have hz := hz z rfl
    have lenV : LenV K (.str z) H z.length := ⟨by rw [sizeLine_eq]; omega, rfl⟩
    have stop : ∀ {D : Ends} {σ : L2.St}, D.rt = Q → ¬ NameOk z → tRet (tC (.bl false)) D σ H := fun {D σ} e n => by
      show D.rt (.bl false) H
      rw [e]
      exact k false ⟨fun q => (by cases q), fun ⟨y, q, q2⟩ => absurd q2 (by cases q; exact n)⟩ H (fun _ _ e => e)
    refine ⟨_, rfl, _, _, rfl, lenV, _, _, rfl, rfl, _, rfl, ite2 (fun c1 => ?_) (fun c1 => ?_)⟩
    · have l1 : (1 : Int) ≤ (z.length : Nat) := of_decide_eq_true c1
      refine ⟨_, _, rfl, rfl, _, rfl, ite2 (fun c2 => ?_) (fun c2 => ?_)⟩
      · have l2 : ¬ ((z.length : Nat) : Int) ≤ 8 := fun q => by
          rw [decide_eq_true q] at c2
          cases c2
        exact stop rfl fun q => l2 (by have := q.2.1; omega)
      · have l2 : ((z.length : Nat) : Int) ≤ 8 := Classical.byContradiction fun q => c2 (by rw [decide_eq_false q]; rfl)
        refine nxt ?_
        refine ⟨_, rfl, z, rfl, fun D hD => ?_⟩
        refine lc_it walk_str (fun i H' => ∃ bs : List Bool, bs.length = i ∧ H' D = some (.lst (bs.map V.bl)) ∧ Same H H' ∧ (bs.all id = true ↔ ∀ c ∈ z.cps.toList.take i, 97 ≤ c ∧ c ≤ 122))
          ⟨[], rfl, upd_same, same_new hD, by simp⟩ (fun _ _ _ _ => trivial) ?_ ?_
        · rintro i x H1 H2 hi ⟨bs, lb, hb, s1, iff1⟩ ⟨rfl, c, hc, rfl⟩
          refine ⟨rfl, ?_⟩
          dsimp only [tYes]
          rw [if_pos rfl]
          have hi2 : i < z.length := hi
          refine ⟨_, rfl, _, _, rfl, rfl, _, hb, ?_, bs ++ [decide (c ∈ (Str.ofString "abcdefghijklmnopqrstuvwxyz").cps.toList)], by simp [lb], ?_, Same.upd_at s1 hD, ?_⟩
          · rw [List.length_map, sizeLine_eq]
            omega
          · rw [upd_same, List.map_append]
            rfl
          · exact all_more (by rw [Array.getElem?_toList]; exact hc) (by rw [decide_eq_true_iff]; exact low_iff c) iff1
        · rintro H1 ⟨bs, lb, hb, s1, iff1⟩
          rw [show z.cps.toList.take z.cps.size = z.cps.toList from List.take_of_length_le (Nat.le_of_eq (Array.length_toList ..))] at iff1
          exact ⟨D, bs, rfl, SqL.of hb, k _ ⟨fun q => ⟨z, rfl, by omega, by omega, iff1.1 q⟩, fun ⟨y, e, q⟩ => by cases e; exact iff1.2 q.2.2⟩ H1 s1⟩
    · have l1 : ¬ (1 : Int) ≤ (z.length : Nat) := fun q => c1 (decide_eq_true q)
      refine ⟨_, rfl, ite2 (fun _ => ?_) (fun c2 => absurd rfl c2)⟩
      exact stop rfl fun q => l1 (by have := q.1; omega)
theorem ok_routersA (T : Txt K mg ca ia fa fd fi) : FnOk P w K mg base CX0 2 (fa 24) (fd 24) ["value"] (spRtA K) := by
  have G_is_name := ok_nameA (P := P) (w := w) (base := base) T
  have G_is_rising := ok_risA (P := P) (w := w) (base := base) T
  obtain ⟨t1, hv_FEWEST_ROUTERS⟩ := T.v_FEWEST_ROUTERS
  obtain ⟨t2, hv_MOST_ROUTERS⟩ := T.v_MOST_ROUTERS
  refine T.F_are_routers.ok sc_are_routers (fun vs H Q E h => ?_) (fun cdv A outer s H vs Q E hr h => ?_)
  · obtain ⟨v, d, rfl, _⟩ := h
    rfl
  · obtain ⟨v, d, rfl, hd, tx, k⟩ := h
    refine ⟨_, (pss_cons (ps_if (PW.pt (pw_or (pt_not (pt_val (pe_callB call_isi (by rfl) T.n_isinstance (by decide +kernel) (pa_cons (pv 0) (pa_cons (pe_bltn (v := .ty "tuple") (by rfl) T.n_tuple (by decide +kernel) rfl) pa_nil))))) (pw_or1 (pt_not (pt_chain op_le op_le (pe_glob rfl hv_FEWEST_ROUTERS (v := .int 2) ⟨_, rfl⟩) (pe_callB call_len (by rfl) T.n_len (by decide +kernel) (pa_cons (pv 0) pa_nil)) (pe_glob rfl hv_MOST_ROUTERS (v := .int 8) ⟨_, rfl⟩)))))) (pss_one (ps_ret pe_bl)) pss_nil)
      (pss_one (ps_ret (pe_and (pe_callB (cr_all rfl) (by rfl) T.n_all (by decide +kernel) (pa_cons (pe_lc (own := [("name", 1)]) (g := (gName 1)) (tt := tYes) rfl sc_are_routers.nd (pi_tup (pv 0)) (blkOk_by (own := [("name", 1)]) (N := N_are_routers) (sc := defScope s_are_routers) (by decide +kernel)) (fun _ _ _ _ _ => (pg_name (i := 1) sc_are_routers.nd rfl (Or.inl rfl))) (fun _ _ _ _ _ => pts_nil) (fun _ _ _ _ _ => by exact (pe_call G_is_name (hr.mono (by decide)) rfl T.g_is_name T.k_is_name T.b_is_name .nil pass0 (pa_cons (pv 1) pa_nil)))) pa_nil)) (pe_one (pe_call G_is_rising (hr.mono (by decide)) rfl T.g_is_rising T.k_is_rising T.b_is_rising .nil pass0 (pa_cons (pv 0) pa_nil))))))), ?_⟩
    obtain ⟨t, ty, _, _, _, e4⟩ := hd.kits
    refine ⟨_, rfl, _, _, _, _, _, rfl, .ty _, ty, e4, _, rfl, ?_⟩
    have no : ¬ RoutersD d → Q (.bl false) H := fun n => k false ⟨fun q => (by cases q), fun q => absurd q n⟩ H (Same.refl H)
    refine ifB (fun c => ?_) fun c => ?_
    · exact no fun ⟨zs, e, _⟩ => by rw [e] at c; cases c
    have c2 : tupB d = true := by
      cases q : tupB d
      · rw [q] at c
        cases c
      · rfl
    obtain ⟨r, xs, ds, rfl, rfl, hx, ha⟩ := tupB_of hd c2
    have lx := dd_len ha
    refine ⟨_, rfl, _, _, rfl, .inr ⟨_, hx, rfl⟩, _, _, rfl, rfl, _, rfl, ite2 (fun c1 => ?_) (fun c1 => ?_)⟩
    · have l1 : (2 : Int) ≤ (xs.length : Nat) := of_decide_eq_true c1
      refine ⟨_, _, rfl, rfl, _, rfl, ite2 (fun c2 => ?_) (fun c2 => ?_)⟩
      · have l2 : ¬ ((xs.length : Nat) : Int) ≤ 8 := fun q => by
          rw [decide_eq_true q] at c2
          cases c2
        refine no fun ⟨zs, e, ok, _⟩ => l2 ?_
        injection e with e
        rw [lx, e, List.length_map]
        have := ok.2.1
        omega
      · have l2 : ((xs.length : Nat) : Int) ≤ 8 := Classical.byContradiction fun q => c2 (by rw [decide_eq_false q]; rfl)
        refine nxt ?_
        refine ⟨_, rfl, r, rfl, ⟨_, hx⟩, fun D hD => ?_⟩
        refine lc_it (walk_tup (xs := xs)) (fun i H' => ∃ bs : List Bool, bs.length = i ∧ H' D = some (.lst (bs.map V.bl)) ∧ Same H H' ∧ (bs.all id = true ↔ ∀ e ∈ ds.take i, NameD e))
          ⟨[], rfl, upd_same, same_new hD, by simp⟩ (fun i H' _ q => ?_) ?_ ?_
        · obtain ⟨_, _, _, q, _⟩ := q
          exact SqT.same q hx
        · rintro i x H1 H2 hi ⟨bs, lb, hb, s1, iff1⟩ ⟨rfl, hxi⟩
          obtain ⟨e, he, hde⟩ := dd_at ha hxi
          refine ⟨rfl, ?_⟩
          dsimp only [tYes]
          rw [if_pos rfl]
          refine ⟨_, rfl, _, e, rfl, hde.same s1, tx.2 ds rfl e (List.mem_of_getElem? he), fun b hb2 H3 s3 => ⟨_, s3 _ _ hb, ?_, bs ++ [b], by simp [lb], ?_, Same.upd_at (s1.trans s3) hD, all_more he hb2 iff1⟩⟩
          · rw [List.length_map, sizeLine_eq]
            omega
          · rw [upd_same, List.map_append]
            rfl
        · rintro H1 ⟨bs, lb, hb, s1, iff1⟩
          rw [lx, List.take_length] at iff1
          refine ⟨D, bs, rfl, SqL.of hb, _, rfl, ifB (fun c => ?_) fun c => ?_⟩
          · obtain ⟨zs, ex, ed, nok⟩ := names_of ha (iff1.1 c)
            subst ex
            subst ed
            rw [List.length_map] at l1 l2
            refine ⟨_, rfl, r, rfl, .inl ⟨zs, SqT.same s1 hx, by omega, fun b hb2 H2 s2 => k b ?_ H2 (s1.trans s2)⟩⟩
            rw [hb2]
            exact ⟨fun q => ⟨zs, rfl, ⟨by omega, by omega, nok⟩, q⟩, fun ⟨ys, e, _, q⟩ => by injection e with e; rw [str_inj e]; exact q⟩
          · refine k false ⟨fun q => (by cases q), fun ⟨ys, e, ok, _⟩ => ?_⟩ H1 s1
            have z := iff1.2 fun d hd => by
              injection e with e
              rw [e] at hd
              obtain ⟨y, hy, rfl⟩ := List.mem_map.mp hd
              exact ⟨y, rfl, ok.2.2 y hy⟩
            rw [c] at z
            cases z
    · have l1 : ¬ (2 : Int) ≤ (xs.length : Nat) := fun q => c1 (decide_eq_true q)
      refine ⟨_, rfl, ite2 (fun _ => ?_) (fun c2 => absurd rfl c2)⟩
      refine no fun ⟨zs, e, ok, _⟩ => l1 ?_
      injection e with e
      rw [lx, e, List.length_map]
      have := ok.1
      omega
end
end Toy
set_option Elab.async false
set_option linter.all false
set_option maxRecDepth 100000
set_option maxHeartbeats 8000000
namespace Toy
open PySem L2 Q RZ D7
/-! ### links of any data -/
abbrev kD (k : List Key) : PyData := .tuple (k.map keyD)
def LinkD (zs : List Str) (e : PyData) : Prop := ∃ k, e = kD k ∧ LkOk zs k
abbrev kLt2 (k l : List Key) : Prop := ksLt (k.take 2) (l.take 2) = true
def LkD (zs : List Str) (kk : List (List Key)) (d : PyData) : Prop := d = .tuple (kk.map kD) ∧ kk.length ≤ 16 ∧ (∀ k ∈ kk, LkOk zs k) ∧ Adj kLt2 kk
def LinksD (zs : List Str) (d : PyData) : Prop := ∃ kk, LkD zs kk d
theorem keyD_inj : ∀ {k l : List Key}, k.map keyD = l.map keyD → k = l
  | [], [], _ => rfl
  | a :: k, b :: l, h => by
    rw [List.map_cons, List.map_cons] at h
    injection h with h1 h2
    rw [keyD_inj h2]
    cases a <;> cases b <;> first | (injection h1 with h1; rw [h1]) | cases h1
  | [], _ :: _, h => nomatch h
  | _ :: _, [], h => nomatch h
theorem kD_inj {k l : List Key} (h : kD k = kD l) : k = l := by
  injection h with h
  exact keyD_inj h
theorem kDs_inj : ∀ {kk ll : List (List Key)}, kk.map kD = ll.map kD → kk = ll
  | [], [], _ => rfl
  | a :: k, b :: l, h => by
    rw [List.map_cons, List.map_cons] at h
    injection h with h1 h2
    rw [kDs_inj h2, kD_inj h1]
  | [], _ :: _, h => nomatch h
  | _ :: _, [], h => nomatch h
theorem keys_at {K : PySem.W.Frag} {H : Hp} : ∀ {xs : List V} {k : List Key}, DdAll K H xs (k.map keyD) → xs = k.map kV
  | _, [], h => by cases h; rfl
  | _, a :: k, h => by
    rw [List.map_cons] at h
    cases h with
    | cons h t =>
      rw [keys_at t, List.map_cons]
      cases a with
      | inl i => cases h; rfl
      | inr z => cases h; rfl
theorem links_of {K : PySem.W.Frag} {H : Hp} {zs : List Str} : ∀ {xs : List V} {ds : List PyData}, DdAll K H xs ds → (∀ d ∈ ds, LinkD zs d) →
    ∃ ks : List (Addr × List Key), xs = ks.map (fun q => V.ref q.1) ∧ ds = (ks.map (·.2)).map kD ∧ ∀ q ∈ ks, SqT K H q.1 (q.2.map kV) ∧ LkOk zs q.2
  | _, _, .nil, _ => ⟨[], rfl, rfl, fun _ h => nomatch h⟩
  | _, _, .cons h t, hn => by
    obtain ⟨ks, e1, e2, e3⟩ := links_of t fun d hd => hn d (List.mem_cons_of_mem _ hd)
    obtain ⟨k, rfl, hk⟩ := hn _ List.mem_cons_self
    cases h with
    | tup hx ha =>
      rename_i a xs
      have := keys_at ha
      subst this
      exact ⟨(a, k) :: ks, by rw [e1]; rfl, by rw [e2]; rfl, fun q hq => by
        rcases List.mem_cons.mp hq with rfl | hq
        · exact ⟨hx, hk⟩
        · exact e3 q hq⟩
theorem link_iff {zs : List Str} {d0 d1 d2 d3 : PyData} : LinkD zs (.tuple [d0, d1, d2, d3]) ↔ ∃ a b, d0 = .str a ∧ d1 = .str b ∧ a ∈ zs ∧ b ∈ zs ∧ tLt a b ∧ fromB d2 1 = true ∧ fromB d3 1 = true := by
  constructor
  · rintro ⟨k, e, a, b, x, y, rfl, ha, hb, ab, hx, hy⟩
    injection e with e
    injection e with e0 e
    injection e with e1 e
    injection e with e2 e
    injection e with e3 e
    subst e0 e1 e2 e3
    exact ⟨a, b, rfl, rfl, ha, hb, ab, decide_eq_true hx, decide_eq_true hy⟩
  · rintro ⟨a, b, rfl, rfl, ha, hb, ab, hx, hy⟩
    obtain ⟨x, rfl⟩ : ∃ x, d2 = .int x := by cases d2 <;> first | exact ⟨_, rfl⟩ | (cases hx; done)
    obtain ⟨y, rfl⟩ : ∃ y, d3 = .int y := by cases d3 <;> first | exact ⟨_, rfl⟩ | (cases hy; done)
    exact ⟨[.inr a, .inr b, .inl x, .inl y], rfl, a, b, x, y, rfl, ha, hb, ab, of_decide_eq_true hx, of_decide_eq_true hy⟩
theorem link_four {zs : List Str} {ds : List PyData} (h : LinkD zs (.tuple ds)) : ds.length = 4 := by
  obtain ⟨k, e, a, b, x, y, rfl, _⟩ := h
  injection e with e
  rw [e]
  rfl
theorem in_D {K : PySem.W.Frag} {H : Hp} {x : V} {d : PyData} {zs : List Str} (h : Dd K H x d) : zs.any (isStr x) = true ↔ ∃ z, d = .str z ∧ z ∈ zs := by
  rw [any_isStr]
  constructor
  · rintro ⟨z, hz, rfl⟩
    cases h
    exact ⟨z, rfl, hz⟩
  · rintro ⟨z, rfl, hz⟩
    cases h
    exact ⟨z, hz, rfl⟩
theorem sqT_upd {K : PySem.W.Frag} {H : Hp} {a D : Addr} {xs ys ys' : List V} (h : SqT K H a xs) (hD : H D = some (.lst ys)) : SqT K (upd H D (.lst ys')) a xs := by
  rcases h with (h | ⟨o, h⟩) | h
  · refine .inl (.inl ?_)
    rw [upd_ne (fun z => by rw [z, hD] at h; cases h)]
    exact h
  · refine .inl (.inr ⟨o, ?_⟩)
    rw [upd_ne (fun z => by rw [z, hD] at h; cases h)]
    exact h
  · exact .inr h
def spLinkA (K : PySem.W.Frag) : Sp := fun vs H Q _ => ∃ (v : V) (r : Addr) (zs : List Str) (d : PyData), vs = [v, .ref r] ∧ Dd K H v d ∧ SqT K H r (zs.map V.str) ∧ ∀ b : Bool, (b = true ↔ LinkD zs d) → Q (.bl b) H
def spLinksA (K : PySem.W.Frag) : Sp := fun vs H Q _ => ∃ (v : V) (r : Addr) (zs : List Str) (d : PyData), vs = [v, .ref r] ∧ Dd K H v d ∧ SqT K H r (zs.map V.str) ∧ ∀ b : Bool, (b = true ↔ LinksD zs d) → ∀ H', Same H H' → Q (.bl b) H'
/-- the pairs of links, one slice each -/
structure Prs (K : PySem.W.Frag) (H : Hp) (ks ts : List (Addr × List Key)) (i : Nat) (D : Addr) : Prop where
  et : ts.map (·.2) = (ks.take i).map (fun q => q.2.take 2)
  at_ : H D = some (.lst (ts.map fun q => V.ref q.1))
  el : ∀ q ∈ ts, SqT K H q.1 (q.2.map kV)
theorem Prs.len {K : PySem.W.Frag} {H : Hp} {ks ts : List (Addr × List Key)} {i : Nat} {D : Addr} (h : Prs K H ks ts i D) : ts.length = min i ks.length := by
  have e := congrArg List.length h.et
  rw [List.length_map, List.length_map, List.length_take] at e
  exact e
theorem Prs.push {K : PySem.W.Frag} {H : Hp} {ks ts : List (Addr × List Key)} {i : Nat} {D t : Addr} {q : Addr × List Key} (h : Prs K H ks ts i D) (hq : ks[i]? = some q) (ht : SqT K H t ((q.2.take 2).map kV)) :
    Prs K (upd H D (.lst ((ts.map fun q => V.ref q.1) ++ [.ref t]))) ks (ts ++ [(t, q.2.take 2)]) (i + 1) D := by
  refine ⟨?_, ?_, fun p hp => ?_⟩
  · rw [List.map_append, h.et, List.take_add_one (l := ks), hq, List.map_append]
    rfl
  · rw [upd_same, List.map_append]
    rfl
  · rcases List.mem_append.mp hp with z | z
    · exact sqT_upd (h.el p z) h.at_
    · rw [List.mem_singleton.mp z]
      exact sqT_upd ht h.at_
theorem Prs.same {K : PySem.W.Frag} {H H' : Hp} {ks ts : List (Addr × List Key)} {i : Nat} {D : Addr} (h : Prs K H ks ts i D) (s : Same H H') : Prs K H' ks ts i D := ⟨h.et, s _ _ h.at_, fun q hq => SqT.same s (h.el q hq)⟩
theorem Prs.adj {K : PySem.W.Frag} {H : Hp} {ks ts : List (Addr × List Key)} {D : Addr} (h : Prs K H ks ts ks.length D) : Adj (fun p q : Addr × List Key => ksLt p.2 q.2 = true) ts ↔ Adj kLt2 (ks.map (·.2)) := by
  have e := h.et
  rw [List.take_length] at e
  have e1 : Adj (fun p q : Addr × List Key => ksLt p.2 q.2 = true) ts ↔ Adj (fun k l : List Key => ksLt k l = true) (ts.map (·.2)) := (adj_map (R := fun k l : List Key => ksLt k l = true) (f := fun q : Addr × List Key => q.2)).symm
  have e2 : Adj kLt2 (ks.map (·.2)) ↔ Adj (fun k l : List Key => ksLt k l = true) ((ks.map (·.2)).map fun k => k.take 2) := (adj_map (R := fun k l : List Key => ksLt k l = true) (f := fun k : List Key => k.take 2)).symm
  rw [e1, e2, e, List.map_map]
  rfl
section
variable {P : Program} {w : World} {K : PySem.W.Frag} {mg : Str → Option Value} {base : Heap} {ca ia fa : Nat → Addr} {fd fi : Nat → FuncData}
theorem ok_linkA (T : Txt K mg ca ia fa fd fi) : FnOk P w K mg base CX0 4 (fa 26) (fd 26) ["value", "routers"] (spLinkA K) := by
  have G_is_length := ok_lengthA (P := P) (w := w) (base := base) T
  refine T.F_is_link.ok sc_is_link (fun vs H Q E h => ?_) (fun cdv A outer s H vs Q E hr h => ?_)
  · obtain ⟨v, r, zs, d, rfl, _⟩ := h
    rfl
  · obtain ⟨v, r, zs, d, rfl, hd, hz, k⟩ := h
    refine ⟨_, (pss_cons (ps_if (PW.pt (pw_or (pt_not (pt_val (pe_callB call_isi (by rfl) T.n_isinstance (by decide +kernel) (pa_cons (pv 0) (pa_cons (pe_bltn (v := .ty "tuple") (by rfl) T.n_tuple (by decide +kernel) rfl) pa_nil))))) (pw_or1 (pt_cmpR op_ne (pe_callB call_len (by rfl) T.n_len (by decide +kernel) (pa_cons (pv 0) pa_nil)) pe_int (nomark _))))) (pss_one (ps_ret pe_bl)) pss_nil)
      (pss_cons (ps_asg (pv 0) (pg_tup rfl (pgs_cons (pg_name (i := 2) sc_is_link.nd rfl (Or.inl rfl)) (pgs_cons (pg_name (i := 3) sc_is_link.nd rfl (Or.inl rfl)) (pgs_cons (pg_name (i := 4) sc_is_link.nd rfl (Or.inl rfl)) (pgs_cons (pg_name (i := 5) sc_is_link.nd rfl (Or.inl rfl)) pgs_nil))))))
      (pss_one (ps_ret (pe_and (pe_cmpR (op_inO (roomU1 hr)) (pv 2) (pv 1) rfl) (pe_and (pe_cmpR (op_inO (roomU1 hr)) (pv 3) (pv 1) rfl) (pe_and (pe_cmpR op_lt_str (pv 2) (pv 3) (nomark _)) (pe_and (pe_call G_is_length (hr.mono (by decide)) rfl T.g_is_length T.k_is_length T.b_is_length .nil pass0 (pa_cons (pv 4) pa_nil)) (pe_one (pe_call G_is_length (hr.mono (by decide)) rfl T.g_is_length T.k_is_length T.b_is_length .nil pass0 (pa_cons (pv 5) pa_nil))))))))))), ?_⟩
    obtain ⟨t, ty, _, _, _, e4⟩ := hd.kits
    refine ⟨_, rfl, _, _, _, _, _, rfl, .ty _, ty, e4, _, rfl, ?_⟩
    have no : ¬ LinkD zs d → Q (.bl false) H := fun n => k false ⟨fun q => (by cases q), fun q => absurd q n⟩
    refine ifB (fun c => ?_) fun c => ?_
    · exact no fun ⟨k, e, _⟩ => by rw [e] at c; cases c
    have c2 : tupB d = true := by
      cases q : tupB d
      · rw [q] at c
        cases c
      · rfl
    obtain ⟨p, xs, ds, rfl, rfl, hx, ha⟩ := tupB_of hd c2
    have lx := dd_len ha
    refine ⟨_, rfl, _, _, rfl, .inr ⟨_, hx, rfl⟩, rfl, _, rfl, ite2 (fun c => ?_) fun c => ?_⟩
    · refine no fun z => ?_
      rw [link_four z] at lx
      rw [lx] at c
      exact absurd (show (!decide (V.int 4 = V.int 4)) = true from c) (by decide)
    have l4 : xs.length = 4 := by
      refine Classical.byContradiction fun z => c ?_
      show (!decide (V.int ((xs.length : Nat) : Int) = V.int 4)) = true
      rw [decide_eq_false (fun y => z (by injection y with y; omega))]
      rfl
    rw [l4] at lx
    match xs, ds, ha, l4, lx with
    | [x0, x1, x2, x3], [d0, d1, d2, d3], .cons h0 (.cons h1 (.cons h2 (.cons h3 .nil))), _, _ =>
    rw [link_iff] at k no
    refine nxt ?_
    refine ⟨_, rfl, p, _, rfl, hx, rfl, _, _, rfl, _, _, rfl, _, _, rfl, _, _, rfl, rfl, ?_⟩
    refine nxt ?_
    refine ⟨_, rfl, _, rfl, r, zs, rfl, hz, h0.odd, _, rfl, ifB (fun c0 => ?_) fun c0 => ?_⟩
    · obtain ⟨a, rfl, ha⟩ := (in_D h0).mp c0
      cases h0
      refine ⟨_, rfl, _, rfl, r, zs, rfl, hz, h1.odd, _, rfl, ifB (fun c1 => ?_) fun c1 => ?_⟩
      · obtain ⟨b, rfl, hb⟩ := (in_D h1).mp c1
        cases h1
        refine ⟨_, rfl, _, rfl, _, _, rfl, rfl, _, rfl, ifB (fun c2 => ?_) fun c2 => ?_⟩
        · refine ⟨_, rfl, _, _, rfl, h2, _, rfl, ifB (fun c3 => ?_) fun c3 => ?_⟩
          · refine ⟨_, rfl, _, _, rfl, h3, ?_⟩
            exact k _ ⟨fun q => ⟨a, b, rfl, rfl, ha, hb, of_decide_eq_true c2, c3, q⟩, fun ⟨_, _, _, _, _, _, _, _, q⟩ => q⟩
          · first | (refine no ?_) | (rw [c3]; refine no ?_)
            rintro ⟨_, _, _, _, _, _, _, q, _⟩
            rw [c3] at q
            cases q
        · first | (refine no ?_) | (rw [c2]; refine no ?_)
          rintro ⟨_, _, e1, e2, _, _, q, _⟩
          cases e1
          cases e2
          exact absurd (decide_eq_true q) (by rw [c2]; decide)
      · first | (refine no ?_) | (rw [c1]; refine no ?_)
        rintro ⟨_, b, _, e2, _, hb, _⟩
        exact absurd ((in_D h1).mpr ⟨b, e2, hb⟩) (by have z : zs.any (isStr x1) = false := c1; rw [z]; decide)
    · first | (refine no ?_) | (rw [c0]; refine no ?_)
      rintro ⟨a, _, e1, _, ha, _⟩
      exact absurd ((in_D h0).mpr ⟨a, e1, ha⟩) (by have z : zs.any (isStr x0) = false := c0; rw [z]; decide)
theorem ok_linksA (T : Txt K mg ca ia fa fd fi) : FnOk P w K mg base CX0 5 (fa 25) (fd 25) ["value", "routers"] (spLinksA K) := by
  have G_is_link := ok_linkA (P := P) (w := w) (base := base) T
  have G_is_rising := ok_risA (P := P) (w := w) (base := base) T
  obtain ⟨t1, hv_MOST_LINKS⟩ := T.v_MOST_LINKS
  refine T.F_are_links.ok sc_are_links (fun vs H Q E h => ?_) (fun cdv A outer s H vs Q E hr h => ?_)
  · obtain ⟨v, r, zs, d, rfl, _⟩ := h
    rfl
  · obtain ⟨v, r, zs, d, rfl, hd, hz, k⟩ := h
    refine ⟨_, (pss_cons (ps_if (PW.pt (pw_or (pt_not (pt_val (pe_callB call_isi (by rfl) T.n_isinstance (by decide +kernel) (pa_cons (pv 0) (pa_cons (pe_bltn (v := .ty "tuple") (by rfl) T.n_tuple (by decide +kernel) rfl) pa_nil))))) (pw_or1 (pt_cmpR op_gt (pe_callB call_len (by rfl) T.n_len (by decide +kernel) (pa_cons (pv 0) pa_nil)) (pe_glob rfl hv_MOST_LINKS (v := .int 16) ⟨_, rfl⟩) (nomark _))))) (pss_one (ps_ret pe_bl)) pss_nil)
      (pss_one (ps_ret (pe_and (pe_callB (cr_all rfl) (by rfl) T.n_all (by decide +kernel) (pa_cons (pe_lc (own := [("link", 2)]) (g := (gName 2)) (tt := tYes) rfl sc_are_links.nd (pi_tup (pv 0)) (blkOk_by (own := [("link", 2)]) (N := N_are_links) (sc := defScope s_are_links) (by decide +kernel)) (fun _ _ _ _ _ => (pg_name (i := 2) sc_are_links.nd rfl (Or.inl rfl))) (fun _ _ _ _ _ => pts_nil) (fun _ _ _ _ _ => by exact (pe_call G_is_link (hr.mono (by decide)) rfl T.g_is_link T.k_is_link T.b_is_link .nil pass0 (pa_cons (pv 2) (pa_cons (pv 1) pa_nil))))) pa_nil)) (pe_one (pe_call G_is_rising (hr.mono (by decide)) rfl T.g_is_rising T.k_is_rising T.b_is_rising .nil pass0 (pa_cons (pe_lc (own := [("link", 2)]) (g := (gName 2)) (tt := tYes) (te := (tSl (rSlA K) (tVar 2) tNoPart (tPart (tC (.int 2))))) rfl sc_are_links.nd (pi_tup (pv 0)) (blkOk_by (own := [("link", 2)]) (N := N_are_links) (sc := defScope s_are_links) (by decide +kernel)) (fun _ _ _ _ _ => (pg_name (i := 2) sc_are_links.nd rfl (Or.inl rfl))) (fun _ _ _ _ _ => pts_nil) (fun _ _ _ _ _ => by exact (pe_slice sl_tupA (pv 2) po_none (po_some pe_int)))) pa_nil))))))), ?_⟩
    obtain ⟨t, ty, _, _, _, e4⟩ := hd.kits
    refine ⟨_, rfl, _, _, _, _, _, rfl, .ty _, ty, e4, _, rfl, ?_⟩
    have no : ¬ LinksD zs d → Q (.bl false) H := fun n => k false ⟨fun q => (by cases q), fun q => absurd q n⟩ H (Same.refl H)
    refine ifB (fun c => ?_) fun c => ?_
    · exact no fun ⟨k, e, _⟩ => by rw [e] at c; cases c
    have c2 : tupB d = true := by
      cases q : tupB d
      · rw [q] at c
        cases c
      · rfl
    obtain ⟨p, xs, ds, rfl, rfl, hx, ha⟩ := tupB_of hd c2
    have lx := dd_len ha
    refine ⟨_, rfl, _, _, rfl, .inr ⟨_, hx, rfl⟩, _, _, rfl, rfl, _, rfl, ite2 (fun c => ?_) fun c => ?_⟩
    · have c1 := of_decide_eq_true c
      refine no fun ⟨kk, e, l, _⟩ => ?_
      injection e with e
      rw [lx, e, List.length_map] at c1
      omega
    have c1 : ¬ ((16 : Int) < (xs.length : Nat)) := fun q => c (decide_eq_true q)
    refine nxt ?_
    refine ⟨_, rfl, p, rfl, ⟨_, hx⟩, fun D hD => ?_⟩
    refine lc_it (walk_tup (xs := xs)) (fun i H' => ∃ bs : List Bool, bs.length = i ∧ H' D = some (.lst (bs.map V.bl)) ∧ Same H H' ∧ (bs.all id = true ↔ ∀ e ∈ ds.take i, LinkD zs e))
      ⟨[], rfl, upd_same, same_new hD, by simp⟩ (fun i H' _ q => ?_) ?_ ?_
    · obtain ⟨_, _, _, q, _⟩ := q
      exact SqT.same q hx
    · rintro i x H1 H2 hi ⟨bs, lb, hb, s1, iff1⟩ ⟨rfl, hxi⟩
      obtain ⟨e, he, hde⟩ := dd_at ha hxi
      refine ⟨rfl, ?_⟩
      dsimp only [tYes]
      rw [if_pos rfl]
      refine ⟨_, rfl, _, rfl, _, r, zs, e, rfl, hde.same s1, SqT.same s1 hz, fun b hb2 => ⟨_, hb, ?_, bs ++ [b], by simp [lb], ?_, Same.upd_at s1 hD, all_more he hb2 iff1⟩⟩
      · rw [List.length_map, sizeLine_eq]
        omega
      · rw [upd_same, List.map_append]
        rfl
    · rintro H1 ⟨bs, lb, hb, s1, iff1⟩
      rw [lx, List.take_length] at iff1
      refine ⟨D, bs, rfl, SqL.of hb, _, rfl, ifB (fun c => ?_) fun c => ?_⟩
      · obtain ⟨ks, ex, ed, el⟩ := links_of ha (iff1.1 c)
        subst ex
        subst ed
        rw [List.length_map] at c1
        refine ⟨_, rfl, p, rfl, ⟨_, SqT.same s1 hx⟩, fun D2 hD2 => ?_⟩
        refine lc_it (walk_tup (xs := ks.map fun q => V.ref q.1)) (fun i H' => ∃ ts : List (Addr × List Key), Prs K H' ks ts i D2 ∧ Same H1 H')
          ⟨[], ⟨by rw [List.take_zero]; rfl, upd_same, fun _ q => (by cases q)⟩, same_new hD2⟩ (fun i H' _ q => ?_) ?_ ?_
        · obtain ⟨_, _, q⟩ := q
          exact SqT.same (s1.trans q) hx
        · rintro i x H2 H3 hi ⟨ts, pr, s2⟩ ⟨rfl, hxi⟩
          obtain ⟨q, hq, rfl⟩ := at_map hxi
          refine ⟨rfl, ?_⟩
          dsimp only [tYes]
          rw [if_pos rfl]
          refine ⟨_, rfl, _, rfl, slA (SqT.same (s1.trans s2) (el q (List.mem_of_getElem? hq)).1) fun t H4 s4 ht => ?_⟩
          rw [show cutV (q.2.map kV) none (some 2) = (q.2.take 2).map kV from by rw [List.map_take]; exact cut_take _ 2] at ht
          have pr4 := pr.same s4
          refine ⟨_, pr4.at_, ?_, _, pr4.push hq ht, Same.upd_at (s2.trans s4) hD2⟩
          rw [List.length_map, pr.len, sizeLine_eq]
          omega
        · rintro H2 ⟨ts, pr, s2⟩
          rw [List.length_map] at pr
          refine ⟨D2, rfl, .inr ⟨ts, [false, false], SqL.of pr.at_, fun q hq => ⟨pr.el q hq, ?_⟩, by rw [pr.len]; omega, fun b hb2 H3 s3 => k b ?_ H3 ((s1.trans s2).trans s3)⟩⟩
          · have m : q.2 ∈ ts.map (·.2) := List.mem_map_of_mem hq
            rw [pr.et] at m
            obtain ⟨u, hu, e⟩ := List.mem_map.mp m
            obtain ⟨_, a, b, x, y, e2, _⟩ := el u (List.mem_of_mem_take hu)
            rw [← e, e2]
            rfl
          · rw [hb2, pr.adj]
            exact ⟨fun q => ⟨_, rfl, by rw [List.length_map]; omega, fun k hk => by
              obtain ⟨u, hu, rfl⟩ := List.mem_map.mp hk
              exact (el u hu).2, q⟩, fun ⟨kk, e, _, _, q⟩ => by
              injection e with e
              rw [kDs_inj e]
              exact q⟩
      · refine k false ⟨fun q => (by cases q), fun ⟨kk, e, _, el, _⟩ => ?_⟩ H1 s1
        have z := iff1.2 fun d hd => by
          injection e with e
          rw [e] at hd
          obtain ⟨y, hy, rfl⟩ := List.mem_map.mp hd
          exact ⟨y, rfl, el y hy⟩
        rw [c] at z
        cases z
end
end Toy
set_option Elab.async false
set_option linter.all false
set_option maxRecDepth 100000
set_option maxHeartbeats 8000000
namespace Toy
open PySem L2 Q RZ D7
/-! ### Net(routers, links) of any data -/
/-- a net at n with these parts -/
def NetV (C : Addr) (H : Hp) (n : Addr) (r l : V) : Prop := ∃ dx, H n = some (.ins C dx [("_routers", r), ("_links", l)])
theorem NetV.same {C : Addr} {H H' : Hp} {n : Addr} {r l : V} (h : NetV C H n r l) (s : Same H H') : NetV C H' n r l := let ⟨dx, e⟩ := h; ⟨dx, s _ _ e⟩
/-- parts of a net, as data -/
def NetD (d1 d2 : PyData) : Prop := ∃ zs kk, RtD zs d1 ∧ LkD zs kk d2
theorem strs_at {K : PySem.W.Frag} {H : Hp} : ∀ {xs : List V} {zs : List Str}, DdAll K H xs (zs.map PyData.str) → xs = zs.map V.str
  | _, [], h => by cases h; rfl
  | _, a :: k, h => by
    rw [List.map_cons] at h
    cases h with
    | cons h t =>
      rw [strs_at t, List.map_cons]
      cases h
      rfl
theorem rt_at {K : PySem.W.Frag} {H : Hp} {v : V} {zs : List Str} (h : Dd K H v (.tuple (zs.map PyData.str))) : ∃ a, v = .ref a ∧ SqT K H a (zs.map V.str) := by
  cases h with
  | tup h a =>
    rw [strs_at a] at h
    exact ⟨_, rfl, h⟩
theorem netD_iff {zs : List Str} {d1 d2 : PyData} (h : RtD zs d1) : NetD d1 d2 ↔ LinksD zs d2 := by
  constructor
  · rintro ⟨ys, kk, h1, h2⟩
    have e := h1.1
    rw [h.1] at e
    injection e with e
    rw [str_inj e]
    exact ⟨kk, h2⟩
  · rintro ⟨kk, h2⟩
    exact ⟨zs, kk, h, h2⟩
def spInitA (K : PySem.W.Frag) (C B : Addr) : Sp := fun vs H Q E => ∃ (x : Addr) (r l : V) (d1 d2 : PyData), vs = [.ref x, r, l] ∧ (∃ dx, H x = some (.ins C dx [])) ∧ Dd K H r d1 ∧ Dd K H l d2 ∧ Txs d1 ∧
  (NetD d1 d2 → ∀ H', But x H H' → NetV C H' x r l → Q .non H') ∧
  (¬ NetD d1 d2 → ∀ d t H', Same H H' → H' d = some (.xd [("value", .ref t)]) → H' t = some (.tup [r, l]) → E (.ref B) (some d) H')
theorem mk_netA {K : PySem.W.Frag} {C B : Addr} {H : Hp} {r l : V} {d1 d2 : PyData} {Q : VK} {E : XK} (hr : Dd K H r d1) (hl : Dd K H l d2) (tx : Txs d1)
    (ok : NetD d1 d2 → ∀ n H', H n = none → Same H H' → NetV C H' n r l → Q (.ref n) H')
    (no : ¬ NetD d1 d2 → ∀ d t H', Same H H' → H' d = some (.xd [("value", .ref t)]) → H' t = some (.tup [r, l]) → E (.ref B) (some d) H') :
    ∀ x dx, H x = none → H dx = none → dx ≠ x → spInitA K C B (.ref x :: ([r, l] ++ [])) (upd (upd H dx (.own x)) x (.ins C dx [])) (fun v H2 => v = .non ∧ Q (.ref x) H2) E := by
  intro x dx nx nd ne
  have s1 : Same H (upd (upd H dx (.own x)) x (.ins C dx [])) := fun b o e => by
    rw [upd_ne (ne_of_none e nx), upd_ne (ne_of_none e nd)]
    exact e
  refine ⟨x, r, l, d1, d2, rfl, ⟨dx, upd_same⟩, hr.same s1, hl.same s1, tx, fun h H' b n => ⟨rfl, ok h x H' nx (fun c o e => b c o (ne_of_none e nx) (s1 _ _ e)) n⟩, fun h d t H' s e1 e2 => no h d t H' (s1.trans s) e1 e2⟩
section
variable {P : Program} {w : World} {K : PySem.W.Frag} {mg : Str → Option Value} {base : Heap} {ca ia fa : Nat → Addr} {fd fi : Nat → FuncData}
theorem ok_initA (T : Txt K mg ca ia fa fd fi) : FnOk P w K mg base (L2.CX P w) 6 (ia 100) (fi 100) ["self", "routers", "links"] (spInitA K (ca 20) (ca 3)) := by
  have G_are_routers := ok_routersA (P := P) (w := w) (base := base) T
  have G_are_links := ok_linksA (P := P) (w := w) (base := base) T
  refine T.F_m_init.okX sc_m_init (fun vs H Q E h => ?_) (fun cdv A outer s H vs Q E hr h => ?_)
  · obtain ⟨x, r, l, d1, d2, rfl, _⟩ := h
    rfl
  · obtain ⟨x, r, l, d1, d2, rfl, ⟨dx, hx⟩, hr1, hl, tx, ok, no⟩ := h
    refine ⟨_, (pss_cons (ps_if (PW.pt (pw_or (pt_not (pt_val (pe_call G_are_routers (hr.mono (by decide)) rfl T.g_are_routers T.k_are_routers T.b_are_routers .nil pass0 (pa_cons (pv 1) pa_nil)))) (pw_or1 (pt_not (pt_val (pe_call G_are_links (hr.mono (by decide)) rfl T.g_are_links T.k_are_links T.b_are_links .nil pass0 (pa_cons (pv 2) (pa_cons (pv 1) pa_nil)))))))) (pss_one (ps_raise rfl (takes_of rfl rfl rfl rfl) (pmk_oex T.c_BadNet.oex T.iC_BadNet T.tI_BadNet (in_BadNet T) (hr.mono (by decide)) T.bi_BadNet .nil pass0 rfl T.c_BadNet.g (pa_cons (pe_tup (pa_cons (pv 1) (pa_cons (pv 2) pa_nil))) pa_nil)))) pss_nil)
      (pss_cons (ps_fld (pv 0) (pv 1) rfl)
      (pss_one (ps_fld (pv 0) (pv 2) rfl)))), ?_⟩
    have bad : ∀ H', Same H H' → ¬ NetD d1 d2 → ∀ t, H' t = none → ∀ d H2, Same (upd H' t (.tup [r, l])) H2 → H2 d = some (.xd [("value", .ref t)]) → E (.ref (ca 3)) (some d) H2 := fun H' s n t nt d H2 s2 e => no n d t H2 ((s.trans (same_new nt)).trans s2) e (s2 _ _ upd_same)
    have raise : ∀ H', Same H H' → ¬ NetD d1 d2 → tMkO (ca 3) (spI1 (ca 3) "value") [] (tCons (tTup (tCons (tVar 1) (tCons (tVar 2) tNil))) tNil) (L2.start N_m_init [V.ref x, r, l]) H' E := fun H' s n =>
      ⟨_, rfl, _, rfl, (by show 2 ≤ sizeLine; decide), fun t nt => oexc fun d H2 s2 e => bad H' s n t nt d H2 s2 e⟩
    refine ⟨_, rfl, r, d1, rfl, hr1, tx, fun b hb H1 s1 => ?_⟩
    cases b with
    | false => exact ⟨_, rfl, raise H1 s1 fun ⟨zs, kk, q, _⟩ => by cases hb.2 ⟨zs, q⟩⟩
    | true =>
      obtain ⟨zs, hz⟩ := hb.1 rfl
      obtain ⟨a, rfl, ha⟩ := rt_at (by rw [← hz.1]; exact hr1)
      refine ⟨_, rfl, ?_⟩
      refine ⟨_, rfl, _, rfl, l, a, zs, d2, rfl, hl.same s1, SqT.same s1 ha, fun b2 hb2 H2 s2 => ?_⟩
      cases b2 with
      | false => exact ⟨_, rfl, raise H2 (s1.trans s2) fun q => by cases hb2.2 ((netD_iff hz).mp q)⟩
      | true =>
        refine ⟨_, rfl, ?_⟩
        show Ends.nx _ _ _
        refine nxt ?_
        have hx2 := s2 _ _ (s1 _ _ hx)
        refine ⟨_, rfl, _, rfl, x, _, dx, _, rfl, hx2, T.cl_Net, T.no_Net_routers, (by show 0 < 1000; decide), ?_⟩
        refine nxt ?_
        refine ⟨_, rfl, _, rfl, x, _, dx, _, rfl, upd_same, T.cl_Net, T.no_Net_links, (by show 1 < 1000; decide), ?_⟩
        refine ok ((netD_iff hz).mpr (hb2.1 rfl)) _ (fun c o nc e => ?_) ⟨dx, ?_⟩
        · rw [upd_ne nc, upd_ne nc]
          exact s2 _ _ (s1 _ _ e)
        · rw [upd_same]
          exact congrArg (fun z => some (HO.ins _ dx z)) (put_links _ _)
end
end Toy
set_option Elab.async false
set_option linter.all false
set_option maxRecDepth 100000
set_option maxHeartbeats 8000000
namespace Toy
open PySem L2 Q RZ D7 TL
theorem iteB2 {c : Bool} {A B : Prop} (h : c = false) (b : B) : if c = true then A else B := by
  rw [h]
  exact b
theorem ifE {c : Bool} {A B : Prop} (h1 : c = true → A) (h2 : c = false → B) : if c = true then A else B := by
  cases c with
  | true => exact h1 rfl
  | false => exact h2 rfl
theorem ixT {K : PySem.W.Frag} {H : Hp} {a : Addr} {xs : List V} (h : SqT K H a xs) (i : Nat) {v : V} {Q : VK} (e : xs[i]? = some v) (q : Q v H) : rIx K (.ref a) (.int (i : Int)) H Q :=
  .inr (.inl ⟨a, xs, (i : Int), v, rfl, rfl, h, atI_nat e, q⟩)
theorem ixL {K : PySem.W.Frag} {H : Hp} {a : Addr} {xs : List V} (h : SqL K H a xs) (i : Nat) {v : V} {Q : VK} (e : xs[i]? = some v) (q : Q v H) : rIx K (.ref a) (.int (i : Int)) H Q :=
  .inl ⟨a, xs, (i : Int), v, rfl, rfl, h, atI_nat e, q⟩
theorem digS (c : Nat) : (!decide ((⟨#[c]⟩ : Str).cps.toList < (Str.ofString "0").cps.toList)) = decide (48 ≤ c) ∧ (!decide ((Str.ofString "9").cps.toList < (⟨#[c]⟩ : Str).cps.toList)) = decide (c ≤ 57) := by
  have ea : (Str.ofString "0").cps.toList = [48] := by decide +kernel
  have ez : (Str.ofString "9").cps.toList = [57] := by decide +kernel
  rw [ea, ez]
  constructor
  · rw [Bool.eq_iff_iff]
    simp [List.cons_lt_cons_iff]
  · rw [Bool.eq_iff_iff]
    simp [List.cons_lt_cons_iff]
theorem tx0 : tl (tx "0") = [48] := by decide +kernel
/-- number_of(word) -/
def spNumA : Sp := fun vs H Q _ => ∃ w : Str, vs = [.str w] ∧ w.length ≤ 100000 ∧ (NumOk w → ∀ H', Same H H' → Q (.int (valW w : Int)) H') ∧ (¬ NumOk w → ∀ H', Same H H' → Q .non H')
section
variable {P : Program} {w : World} {K : PySem.W.Frag} {mg : Str → Option Value} {base : Heap} {ca ia fa : Nat → Addr} {fd fi : Nat → FuncData}
theorem ok_numA (T : Txt K mg ca ia fa fd fi) : FnOk P w K mg base CX0 1 (fa 15) (fd 15) ["word"] spNumA := by
  refine T.F_number_of.ok sc_number_of (fun vs H Q E h => ?_) (fun cdv A outer s H vs Q E hr h => ?_)
  · obtain ⟨z, rfl, _⟩ := h
    rfl
  · obtain ⟨z, rfl, zl, kY, kN⟩ := h
    obtain ⟨tk9, hv_MOST_DIGITS⟩ := T.v_MOST_DIGITS
    refine ⟨_, (pss_cons (ps_if (PW.pt (pw_or (pt_not (pt_chain op_le op_le pe_int (pe_callB call_len (by rfl) T.n_len (by decide +kernel) (pa_cons (pv 0) pa_nil)) (pe_glob rfl hv_MOST_DIGITS (v := .int 9) ⟨_, rfl⟩))) (pw_or1 (pt_not (pt_val (pe_callB (cr_all rfl) (by rfl) T.n_all (by decide +kernel) (pa_cons (pe_lc (own := [("digit", 1)]) (g := (gName 1)) (tt := tYes) rfl sc_number_of.nd (pi_str (pv 0)) (blkOk_by (own := [("digit", 1)]) (N := N_number_of) (sc := defScope s_number_of) (by decide +kernel)) (fun _ _ _ _ _ => (pg_name (i := 1) sc_number_of.nd rfl (Or.inl rfl))) (fun _ _ _ _ _ => pts_nil) (fun _ _ _ _ _ => by exact (pe_chain op_le_str op_le_str pe_str (pv 1) pe_str))) pa_nil))))))) (pss_one (ps_ret pe_non)) pss_nil)
      (pss_one (ps_ret (pe_ifExp (PW.pt (pw_or (pt_cmpR op_eq (pv 0) pe_str (nomark _)) (pw_or1 (pt_cmpR op_ne (pe_ix ix_seq (pv 0) pe_int (fun _ _ => rfl)) pe_str (nomark _))))) (pe_callTy call_int_str (by rfl) T.n_int (by decide +kernel) (pa_cons (pv 0) pa_nil)) pe_non)))), ?_⟩
    have lenV : LenV K (.str z) H z.length := ⟨by rw [sizeLine_eq]; omega, rfl⟩
    refine ⟨_, rfl, _, _, rfl, lenV, _, _, rfl, rfl, _, rfl, ifE (fun c1 => ?_) fun c1 => ?_⟩
    rotate_left
    · have l1 : ¬ (1 : Int) ≤ (z.length : Nat) := of_decide_eq_false c1
      exact ⟨_, rfl, iteB rfl (kN (fun q => l1 (by have := q.1; omega)) H (Same.refl H))⟩
    have l1 : (1 : Int) ≤ (z.length : Nat) := of_decide_eq_true c1
    refine ⟨_, _, rfl, rfl, _, rfl, ifE (fun c2 => ?_) fun c2 => ?_⟩
    · have l2 : ¬ ((z.length : Nat) : Int) ≤ 9 := fun q => by
        rw [decide_eq_true q] at c2
        cases c2
      exact kN (fun q => l2 (by have := q.2.1; omega)) H (Same.refl H)
    have l2 : ((z.length : Nat) : Int) ≤ 9 := of_decide_eq_true (by simpa using c2)
    refine ⟨_, rfl, z, rfl, fun D hD => ?_⟩
    refine lc_it walk_str (fun i H' => ∃ bs : List Bool, bs.length = i ∧ H' D = some (.lst (bs.map V.bl)) ∧ Same H H' ∧ (bs.all id = true ↔ ∀ c ∈ (tl z).take i, 48 ≤ c ∧ c ≤ 57))
      ⟨[], rfl, upd_same, same_new hD, by simp⟩ (fun _ _ _ _ => trivial) ?_ ?_
    · rintro i x H1 H2 hi ⟨bs, lb, hb, s1, iff1⟩ ⟨rfl, c, hc, rfl⟩
      refine ⟨rfl, ?_⟩
      dsimp only [tYes]
      rw [if_pos rfl]
      have hi2 : i < z.length := hi
      have fin : ∀ b : Bool, (b = true ↔ 48 ≤ c ∧ c ≤ 57) → ∃ acc, H2 D = some (.lst acc) ∧ acc.length < sizeLine ∧ ∃ bs : List Bool, bs.length = i + 1 ∧ upd H2 D (.lst (acc ++ [.bl b])) D = some (.lst (bs.map V.bl)) ∧ Same H (upd H2 D (.lst (acc ++ [.bl b]))) ∧
          (bs.all id = true ↔ ∀ c ∈ (tl z).take (i + 1), 48 ≤ c ∧ c ≤ 57) := fun b hb2 => by
        refine ⟨_, hb, ?_, bs ++ [b], by simp [lb], ?_, Same.upd_at s1 hD, ?_⟩
        · rw [List.length_map, sizeLine_eq]
          omega
        · rw [upd_same, List.map_append]
          rfl
        · have hc2 : (tl z)[i]? = some c := by rw [Array.getElem?_toList]; exact hc
          rw [List.take_add_one, hc2, List.all_append, Bool.and_eq_true, iff1]
          constructor
          · rintro ⟨q1, q2⟩ d hd
            rcases List.mem_append.mp hd with q | q
            · exact q1 d q
            · have e : d = c := by simpa using q
              rw [e]
              exact hb2.1 (by simpa using q2)
          · intro q
            refine ⟨fun d hd => q d (List.mem_append_left _ hd), ?_⟩
            have e := hb2.2 (q c (List.mem_append_right _ (by simp)))
            simp [e]
      obtain ⟨low1, low2⟩ := digS c
      refine ⟨_, rfl, _, _, rfl, rfl, _, rfl, ifE (fun a1 => ?_) (fun a1 => ?_)⟩
      · rw [low1] at a1
        refine ⟨_, _, rfl, rfl, ?_⟩
        rw [low2]
        exact fin _ ⟨fun q => ⟨of_decide_eq_true a1, of_decide_eq_true q⟩, fun q => decide_eq_true q.2⟩
      · rw [low1] at a1
        exact fin _ ⟨fun q => (nomatch q), fun q => absurd q.1 (of_decide_eq_false a1)⟩
    · rintro H1 ⟨bs, lb, hb, s1, iff1⟩
      have e : (tl z).take z.cps.size = tl z := List.take_of_length_le (Nat.le_of_eq (Array.length_toList ..))
      rw [e] at iff1
      refine ⟨D, bs, rfl, SqL.of hb, ?_⟩
      refine ⟨_, rfl, ifE (fun c3 => ?_) fun c3 => ?_⟩
      · have nd : ¬ DigOk z := fun q => by
          rw [iff1.mpr q] at c3
          cases c3
        exact kN (fun q => nd q.2.2.1) H1 s1
      have dg : DigOk z := iff1.mp (by simpa using c3)
      refine nxt ?_
      have z1 : 1 ≤ z.length := by omega
      have z9 : z.length ≤ 9 := by omega
      obtain ⟨c0, l0, t0⟩ : ∃ c0 l0, tl z = c0 :: l0 := by
        cases e : tl z with
        | nil => rw [len_tl, e] at z1; exact absurd z1 (by decide)
        | cons c l => exact ⟨c, l, rfl⟩
      have go : NumOk z → (tCB (fun xs H Q => ∃ a n, xs = [V.str a] ∧ intText? a = some n ∧ a.length ≤ 640 ∧ Q (V.int n) H) (tCons (tVar 0) tNil)) (L2.start N_number_of [V.str z]) H1 Q := fun ok =>
        ⟨_, rfl, z, _, rfl, val_int ok, by omega, kY ok H1 s1⟩
      refine ⟨_, rfl, rfl, _, rfl, ifE (fun c4 => ?_) fun c4 => ?_⟩
      · have e0 := of_decide_eq_true c4
        injection e0 with e0
        exact go ⟨z1, z9, dg, .inl e0⟩
      have n0 : z ≠ tx "0" := fun q => of_decide_eq_false c4 (by rw [q])
      refine ⟨_, rfl, .inr (.inr ⟨z, 0, c0, rfl, rfl, by rw [sizeLine_eq]; omega, atI_nat (xs := z.cps.toList) (j := 0) (by rw [show z.cps.toList = c0 :: l0 from t0]; rfl), rfl, _, rfl, ifE (fun c5 => ?_) fun c5 => ?_⟩)⟩
      · refine go ⟨z1, z9, dg, .inr fun c hc => ?_⟩
        rw [t0] at hc
        injection hc with hc
        rintro rfl
        subst hc
        simp at c5
        exact c5 (by decide +kernel)
      · refine kN (fun ok => ?_) H1 s1
        rcases ok.2.2.2 with q | q
        · exact n0 q
        · have h := q c0 (by rw [t0]; rfl)
          have e5 := of_decide_eq_true (by simpa using c5 : decide (V.str (⟨#[c0]⟩ : Str) = V.str (Str.ofString "0")) = true)
          injection e5 with e5
          have t1 : tl (⟨#[c0]⟩ : Str) = tl (tx "0") := congrArg tl e5
          rw [tx0] at t1
          injection t1 with t1
          exact h t1
end
end Toy
set_option Elab.async false
set_option linter.all false
set_option maxRecDepth 9000
set_option maxHeartbeats 8000000
namespace Toy
open PySem L2 Q RZ D7 TL
/-! ### the program's link_of, routers_of, rows_of, net_parts of any text -/
theorem linkQ_five {r : Str} (h : (wordsOf r).length ≠ 5) : linkQ r = none := by
  unfold linkQ
  split
  · rename_i e
    rw [e] at h
    exact absurd rfl h
  · rfl
theorem linkQ_yes {r w0 a b x y : Str} (e : wordsOf r = [w0, a, b, x, y]) (c : w0 = tx "link" ∧ NameOk a ∧ NameOk b ∧ NumOk x ∧ NumOk y) : linkQ r = some [.inr a, .inr b, .inl (valW x : Int), .inl (valW y : Int)] := by
  unfold linkQ
  rw [e]
  exact if_pos c
theorem linkQ_no {r w0 a b x y : Str} (e : wordsOf r = [w0, a, b, x, y]) (c : ¬ (w0 = tx "link" ∧ NameOk a ∧ NameOk b ∧ NumOk x ∧ NumOk y)) : linkQ r = none := by
  unfold linkQ
  rw [e]
  exact if_neg c
theorem five_of {l : List Str} (h : l.length = 5) : ∃ w0 a b x y, l = [w0, a, b, x, y] := by
  match l, h with
  | [w0, a, b, x, y], _ => exact ⟨w0, a, b, x, y, rfl⟩
/-- what number_of answers -/
def NumAns (w : Str) (v : V) : Prop := (NumOk w ∧ v = .int (valW w : Int)) ∨ (¬ NumOk w ∧ v = .non)
theorem numA_both {w : Str} {H : Hp} {Q : VK} {E : XK} (l : w.length ≤ 9000) (k : ∀ v H', NumAns w v → Same H H' → Q v H') : spNumA [.str w] H Q E :=
  ⟨w, rfl, by omega, fun o H' s => k _ H' (.inl ⟨o, rfl⟩) s, fun o H' s => k _ H' (.inr ⟨o, rfl⟩) s⟩
def spLinkOfA : Sp := fun vs H Q _ => ∃ r : Str, vs = [.str r] ∧ r.length ≤ 9000 ∧ (∀ k, linkQ r = some k → ∀ t H', Same H H' → H' t = some (.tup (k.map kV)) → Q (.ref t) H') ∧ (linkQ r = none → ∀ H', Same H H' → Q .non H')
/-- links, laid one by one -/
def LinksAt (H : Hp) (F : Addr) (ls : List (Addr × List Key)) : Prop := H F = some (.lst (ls.map fun q => V.ref q.1)) ∧ ∀ q ∈ ls, H q.1 = some (.tup (q.2.map kV))
theorem parseR_none {r : Str} {rs : List Str} (e : routersW r = none) : parseR (r :: rs) = .bad 0 := by
  simp only [parseR, e]
theorem parseR_ok {r : Str} {rs : List Str} {zs : List Str} (e : routersW r = some zs) (l : (linksQ rs).length = rs.length) : parseR (r :: rs) = .ok zs (linksQ rs) := by
  simp only [parseR, e]
  rw [if_pos l]
theorem parseR_bad {r : Str} {rs : List Str} {zs : List Str} {i : Nat} (e : routersW r = some zs) (l : (linksQ rs).length = i) (ne : i ≠ rs.length) : parseR (r :: rs) = .bad (i + 1) := by
  simp only [parseR, e]
  rw [if_neg (by omega), l]
section
variable {P : Program} {w : World} {K : PySem.W.Frag} {mg : Str → Option Value} {base : Heap} {ca ia fa : Nat → Addr} {fd fi : Nat → FuncData}
theorem ok_linkOfA (T : Txt K mg ca ia fa fd fi) : FnOk P w K mg base CX0 2 (fa 32) (fd 32) ["row"] spLinkOfA := by
  have G_number_of := ok_numA (P := P) (w := w) (base := base) T
  have G_is_name := ok_nameA (P := P) (w := w) (base := base) T
  refine T.F_link_of.ok sc_link_of (fun vs H Q E h => ?_) (fun cdv A outer s H vs Q E hr h => ?_)
  · obtain ⟨r, rfl, _⟩ := h
    rfl
  · obtain ⟨r, rfl, len, kY, kN⟩ := h
    refine ⟨_, (pss_cons (ps_set (i := 1) sc_link_of.nd rfl (Or.inl rfl) (pe_split (pv 0) pe_str))
      (pss_cons (ps_if (PW.pt (pw_or (pt_cmpR op_ne (pe_callB call_len (by rfl) T.n_len (by decide +kernel) (pa_cons (pv 1) pa_nil)) pe_int (nomark _)) (pw_or1 (pt_cmpR op_ne (pe_ix ix_seq (pv 1) pe_int (fun _ _ => rfl)) pe_str (nomark _))))) (pss_one (ps_ret pe_non)) pss_nil)
      (pss_cons (ps_asg (pe_tup (pa_cons (pe_ix ix_seq (pv 1) pe_int (fun _ _ => rfl)) (pa_cons (pe_ix ix_seq (pv 1) pe_int (fun _ _ => rfl)) (pa_cons (pe_call G_number_of (hr.mono (by decide)) rfl T.g_number_of T.k_number_of T.b_number_of .nil pass0 (pa_cons (pe_ix ix_seq (pv 1) pe_int (fun _ _ => rfl)) pa_nil)) (pa_cons (pe_call G_number_of (hr.mono (by decide)) rfl T.g_number_of T.k_number_of T.b_number_of .nil pass0 (pa_cons (pe_ix ix_seq (pv 1) pe_int (fun _ _ => rfl)) pa_nil)) pa_nil))))) (pg_tup rfl (pgs_cons (pg_name (i := 2) sc_link_of.nd rfl (Or.inl rfl)) (pgs_cons (pg_name (i := 3) sc_link_of.nd rfl (Or.inl rfl)) (pgs_cons (pg_name (i := 4) sc_link_of.nd rfl (Or.inl rfl)) (pgs_cons (pg_name (i := 5) sc_link_of.nd rfl (Or.inl rfl)) pgs_nil))))))
      (pss_cons (ps_if (PW.pt (pw_or (pt_not (pt_val (pe_call G_is_name (hr.mono (by decide)) rfl T.g_is_name T.k_is_name T.b_is_name .nil pass0 (pa_cons (pv 2) pa_nil)))) (pw_or (pt_not (pt_val (pe_call G_is_name (hr.mono (by decide)) rfl T.g_is_name T.k_is_name T.b_is_name .nil pass0 (pa_cons (pv 3) pa_nil)))) (pw_or (pt_cmpR op_isN (pv 4) pe_non (nomark _)) (pw_or1 (pt_cmpR op_isN (pv 5) pe_non (nomark _))))))) (pss_one (ps_ret pe_non)) pss_nil)
      (pss_one (ps_ret (pe_tup (pa_cons (pv 2) (pa_cons (pv 3) (pa_cons (pv 4) (pa_cons (pv 5) pa_nil))))))))))), ?_⟩
    obtain ⟨wl, wn, wp⟩ := words_le r
    refine ⟨_, rfl, ⟨_, rfl⟩, _, _, rfl, rfl, by decide +kernel, by rw [sizeLine_eq]; omega, fun R nR => ?_⟩
    have sR := same_new (o := .lst ((wordsOf r).map V.str)) nR
    have hR : upd H R (.lst ((wordsOf r).map V.str)) R = some (.lst ((wordsOf r).map V.str)) := upd_same
    have eW : Txt.split r (Str.ofString " ") = wordsOf r := rfl
    rw [eW]
    generalize upd H R (.lst ((wordsOf r).map V.str)) = H1 at sR hR ⊢
    refine ⟨_, rfl, _, _, rfl, .inl ⟨_, SqL.of hR, rfl⟩, rfl, _, rfl, ?_⟩
    rw [List.length_map]
    refine ifE (fun c => ?_) fun c => ?_
    · exact kN (linkQ_five fun z => by rw [z] at c; simp at c) _ sR
    have n5 : (wordsOf r).length = 5 := by
      have h : ((wordsOf r).length : Int) = 5 := by simpa using c
      omega
    obtain ⟨w0, a, b, x, y, ew⟩ := five_of n5
    rw [ew] at hR wp
    have la := wp a (by simp)
    have lb := wp b (by simp)
    have lx := wp x (by simp)
    have ly := wp y (by simp)
    have at_ : ∀ {G : Hp} {i : Nat} {z : Str} {Q' : VK}, Same H1 G → ([w0, a, b, x, y] : List Str)[i]? = some z → Q' (.str z) G → rIx K (.ref R) (.int (i : Int)) G Q' := fun {G i z Q'} g e q =>
      ixL (SqL.of (g _ _ hR)) i (by rw [List.getElem?_map, e]; rfl) q
    refine ⟨_, rfl, at_ (Same.refl _) (i := 0) rfl ⟨rfl, _, rfl, ifE (fun c0 => ?_) fun c0 => ?_⟩⟩
    · refine kN (linkQ_no ew fun q => ?_) _ sR
      rw [q.1] at c0
      simp at c0
    have e0 : w0 = tx "link" := by
      have h := of_decide_eq_true (by simpa using c0 : decide (V.str w0 = V.str (Str.ofString "link")) = true)
      injection h
    refine nxt ?_
    refine ⟨_, rfl, at_ (Same.refl _) (i := 1) rfl ⟨_, rfl, at_ (Same.refl _) (i := 2) rfl ⟨_, rfl, at_ (Same.refl _) (i := 3) rfl ?_⟩⟩⟩
    dsimp only [tNil, List.cons_append, List.nil_append]
    refine numA_both (w := x) (by omega) fun v3 H2 a3 s2 => ?_
    refine ⟨_, rfl, at_ s2 (i := 4) rfl ?_⟩
    dsimp only [tNil, List.cons_append, List.nil_append]
    refine numA_both (w := y) (by omega) fun v4 H3 a4 s3 => ?_
    refine ⟨by show 4 ≤ sizeLine; decide, fun t nt => ?_⟩
    have st := same_new (o := .tup [.str a, .str b, v3, v4]) nt
    have ht : upd H3 t (.tup [.str a, .str b, v3, v4]) t = some (.tup [.str a, .str b, v3, v4]) := upd_same
    have s04 := ((sR.trans s2).trans s3).trans st
    generalize upd H3 t (.tup [.str a, .str b, v3, v4]) = H4 at ht s04 ⊢
    refine ⟨t, _, rfl, SqT.of ht, rfl, _, _, rfl, _, _, rfl, _, _, rfl, _, _, rfl, rfl, ?_⟩
    have nameD : ∀ {z : Str}, NameD (.str z) → NameOk z := fun {z} h => by
      obtain ⟨y, e, h⟩ := h
      injection e with e
      exact e ▸ h
    refine ⟨_, rfl, .str a, .str a, rfl, .str a, fun z e => by injection e with e; rw [← e]; omega, fun b1 h1 H5 s5 => ?_⟩
    refine ⟨_, rfl, ifE (fun c1 => ?_) fun c1 => ?_⟩
    · exact kN (linkQ_no ew fun q => by rw [h1.mpr ⟨a, rfl, q.2.1⟩] at c1; cases c1) _ (s04.trans s5)
    have na := nameD (h1.mp (by simpa using c1))
    refine ⟨_, rfl, .str b, .str b, rfl, .str b, fun z e => by injection e with e; rw [← e]; omega, fun b2 h2 H6 s6 => ?_⟩
    refine ⟨_, rfl, ifE (fun c2 => ?_) fun c2 => ?_⟩
    · exact kN (linkQ_no ew fun q => by rw [h2.mpr ⟨b, rfl, q.2.2.1⟩] at c2; cases c2) _ ((s04.trans s5).trans s6)
    have nb := nameD (h2.mp (by simpa using c2))
    have s06 := (s04.trans s5).trans s6
    have test : ∀ {z : Str} {v : V}, NumAns z v → (NumOk z ∧ v = .int (valW z : Int) ∧ decide (v = V.non) = false) ∨ (¬ NumOk z ∧ decide (v = V.non) = true) := fun {z v} h => by
      rcases h with ⟨h, rfl⟩ | ⟨h, rfl⟩
      · exact .inl ⟨h, rfl, rfl⟩
      · exact .inr ⟨h, rfl⟩
    refine ⟨_, rfl, rfl, _, rfl, ifE (fun c3 => ?_) fun c3 => ⟨_, rfl, rfl, _, rfl, ifE (fun c4 => ?_) fun c4 => ?_⟩⟩
    · refine kN (linkQ_no ew fun q => ?_) _ s06
      rcases test a3 with ⟨_, _, z⟩ | ⟨z, _⟩
      · rw [z] at c3
        cases c3
      · exact z q.2.2.2.1
    · refine kN (linkQ_no ew fun q => ?_) _ s06
      rcases test a4 with ⟨_, _, z⟩ | ⟨z, _⟩
      · rw [z] at c4
        cases c4
      · exact z q.2.2.2.2
    rcases test a3 with ⟨ok3, rfl, _⟩ | ⟨_, z⟩
    rotate_left
    · rw [z] at c3
      cases c3
    rcases test a4 with ⟨ok4, rfl, _⟩ | ⟨_, z⟩
    rotate_left
    · rw [z] at c4
      cases c4
    refine nxt ?_
    refine ⟨_, rfl, _, rfl, _, rfl, _, rfl, by show 4 ≤ sizeLine; decide, fun t2 nt2 => ?_⟩
    exact kY _ (linkQ_yes ew ⟨e0, na, nb, ok3, ok4⟩) t2 _ (s06.trans (same_new nt2)) upd_same
theorem routersW_no {r w : Str} {zs : List Str} (e : wordsOf r = w :: zs) (c : ¬ (w = tx "routers" ∧ ∀ z ∈ zs, NameOk z)) : routersW r = none := by
  unfold routersW
  rw [e]
  exact if_neg c
theorem routersW_yes {r w : Str} {zs : List Str} (e : wordsOf r = w :: zs) (c : w = tx "routers" ∧ ∀ z ∈ zs, NameOk z) : routersW r = some zs := by
  unfold routersW
  rw [e]
  exact if_pos c
def spRoutersOfA : Sp := fun vs H Q _ => ∃ r : Str, vs = [.str r] ∧ r.length ≤ 9000 ∧ (∀ zs, routersW r = some zs → ∀ t H', Same H H' → H' t = some (.tup (zs.map V.str)) → Q (.ref t) H') ∧ (routersW r = none → ∀ H', Same H H' → Q .non H')
theorem ok_routersOfA (T : Txt K mg ca ia fa fd fi) : FnOk P w K mg base CX0 2 (fa 31) (fd 31) ["row"] spRoutersOfA := by
  have G_is_name := ok_nameA (P := P) (w := w) (base := base) T
  refine T.F_routers_of.ok sc_routers_of (fun vs H Q E h => ?_) (fun cdv A outer s H vs Q E hr h => ?_)
  · obtain ⟨r, rfl, _⟩ := h
    rfl
  · obtain ⟨r, rfl, len, kY, kN⟩ := h
    refine ⟨_, (pss_cons (ps_asg (pe_split (pv 0) pe_str) (pg_hd rfl (pg_name (i := 1) sc_routers_of.nd rfl (Or.inl rfl)) (pg_name (i := 2) sc_routers_of.nd rfl (Or.inl rfl))))
      (pss_cons (ps_if (PW.pt (pw_or (pt_cmpR op_ne (pv 1) pe_str (nomark _)) (pw_or1 (pt_not (pt_val (pe_callB (cr_all rfl) (by rfl) T.n_all (by decide +kernel) (pa_cons (pe_lc (own := [("name", 3)]) (g := (gName 3)) (tt := tYes) rfl sc_routers_of.nd (pi_list (pv 2)) (blkOk_by (own := [("name", 3)]) (N := N_routers_of) (sc := defScope s_routers_of) (by decide +kernel)) (fun _ _ _ _ _ => (pg_name (i := 3) sc_routers_of.nd rfl (Or.inl rfl))) (fun _ _ _ _ _ => pts_nil) (fun _ _ _ _ _ => by exact (pe_call G_is_name (hr.mono (by decide)) rfl T.g_is_name T.k_is_name T.b_is_name .nil pass0 (pa_cons (pv 3) pa_nil)))) pa_nil))))))) (pss_one (ps_ret pe_non)) pss_nil)
      (pss_one (ps_ret (pe_callTy call_tuple_of (by rfl) T.n_tuple (by decide +kernel) (pa_cons (pv 2) pa_nil)))))), ?_⟩
    obtain ⟨wl, wn, wp⟩ := words_le r
    obtain ⟨w0, zs, ew⟩ : ∃ w0 zs, wordsOf r = w0 :: zs := by
      cases e : wordsOf r with
      | nil => exact absurd e wn
      | cons a b => exact ⟨a, b, rfl⟩
    refine ⟨_, rfl, ⟨_, rfl⟩, _, _, rfl, rfl, by decide +kernel, by rw [sizeLine_eq]; omega, fun R nR => ?_⟩
    have sR := same_new (o := .lst ((w0 :: zs).map V.str)) nR
    have hR : upd H R (.lst ((w0 :: zs).map V.str)) R = some (.lst ((w0 :: zs).map V.str)) := upd_same
    have eW : Txt.split r (Str.ofString " ") = w0 :: zs := ew
    rw [eW]
    rw [ew, List.length_cons] at wl
    rw [ew] at wp
    generalize upd H R (.lst ((w0 :: zs).map V.str)) = H1 at sR hR ⊢
    refine ⟨R, .str w0, zs.map V.str, rfl, SqL.of hR, by rw [List.length_map]; omega, fun p np => ?_⟩
    have sp := same_new (o := .lst (zs.map V.str)) np
    have hp : upd H1 p (.lst (zs.map V.str)) p = some (.lst (zs.map V.str)) := upd_same
    have s02 := sR.trans sp
    generalize upd H1 p (.lst (zs.map V.str)) = H2 at sp hp s02 ⊢
    refine ⟨_, rfl, rfl, _, rfl, ifE (fun c0 => ?_) fun c0 => ?_⟩
    · refine kN (routersW_no ew fun q => ?_) _ s02
      rw [q.1] at c0
      simp at c0
    have e0 : w0 = tx "routers" := by
      have h := of_decide_eq_true (by simpa using c0 : decide (V.str w0 = V.str (Str.ofString "routers")) = true)
      injection h
    refine ⟨_, rfl, p, rfl, ⟨_, SqL.of hp⟩, fun D nD => ?_⟩
    refine lc_it (walk_list (xs := zs.map V.str)) (fun i H' => ∃ bs : List Bool, bs.length = i ∧ H' D = some (.lst (bs.map V.bl)) ∧ Same H2 H' ∧ (bs.all id = true ↔ ∀ z ∈ zs.take i, NameOk z)) ⟨[], rfl, upd_same, same_new nD, by simp⟩ (fun i H' _ ⟨_, _, _, q, _⟩ => SqL.of (q _ _ hp)) ?_ ?_
    · rintro i x Ha Hb hi ⟨bs, lb, hb, sm, iff1⟩ ⟨rfl, hx⟩
      obtain ⟨z, hz, rfl⟩ := at_map hx
      rw [List.length_map] at hi
      have lz := wp z (List.mem_cons_of_mem _ (List.mem_of_getElem? hz))
      refine ⟨rfl, ?_⟩
      dsimp only [tYes]
      rw [if_pos rfl]
      refine ⟨_, rfl, .str z, .str z, rfl, .str z, fun y e => by injection e with e; rw [← e]; omega, fun b1 h1 H5 s5 => ?_⟩
      refine ⟨_, s5 _ _ hb, by rw [List.length_map, sizeLine_eq]; omega, bs ++ [b1], by simp [lb], by rw [upd_same, List.map_append]; rfl, Same.upd_at (sm.trans s5) nD, ?_⟩
      rw [List.take_add_one, hz, List.all_append, Bool.and_eq_true, iff1]
      constructor
      · rintro ⟨q1, q2⟩ y hy
        rcases List.mem_append.mp hy with q | q
        · exact q1 y q
        · have e : y = z := by simpa using q
          obtain ⟨y2, e2, h2⟩ := h1.mp (by simpa using q2)
          injection e2 with e2
          rw [e, e2]
          exact h2
      · intro q
        refine ⟨fun y hy => q y (List.mem_append_left _ hy), ?_⟩
        have e := h1.mpr ⟨z, rfl, q z (List.mem_append_right _ (by simp))⟩
        simp [e]
    · rintro H3 ⟨bs, lb, hb, s3, iff1⟩
      rw [List.length_map, List.take_length] at iff1
      refine ⟨D, bs, rfl, SqL.of hb, ?_⟩
      refine ⟨_, rfl, ifE (fun c3 => ?_) fun c3 => ?_⟩
      · exact kN (routersW_no ew fun q => by rw [iff1.mpr q.2] at c3; cases c3) _ (s02.trans s3)
      have nz := iff1.mp (by simpa using c3)
      refine nxt ?_
      exact ⟨_, rfl, p, _, rfl, .inl ⟨SqL.of (s3 _ _ hp), fun t nt => kY zs (routersW_yes ew ⟨e0, nz⟩) t _ ((s02.trans s3).trans (same_new nt)) upd_same⟩⟩
def spRowsOfA (K : PySem.W.Frag) (B : Addr) : Sp := fun vs H Q E => ∃ (v : V) (d : PyData), vs = [v] ∧ Dd K H v d ∧ (∀ t, d = .str t → t.length ≤ 9000 ∧ ∀ R H', Same H H' → H' R = some (.lst ((rowsOf t).map V.str)) → Q (.ref R) H') ∧ (strB d = false → ∀ x H', Same H H' → H' x = some (.xd [("value", .non)]) → E (.ref B) (some x) H')
theorem ok_rowsOfA (T : Txt K mg ca ia fa fd fi) : FnOk P w K mg base (L2.CX P w) 3 (fa 29) (fd 29) ["text"] (spRowsOfA K (ca 6)) := by
  refine T.F_rows_of.okX sc_rows_of (fun vs H Q E h => ?_) (fun cdv A outer s H vs Q E hr h => ?_)
  · obtain ⟨v, d, rfl, _⟩ := h
    rfl
  · obtain ⟨v, d, rfl, hd, kY, kN⟩ := h
    refine ⟨_, (pss_cons (ps_if (pt_not (pt_val (pe_callB call_isi (by rfl) T.n_isinstance (by decide +kernel) (pa_cons (pv 0) (pa_cons (pe_bltn (v := .ty "str") (by rfl) T.n_str (by decide +kernel) rfl) pa_nil))))) (pss_one (ps_raise rfl (takes_of rfl rfl rfl rfl) (pmk_oex T.c_BadText.oex T.iC_BadText T.tI_BadText (in_BadText T) (hr.mono (by decide)) T.bi_BadText .nil pass0 rfl T.c_BadText.g (pa_cons pe_non pa_nil)))) pss_nil)
      (pss_one (ps_ret (pe_split (pv 0) pe_str)))), ?_⟩
    obtain ⟨t, ty, _, _, es, _⟩ := hd.kits
    refine ⟨_, rfl, v, .ty "str", _, _, strB d, rfl, .ty _, ty, es, _, rfl, ifE (fun c => ?_) fun c => ?_⟩
    · exact oexc fun x H' s e => kN (by simpa using c) x H' s e
    obtain ⟨z, rfl, rfl⟩ := strB_of hd (by simpa using c)
    obtain ⟨lz, kY⟩ := kY z rfl
    refine nxt ?_
    obtain ⟨wl, wn, wp⟩ := rows_le z
    refine ⟨_, rfl, ⟨_, rfl⟩, _, _, rfl, rfl, by decide +kernel, by rw [sizeLine_eq]; omega, fun R nR => ?_⟩
    exact kY R _ (same_new nR) upd_same
def spPartsA (B : Addr) : Sp := fun vs H Q E => ∃ (R : Addr) (rs : List Str), vs = [.ref R] ∧ H R = some (.lst (rs.map V.str)) ∧ rs ≠ [] ∧ rs.length ≤ 9001 ∧ (∀ r ∈ rs, r.length ≤ 9000) ∧
  (∀ i, parseR rs = .bad i → ∀ x H', Same H H' → H' x = some (.xd [("value", .int (i : Nat))]) → E (.ref B) (some x) H') ∧
  (∀ zs kk, parseR rs = .ok zs kk → ∀ (t r l : Addr) (ls : List (Addr × List Key)) (H' : Hp), Same H H' → H' t = some (.tup [.ref r, .ref l]) → H' r = some (.tup (zs.map V.str)) → H' l = some (.tup (ls.map fun q => V.ref q.1)) → (∀ q ∈ ls, H' q.1 = some (.tup (q.2.map kV))) → ls.map (·.2) = kk → Q (.ref t) H')
theorem ok_partsA (T : Txt K mg ca ia fa fd fi) : FnOk P w K mg base (L2.CX P w) 3 (fa 30) (fd 30) ["rows"] (spPartsA (ca 6)) := by
  have G_routers_of := ok_routersOfA (P := P) (w := w) (base := base) T
  have G_link_of := ok_linkOfA (P := P) (w := w) (base := base) T
  refine T.F_net_parts.okX sc_net_parts (fun vs H Q E h => ?_) (fun cdv A outer s H vs Q E hr h => ?_)
  · obtain ⟨R, rs, rfl, _⟩ := h
    rfl
  · obtain ⟨R, rs, rfl, hR, ne, few, lrs, kN, kY⟩ := h
    refine ⟨_, (pss_cons (ps_set (i := 1) sc_net_parts.nd rfl (Or.inl rfl) (pe_ifExp (pt_truth (pv 0) (fun _ => rfl)) (pe_call G_routers_of (hr.mono (by decide)) rfl T.g_routers_of T.k_routers_of T.b_routers_of .nil pass0 (pa_cons (pe_ix ix_seq (pv 0) pe_int (fun _ _ => rfl)) pa_nil)) pe_non))
      (pss_cons (ps_if (pt_cmpR op_isN (pv 1) pe_non (nomark _)) (pss_one (ps_raise rfl (takes_of rfl rfl rfl rfl) (pmk_oex T.c_BadText.oex T.iC_BadText T.tI_BadText (in_BadText T) (hr.mono (by decide)) T.bi_BadText .nil pass0 rfl T.c_BadText.g (pa_cons pe_int pa_nil)))) pss_nil)
      (pss_cons (ps_set (i := 2) sc_net_parts.nd rfl (Or.inl rfl) (pe_lst pa_nil))
      (pss_cons (ps_for (passes_of rfl) rfl (pi_enumS (by rfl) T.n_enumerate (pa_cons (pe_slice sl_list (pv 0) (po_some pe_int) po_none) pa_nil) (pk_cons pe_int pk_nil)) (pg_tup rfl (pgs_cons (pg_name (i := 3) sc_net_parts.nd rfl (Or.inl rfl)) (pgs_cons (pg_name (i := 4) sc_net_parts.nd rfl (Or.inl rfl)) pgs_nil))) (pss_cons (ps_set (i := 5) sc_net_parts.nd rfl (Or.inl rfl) (pe_call G_link_of (hr.mono (by decide)) rfl T.g_link_of T.k_link_of T.b_link_of .nil pass0 (pa_cons (pv 4) pa_nil)))
      (pss_cons (ps_if (pt_cmpR op_isN (pv 5) pe_non (nomark _)) (pss_one (ps_raise rfl (takes_of rfl rfl rfl rfl) (pmk_oex T.c_BadText.oex T.iC_BadText T.tI_BadText (in_BadText T) (hr.mono (by decide)) T.bi_BadText .nil pass0 rfl T.c_BadText.g (pa_cons (pv 3) pa_nil)))) pss_nil)
      (pss_one (ps_expr (pe_bm PySem.F.plainAttrs_list PySem.F.slot_list_append PySem.F.type_list_append mt_append (pv 2) (pa_cons (pv 5) pa_nil)))))))
      (pss_one (ps_ret (pe_tup (pa_cons (pv 1) (pa_cons (pe_callTy call_tuple_of (by rfl) T.n_tuple (by decide +kernel) (pa_cons (pv 2) pa_nil)) pa_nil))))))))), ?_⟩
    obtain ⟨r0, rest, rfl⟩ : ∃ r0 rest, rs = r0 :: rest := by
      cases rs with
      | nil => exact absurd rfl ne
      | cons a b => exact ⟨a, b, rfl⟩
    rw [List.length_cons] at few
    refine ⟨_, rfl, true, .inl ⟨_, SqL.of hR, by rw [List.isEmpty_map]; rfl⟩, iteB rfl ⟨_, rfl, ixL (SqL.of hR) 0 (v := .str r0) (by rw [List.getElem?_map]; rfl) ?_⟩⟩
    refine ⟨r0, rfl, lrs r0 (by simp), fun zs ez r H1 s1 hr1 => ?_, fun en H1 s1 => ?_⟩
    rotate_left
    · exact ⟨_, rfl, rfl, _, rfl, iteB rfl (oexc fun x H' s e => kN 0 (parseR_none en) x H' (s1.trans s) e)⟩
    refine ⟨_, rfl, rfl, _, rfl, iteB2 rfl ?_⟩
    refine nxt ?_
    refine ⟨by show 0 ≤ sizeLine; decide, fun F nF => ?_⟩
    have sF := same_new (o := .lst []) nF
    have hF : upd H1 F (.lst []) F = some (.lst []) := upd_same
    have s02 := s1.trans sF
    have hr2 := sF _ _ hr1
    generalize upd H1 F (.lst []) = H2 at sF hF s02 hr2 ⊢
    have hR2 := s02 _ _ hR
    refine ⟨_, rfl, _, rfl, R, _, rfl, SqL.of hR2, fun S nS => ?_⟩
    have ecut : cutV ((r0 :: rest).map V.str) (some 1) none = rest.map V.str := by
      rw [show (some (1 : Int)) = some ((1 : Nat) : Int) from rfl, cut_drop]
      rfl
    rw [ecut]
    have sS := same_new (o := .lst (rest.map V.str)) nS
    have hS : upd H2 S (.lst (rest.map V.str)) S = some (.lst (rest.map V.str)) := upd_same
    have s03 := s02.trans sS
    have hF3 := sS _ _ hF
    have hr3 := sS _ _ hr2
    have SF : S ≠ F := fun z => by rw [z, hF] at nS; cases nS
    generalize upd H2 S (.lst (rest.map V.str)) = H3 at sS hS s03 hF3 hr3 ⊢
    refine ⟨S, _, 1, rfl, rfl, by decide, SqL.of hS, ?_⟩
    have F0 : H F = none := by
      cases e : H F with
      | none => rfl
      | some o => rw [s1 _ _ e] at nF; cases nF
    have keepT : ∀ {G : Hp} {c : Addr} {ys : List V}, But F H3 G → H3 c = some (.tup ys) → G c = some (.tup ys) := fun {G c ys} b e => b _ _ (fun z => by rw [z, hF3] at e; cases e) e
    have back : ∀ {G : Hp}, But F H3 G → Same H G := fun {G} b c o e => b _ _ (fun z => by rw [z, F0] at e; cases e) (s03 _ _ e)
    refine for_it (walk_enumS (xs := rest.map V.str)) (fun i σ H' => ∃ (ls' : List (Addr × List Key)) (x3 x4 x5 : Option L2.V), σ = [some (.ref R), some (.ref r), some (.ref F), x3, x4, x5] ∧ LinksAt H' F ls' ∧ ls'.map (·.2) = (linksQ rest).take i ∧ i ≤ (linksQ rest).length ∧ But F H3 H')
      ⟨[], _, _, _, rfl, ⟨hF3, fun q h => (nomatch h)⟩, rfl, Nat.zero_le _, But.refl _ _⟩ (fun i σ H' _ ⟨_, _, _, _, _, _, _, _, b⟩ => SqL.of (b _ _ SF hS)) ?_ ?_
    · rintro i x σ H4 H5 hi ⟨ls', x3, x4, x5, rfl, la, el, il, bu⟩ ⟨T1, y1, y2, rfl, nT, rfl, e1, e2⟩
      injection e1 with e1
      obtain ⟨z, hz, rfl⟩ := at_map e2
      have sT := same_new (o := .tup [y1, .str z]) nT
      refine ⟨T1, _, rfl, SqT.of upd_same, rfl, _, _, rfl, _, _, rfl, rfl, ?_⟩
      have li := (List.getElem?_eq_some_iff.mp hz).1
      have ll : ls'.length = i := by
        have h := congrArg List.length el
        rw [List.length_map, List.length_take] at h
        omega
      obtain ⟨goN, goY⟩ := linksQ_go hz il
      refine ⟨_, rfl, z, rfl, lrs z (List.mem_cons_of_mem _ (List.mem_of_getElem? hz)), fun k ek t H6 s6 ht => ?_, fun en H6 s6 => ?_⟩
      rotate_left
      · refine ⟨_, rfl, rfl, _, rfl, iteB rfl ⟨_, rfl, oexc fun x H' s e => ?_⟩⟩
        refine kN (i + 1) (parseR_bad ez (goN en) (by omega)) x H' (((back bu).trans (sT.trans s6)).trans s) ?_
        rw [e, ← e1, Nat.add_comm]
      have s46 := sT.trans s6
      refine ⟨_, rfl, rfl, _, rfl, iteB2 rfl ?_⟩
      refine nxt ?_
      have hF6 := s46 _ _ la.1
      refine ⟨_, rfl, .inl ⟨rfl, _, SqL.of hF6⟩, _, rfl, F, _, _, rfl, rfl, hF6, by rw [List.length_map, sizeLine_eq]; omega, nxt ?_⟩
      refine ⟨ls' ++ [(t, k)], _, _, _, rfl, ⟨by rw [upd_same, List.map_append]; rfl, fun u hu => ?_⟩, ?_, goY k ek, fun c o n e => by rw [upd_ne n]; exact s46 _ _ (bu c o n e)⟩
      · have tF : ∀ {c : Addr} {ys : List V}, H6 c = some (.tup ys) → upd H6 F (.lst ((ls'.map fun q => V.ref q.1) ++ [.ref t])) c = some (.tup ys) := fun {c ys} e => by
          rw [upd_ne (fun z => by rw [z, hF6] at e; cases e)]
          exact e
        rcases List.mem_append.mp hu with hu | hu
        · exact tF (s46 _ _ (la.2 u hu))
        · rw [List.mem_singleton.mp hu]
          exact tF ht
      · rw [List.map_append, el, List.take_add_one, linksQ_at hz (goY k ek) ek]
        rfl
    · rintro σ H4 ⟨ls', x3, x4, x5, rfl, la, el, il, bu⟩
      rw [List.length_map] at el il
      have le := linksQ_le rest
      have ee : (linksQ rest).length = rest.length := by omega
      rw [← ee, List.take_length] at el
      refine ⟨_, rfl, _, rfl, F, _, rfl, .inl ⟨SqL.of la.1, fun l nl => ⟨by show 2 ≤ sizeLine; decide, fun t nt => ?_⟩⟩⟩
      have sl := same_new (o := .tup (ls'.map fun q => V.ref q.1)) nl
      have st := same_new (o := .tup [.ref r, .ref l]) nt
      exact kY zs (linksQ rest) (parseR_ok ez ee) t r l ls' _ ((back bu).trans (sl.trans st)) upd_same (st _ _ (sl _ _ (keepT bu hr3))) (st _ _ upd_same) (fun q hq => st _ _ (sl _ _ (la.2 q hq))) el
end
end Toy
set_option Elab.async false
set_option linter.all false
set_option maxRecDepth 100000
set_option maxHeartbeats 8000000
namespace Toy
open PySem L2 Q RZ D7 TL
/-! ### read_net of any data -/
abbrev rtD (zs : List Str) : PyData := .tuple (zs.map PyData.str)
abbrev lkD (kk : List (List Key)) : PyData := .tuple (kk.map kD)
section
variable {K : PySem.W.Frag} {H : Hp}
theorem dd_strs : ∀ zs : List Str, DdAll K H (zs.map V.str) (zs.map PyData.str)
  | [] => .nil
  | z :: zs => .cons (.str z) (dd_strs zs)
theorem dd_keys : ∀ k : List Key, DdAll K H (k.map kV) (k.map keyD)
  | [] => .nil
  | .inl i :: k => .cons (.int i) (dd_keys k)
  | .inr z :: k => .cons (.str z) (dd_keys k)
theorem dd_links : ∀ {ls : List (Addr × List Key)}, (∀ q ∈ ls, H q.1 = some (.tup (q.2.map kV))) → DdAll K H (ls.map fun q => V.ref q.1) ((ls.map (·.2)).map kD)
  | [], _ => .nil
  | q :: ls, h => .cons (.tup (SqT.of (h q List.mem_cons_self)) (dd_keys q.2)) (dd_links fun p hp => h p (List.mem_cons_of_mem _ hp))
end
theorem parse_names {rs : List Str} {zs : List Str} {kk : List (List Key)} (h : parseR rs = .ok zs kk) : (∀ z ∈ zs, NameOk z) ∧ (∀ k ∈ kk, ∃ r, linkQ r = some k) := by
  unfold parseR at h
  split at h
  · cases h
  · split at h
    · cases h
    · rename_i ys e
      split at h
      · injection h with h1 h2
        rw [← h1, ← h2]
        exact ⟨(routersW_ok e).1, fun k hk => linksQ_ok k hk⟩
      · cases h
def spReadA (K : PySem.W.Frag) (C BT BN : Addr) : Sp := fun vs H Q E => ∃ (v : V) (d : PyData), vs = [v] ∧ Dd K H v d ∧ (∀ t, d = .str t → t.length ≤ 9000) ∧
  (strB d = false → ∀ x H', Same H H' → H' x = some (.xd [("value", .non)]) → E (.ref BT) (some x) H') ∧
  (∀ t i, d = .str t → parseW t = .bad i → ∀ x H', Same H H' → H' x = some (.xd [("value", .int (i : Nat))]) → E (.ref BT) (some x) H') ∧
  (∀ t zs kk, d = .str t → parseW t = .ok zs kk →
    (NetD (rtD zs) (lkD kk) → ∀ (n r l : Addr) H', Same H H' → NetV C H' n (.ref r) (.ref l) → Dd K H' (.ref r) (rtD zs) → Dd K H' (.ref l) (lkD kk) → Q (.ref n) H') ∧
    (¬ NetD (rtD zs) (lkD kk) → ∀ (x q r l : Addr) H', Same H H' → H' x = some (.xd [("value", .ref q)]) → H' q = some (.tup [.ref r, .ref l]) → Dd K H' (.ref r) (rtD zs) → Dd K H' (.ref l) (lkD kk) → E (.ref BN) (some x) H'))
section
variable {P : Program} {w : World} {K : PySem.W.Frag} {mg : Str → Option Value} {base : Heap} {ca ia fa : Nat → Addr} {fd fi : Nat → FuncData}
theorem ok_readA (T : Txt K mg ca ia fa fd fi) : FnOk P w K mg base (L2.CX P w) 8 (fa 28) (fd 28) ["text"] (spReadA K (ca 20) (ca 6) (ca 3)) := by
  have G_rows_of := ok_rowsOfA (P := P) (w := w) (base := base) T
  have G_net_parts := ok_partsA (P := P) (w := w) (base := base) T
  have G_m_init := ok_initA (P := P) (w := w) (base := base) T
  refine T.F_read_net.okX sc_read_net (fun vs H Q E h => ?_) (fun cdv A outer s H vs Q E hr h => ?_)
  · obtain ⟨v, d, rfl, _⟩ := h
    rfl
  · obtain ⟨v, d, rfl, hd, len, kN, kB, kO⟩ := h
    refine ⟨_, (pss_cons (ps_asg (pe_call G_net_parts (hr.mono (by decide)) rfl T.g_net_parts T.k_net_parts T.b_net_parts .nil (passes_call (takes_of rfl rfl rfl rfl) fun _ _ _ _ h => h) (pa_cons (pe_call G_rows_of (hr.mono (by decide)) rfl T.g_rows_of T.k_rows_of T.b_rows_of .nil (passes_call (takes_of rfl rfl rfl rfl) fun _ _ _ _ h => h) (pa_cons (pv 0) pa_nil)) pa_nil)) (pg_tup rfl (pgs_cons (pg_name (i := 1) sc_read_net.nd rfl (Or.inl rfl)) (pgs_cons (pg_name (i := 2) sc_read_net.nd rfl (Or.inl rfl)) pgs_nil))))
      (pss_one (ps_ret (pe_make T.M_Net G_m_init (hr.mono (by decide)) rfl T.g_Net T.b_m_init .nil (passes_call (takes_of rfl rfl rfl rfl) fun _ _ _ _ h => h) (pa_cons (pv 1) (pa_cons (pv 2) pa_nil)))))), ?_⟩
    refine ⟨_, rfl, v, d, rfl, hd, fun t e => ⟨len t e, fun R H1 s1 hR => ?_⟩, fun e x H1 s1 hx => kN e x H1 s1 hx⟩
    obtain ⟨wl, wn, wp⟩ := rows_le t
    have lt := len t e
    refine ⟨R, rowsOf t, rfl, hR, wn, by omega, fun r hr => by have := wp r hr; omega, fun i ei x H2 s2 hx => kB t i e ei x H2 (s1.trans s2) hx, fun zs kk eo q r l ls H2 s2 hq hr2 hl el em => ?_⟩
    refine ⟨q, _, rfl, SqT.of hq, rfl, _, _, rfl, _, _, rfl, rfl, ?_⟩
    obtain ⟨kY, kZ⟩ := kO t zs kk e eo
    have nz := (parse_names eo).1
    have dr : Dd K H2 (.ref r) (rtD zs) := .tup (SqT.of hr2) (dd_strs zs)
    have dl : Dd K H2 (.ref l) (lkD kk) := .tup (SqT.of hl) (by rw [← em]; exact dd_links el)
    refine ⟨_, rfl, _, rfl, ?_⟩
    refine mk_netA dr dl ⟨fun z e => (by cases e), fun ds e y hy z ez => ?_⟩ (fun nd n H3 nn s3 no => kY nd n r l H3 ((s1.trans s2).trans s3) no (dr.same s3) (dl.same s3)) (fun nd x t2 H3 s3 hx ht => kZ nd x t2 r l H3 ((s1.trans s2).trans s3) hx ht (dr.same s3) (dl.same s3))
    injection e with e
    rw [← e] at hy
    obtain ⟨y2, my, ey⟩ := List.mem_map.mp hy
    rw [← ey] at ez
    injection ez with ez
    have := (nz y2 my).2.1
    rw [← ez]
    omega
end
end Toy
set_option Elab.async false
set_option linter.all false
set_option maxRecDepth 100000
set_option maxHeartbeats 8000000
namespace Toy
open PySem L2 Q RZ D7 TL
/-! ### the law's reading: is_number, link_read, net_read -/
theorem dig_iff (c : Nat) : c ∈ (Str.ofString "0123456789").cps.toList ↔ 48 ≤ c ∧ c ≤ 57 := by
  have e : (Str.ofString "0123456789").cps.toList = (List.range 10).map (· + 48) := by decide +kernel
  rw [e, List.mem_map]
  constructor
  · rintro ⟨k, hk, rfl⟩
    have := List.mem_range.mp hk
    omega
  · rintro ⟨h1, h2⟩
    exact ⟨c - 48, List.mem_range.mpr (by omega), by omega⟩
def spLNum : Sp := fun vs H Q _ => ∃ z : Str, vs = [.str z] ∧ z.length ≤ 9000 ∧ ∀ b : Bool, (b = true ↔ NumOk z) → ∀ H', Same H H' → Q (.bl b) H'
def spLinkR : Sp := fun vs H Q _ => ∃ r : Str, vs = [.str r] ∧ r.length ≤ 9000 ∧ (∀ k, linkQ r = some k → ∀ t H', Same H H' → H' t = some (.tup (k.map kV)) → Q (.ref t) H') ∧ (linkQ r = none → ∀ t H', Same H H' → H' t = some (.tup []) → Q (.ref t) H')
section
variable {P : Program} {w : World} {K : PySem.W.Frag} {mg : Str → Option Value} {base : Heap} {ca ia fa : Nat → Addr} {fd fi : Nat → FuncData}
theorem ok_lNum (T : Txt K mg ca ia fa fd fi) : FnOk P w K mg base CX0 1 (fa 47) (fd 47) ["_law_word"] spLNum := by
  refine T.F_l_is_number.ok sc_l_is_number (fun vs H Q E h => ?_) (fun cdv A outer s H vs Q E hr h => ?_)
  · obtain ⟨z, rfl, _⟩ := h
    rfl
  · obtain ⟨z, rfl, zl, k⟩ := h
    refine ⟨_, (pss_cons (ps_if (PW.pt (pw_or (pt_not (pt_chain op_le op_le pe_int (pe_callB call_len (by rfl) T.n_len (by decide +kernel) (pa_cons (pv 0) pa_nil)) pe_int)) (pw_or1 (pt_not (pt_val (pe_callB (cr_all rfl) (by rfl) T.n_all (by decide +kernel) (pa_cons (pe_lc (own := [("_law_sign", 1)]) (g := (gName 1)) (tt := tYes) rfl sc_l_is_number.nd (pi_str (pv 0)) (blkOk_by (own := [("_law_sign", 1)]) (N := N_l_is_number) (sc := defScope s_l_is_number) (by decide +kernel)) (fun _ _ _ _ _ => (pg_name (i := 1) sc_l_is_number.nd rfl (Or.inl rfl))) (fun _ _ _ _ _ => pts_nil) (fun _ _ _ _ _ => by exact (pe_cmpR op_inS (pv 1) pe_str rfl))) pa_nil))))))) (pss_one (ps_ret pe_bl)) pss_nil)
      (pss_one (ps_ret (pe_or (pe_cmpR op_eq (pv 0) pe_str (nomark _)) (pe_one (pe_cmpR op_ne (pe_ix ix_seq (pv 0) pe_int (fun _ _ => rfl)) pe_str (nomark _))))))), ?_⟩
    have lenV : LenV K (.str z) H z.length := ⟨by rw [sizeLine_eq]; omega, rfl⟩
    have kN : ∀ {H'}, Same H H' → ¬ NumOk z → Q (.bl false) H' := fun {H'} s n => k false ⟨fun q => (nomatch q), fun q => absurd q n⟩ H' s
    refine ⟨_, rfl, _, _, rfl, lenV, _, _, rfl, rfl, _, rfl, ifE (fun c1 => ?_) fun c1 => ?_⟩
    rotate_left
    · have l1 : ¬ (1 : Int) ≤ (z.length : Nat) := of_decide_eq_false c1
      exact ⟨_, rfl, iteB rfl (kN (Same.refl H) (fun q => l1 (by have := q.1; omega)))⟩
    have l1 : (1 : Int) ≤ (z.length : Nat) := of_decide_eq_true c1
    refine ⟨_, _, rfl, rfl, _, rfl, ifE (fun c2 => ?_) fun c2 => ?_⟩
    · have l2 : ¬ ((z.length : Nat) : Int) ≤ 9 := fun q => by
        rw [decide_eq_true q] at c2
        cases c2
      exact kN (Same.refl H) (fun q => l2 (by have := q.2.1; omega))
    have l2 : ((z.length : Nat) : Int) ≤ 9 := of_decide_eq_true (by simpa using c2)
    refine ⟨_, rfl, z, rfl, fun D hD => ?_⟩
    refine lc_it walk_str (fun i H' => ∃ bs : List Bool, bs.length = i ∧ H' D = some (.lst (bs.map V.bl)) ∧ Same H H' ∧ (bs.all id = true ↔ ∀ c ∈ z.cps.toList.take i, 48 ≤ c ∧ c ≤ 57))
      ⟨[], rfl, upd_same, same_new hD, by simp⟩ (fun _ _ _ _ => trivial) ?_ ?_
    · rintro i x H1 H2 hi ⟨bs, lb, hb, s1, iff1⟩ ⟨rfl, c, hc, rfl⟩
      refine ⟨rfl, ?_⟩
      dsimp only [tYes]
      rw [if_pos rfl]
      have hi2 : i < z.length := hi
      refine ⟨_, rfl, _, _, rfl, rfl, _, hb, ?_, bs ++ [decide (c ∈ (Str.ofString "0123456789").cps.toList)], by simp [lb], ?_, Same.upd_at s1 hD, ?_⟩
      · rw [List.length_map, sizeLine_eq]
        omega
      · rw [upd_same, List.map_append]
        rfl
      · exact all_more (by rw [Array.getElem?_toList]; exact hc) (by rw [decide_eq_true_iff]; exact dig_iff c) iff1
    · rintro H1 ⟨bs, lb, hb, s1, iff1⟩
      rw [show z.cps.toList.take z.cps.size = z.cps.toList from List.take_of_length_le (Nat.le_of_eq (Array.length_toList ..))] at iff1
      refine ⟨D, bs, rfl, SqL.of hb, ?_⟩
      refine ⟨_, rfl, ifE (fun c3 => ?_) fun c3 => ?_⟩
      · have nd : ¬ DigOk z := fun q => by
          rw [iff1.mpr q] at c3
          cases c3
        exact kN s1 (fun q => nd q.2.2.1)
      have dg : DigOk z := iff1.mp (by simpa using c3)
      refine nxt ?_
      have z1 : 1 ≤ z.length := by omega
      have z9 : z.length ≤ 9 := by omega
      obtain ⟨c0, l0, t0⟩ : ∃ c0 l0, tl z = c0 :: l0 := by
        cases e : tl z with
        | nil => rw [len_tl, e] at z1; exact absurd z1 (by decide)
        | cons c l => exact ⟨c, l, rfl⟩
      refine ⟨_, rfl, rfl, _, rfl, ifE (fun c4 => ?_) fun c4 => ?_⟩
      · have e0 := of_decide_eq_true c4
        injection e0 with e0
        exact k true ⟨fun _ => ⟨z1, z9, dg, .inl e0⟩, fun _ => rfl⟩ H1 s1
      have n0 : z ≠ tx "0" := fun q => of_decide_eq_false c4 (by rw [q])
      refine ⟨_, rfl, .inr (.inr ⟨z, 0, c0, rfl, rfl, by rw [sizeLine_eq]; omega, atI_nat (xs := z.cps.toList) (j := 0) (by rw [show z.cps.toList = c0 :: l0 from t0]; rfl), rfl, k _ ?_ H1 s1⟩)⟩
      rw [Bool.not_eq_true', decide_eq_false_iff_not]
      constructor
      · refine fun c5 => ⟨z1, z9, dg, .inr fun c hc => ?_⟩
        rw [t0] at hc
        injection hc with hc
        rintro rfl
        subst hc
        exact c5 (by decide +kernel)
      · intro ok e5
        rcases ok.2.2.2 with q | q
        · exact n0 q
        · have h := q c0 (by rw [t0]; rfl)
          injection e5 with e5
          have t1 : tl (⟨#[c0]⟩ : Str) = tl (tx "0") := congrArg tl e5
          rw [tx0] at t1
          injection t1 with t1
          exact h t1
theorem ok_lLinkR (T : Txt K mg ca ia fa fd fi) : FnOk P w K mg base CX0 2 (fa 48) (fd 48) ["_law_row"] spLinkR := by
  have G_l_is_number := ok_lNum (P := P) (w := w) (base := base) T
  have G_l_is_name := ok_l_nameA (P := P) (w := w) (base := base) T
  refine T.F_l_link_read.ok sc_l_link_read (fun vs H Q E h => ?_) (fun cdv A outer s H vs Q E hr h => ?_)
  · obtain ⟨r, rfl, _⟩ := h
    rfl
  · obtain ⟨r, rfl, len, kY, kN⟩ := h
    refine ⟨_, (pss_cons (ps_set (i := 1) sc_l_link_read.nd rfl (Or.inl rfl) (pe_split (pv 0) pe_str))
      (pss_cons (ps_if (PW.pt (pw_or (pt_cmpR op_ne (pe_callB call_len (by rfl) T.n_len (by decide +kernel) (pa_cons (pv 1) pa_nil)) pe_int (nomark _)) (pw_or (pt_cmpR op_ne (pe_ix ix_seq (pv 1) pe_int (fun _ _ => rfl)) pe_str (nomark _)) (pw_or (pt_not (pt_val (pe_call G_l_is_name (hr.mono (by decide)) rfl T.g_l_is_name T.k_l_is_name T.b_l_is_name .nil pass0 (pa_cons (pe_ix ix_seq (pv 1) pe_int (fun _ _ => rfl)) pa_nil)))) (pw_or1 (pt_not (pt_val (pe_call G_l_is_name (hr.mono (by decide)) rfl T.g_l_is_name T.k_l_is_name T.b_l_is_name .nil pass0 (pa_cons (pe_ix ix_seq (pv 1) pe_int (fun _ _ => rfl)) pa_nil))))))))) (pss_one (ps_ret (pe_tup pa_nil))) pss_nil)
      (pss_cons (ps_if (PW.pt (pw_or (pt_not (pt_val (pe_call G_l_is_number (hr.mono (by decide)) rfl T.g_l_is_number T.k_l_is_number T.b_l_is_number .nil pass0 (pa_cons (pe_ix ix_seq (pv 1) pe_int (fun _ _ => rfl)) pa_nil)))) (pw_or1 (pt_not (pt_val (pe_call G_l_is_number (hr.mono (by decide)) rfl T.g_l_is_number T.k_l_is_number T.b_l_is_number .nil pass0 (pa_cons (pe_ix ix_seq (pv 1) pe_int (fun _ _ => rfl)) pa_nil))))))) (pss_one (ps_ret (pe_tup pa_nil))) pss_nil)
      (pss_one (ps_ret (pe_tup (pa_cons (pe_ix ix_seq (pv 1) pe_int (fun _ _ => rfl)) (pa_cons (pe_ix ix_seq (pv 1) pe_int (fun _ _ => rfl)) (pa_cons (pe_callTy call_int_str (by rfl) T.n_int (by decide +kernel) (pa_cons (pe_ix ix_seq (pv 1) pe_int (fun _ _ => rfl)) pa_nil)) (pa_cons (pe_callTy call_int_str (by rfl) T.n_int (by decide +kernel) (pa_cons (pe_ix ix_seq (pv 1) pe_int (fun _ _ => rfl)) pa_nil)) pa_nil)))))))))), ?_⟩
    obtain ⟨wl, wn, wp⟩ := words_le r
    refine ⟨_, rfl, ⟨_, rfl⟩, _, _, rfl, rfl, by decide +kernel, by rw [sizeLine_eq]; omega, fun R nR => ?_⟩
    have sR := same_new (o := .lst ((wordsOf r).map V.str)) nR
    have hR : upd H R (.lst ((wordsOf r).map V.str)) R = some (.lst ((wordsOf r).map V.str)) := upd_same
    have eW : Txt.split r (Str.ofString " ") = wordsOf r := rfl
    rw [eW]
    generalize upd H R (.lst ((wordsOf r).map V.str)) = H1 at sR hR ⊢
    have none_ : ∀ {H'}, Same H H' → linkQ r = none → ∀ p, H' p = none → Q (.ref p) (upd H' p (.tup [])) := fun {H'} s n p np => kN n p _ (s.trans (same_new np)) upd_same
    refine ⟨_, rfl, _, _, rfl, .inl ⟨_, SqL.of hR, rfl⟩, rfl, _, rfl, ?_⟩
    rw [List.length_map]
    refine ifE (fun c => ?_) fun c => ?_
    · exact ⟨by show 0 ≤ sizeLine; decide, none_ sR (linkQ_five fun z => by rw [z] at c; simp at c)⟩
    have n5 : (wordsOf r).length = 5 := by
      have h : ((wordsOf r).length : Int) = 5 := by simpa using c
      omega
    obtain ⟨w0, a, b, x, y, ew⟩ := five_of n5
    rw [ew] at hR wp
    have la := wp a (by simp)
    have lb := wp b (by simp)
    have lx := wp x (by simp)
    have ly := wp y (by simp)
    have at_ : ∀ {G : Hp} {i : Nat} {z : Str} {Q' : VK}, Same H1 G → ([w0, a, b, x, y] : List Str)[i]? = some z → Q' (.str z) G → rIx K (.ref R) (.int (i : Int)) G Q' := fun {G i z Q'} g e q =>
      ixL (SqL.of (g _ _ hR)) i (by rw [List.getElem?_map, e]; rfl) q
    refine ⟨_, rfl, at_ (Same.refl _) (i := 0) rfl ⟨rfl, _, rfl, ifE (fun c0 => ?_) fun c0 => ?_⟩⟩
    · refine ⟨by show 0 ≤ sizeLine; decide, none_ sR (linkQ_no ew fun q => ?_)⟩
      rw [q.1] at c0
      simp at c0
    have e0 : w0 = tx "link" := by
      have h := of_decide_eq_true (by simpa using c0 : decide (V.str w0 = V.str (Str.ofString "link")) = true)
      injection h
    have nameD : ∀ {z : Str}, NameD (.str z) → NameOk z := fun {z} h => by
      obtain ⟨y, e, h⟩ := h
      injection e with e
      exact e ▸ h
    refine ⟨_, rfl, at_ (Same.refl _) (i := 1) rfl ⟨.str a, .str a, rfl, .str a, fun z e => by injection e with e; rw [← e]; omega, fun b1 h1 H5 s5 => ?_⟩⟩
    refine ⟨_, rfl, ifE (fun c1 => ?_) fun c1 => ?_⟩
    · exact ⟨by show 0 ≤ sizeLine; decide, none_ (sR.trans s5) (linkQ_no ew fun q => by rw [h1.mpr ⟨a, rfl, q.2.1⟩] at c1; cases c1)⟩
    have na := nameD (h1.mp (by simpa using c1))
    refine ⟨_, rfl, at_ s5 (i := 2) rfl ⟨.str b, .str b, rfl, .str b, fun z e => by injection e with e; rw [← e]; omega, fun b2 h2 H6 s6 => ?_⟩⟩
    have s56 := s5.trans s6
    refine ⟨_, rfl, ifE (fun c2 => ?_) fun c2 => ?_⟩
    · exact ⟨by show 0 ≤ sizeLine; decide, none_ (sR.trans s56) (linkQ_no ew fun q => by rw [h2.mpr ⟨b, rfl, q.2.2.1⟩] at c2; cases c2)⟩
    have nb := nameD (h2.mp (by simpa using c2))
    refine nxt ?_
    refine ⟨_, rfl, at_ s56 (i := 3) rfl ⟨x, rfl, by omega, fun b3 h3 H7 s7 => ?_⟩⟩
    have s57 := s56.trans s7
    refine ⟨_, rfl, ifE (fun c3 => ?_) fun c3 => ?_⟩
    · exact ⟨by show 0 ≤ sizeLine; decide, none_ (sR.trans s57) (linkQ_no ew fun q => by rw [h3.mpr q.2.2.2.1] at c3; cases c3)⟩
    have n3 := h3.mp (by simpa using c3)
    refine ⟨_, rfl, at_ s57 (i := 4) rfl ⟨y, rfl, by omega, fun b4 h4 H8 s8 => ?_⟩⟩
    have s58 := s57.trans s8
    refine ⟨_, rfl, ifE (fun c4 => ?_) fun c4 => ?_⟩
    · exact ⟨by show 0 ≤ sizeLine; decide, none_ (sR.trans s58) (linkQ_no ew fun q => by rw [h4.mpr q.2.2.2.2] at c4; cases c4)⟩
    have n4 := h4.mp (by simpa using c4)
    refine nxt ?_
    refine ⟨_, rfl, at_ s58 (i := 1) rfl ⟨_, rfl, at_ s58 (i := 2) rfl ⟨_, rfl, at_ s58 (i := 3) rfl ⟨x, _, rfl, val_int n3, by have := n3.2.1; omega, _, rfl, at_ s58 (i := 4) rfl ⟨y, _, rfl, val_int n4, by have := n4.2.1; omega, ?_⟩⟩⟩⟩⟩
    exact ⟨by show 4 ≤ sizeLine; decide, fun t nt => kY _ (linkQ_yes ew ⟨e0, na, nb, n3, n4⟩) t _ ((sR.trans s58).trans (same_new nt)) upd_same⟩
def spNetR : Sp := fun vs H Q _ => ∃ (R : Addr) (r0 : Str) (rest : List Str), vs = [.ref R] ∧ H R = some (.lst ((r0 :: rest).map V.str)) ∧ rest.length ≤ 9000 ∧ (∀ r ∈ r0 :: rest, r.length ≤ 9000) ∧
  (routersW r0 = none → ∀ t H', Same H H' → H' t = some (.tup [.non, .int 0]) → Q (.ref t) H') ∧
  (∀ zs, routersW r0 = some zs → ∀ (t p r l : Addr) (ls : List (Addr × List Key)) (H' : Hp), Same H H' → H' t = some (.tup [.ref p, .int ((linksQ rest).length + 1 : Nat)]) → H' p = some (.tup [.ref r, .ref l]) → H' r = some (.tup (zs.map V.str)) → H' l = some (.tup (ls.map fun q => V.ref q.1)) → (∀ q ∈ ls, H' q.1 = some (.tup (q.2.map kV))) → ls.map (·.2) = linksQ rest → Q (.ref t) H')
theorem ok_lNetR (T : Txt K mg ca ia fa fd fi) : FnOk P w K mg base CX0 3 (fa 49) (fd 49) ["_law_rows"] spNetR := by
  have G_l_link_read := ok_lLinkR (P := P) (w := w) (base := base) T
  have G_l_is_name := ok_l_nameA (P := P) (w := w) (base := base) T
  refine T.F_l_net_read.ok sc_l_net_read (fun vs H Q E h => ?_) (fun cdv A outer s H vs Q E hr h => ?_)
  · obtain ⟨R, r0, rest, rfl, _⟩ := h
    rfl
  · obtain ⟨R0, r0, rest, rfl, hR0, few, lrs, kN, kY⟩ := h
    refine ⟨_, (pss_cons (ps_set (i := 1) sc_l_net_read.nd rfl (Or.inl rfl) (pe_split (pe_ix ix_seq (pv 0) pe_int (fun _ _ => rfl)) pe_str))
      (pss_cons (ps_if (PW.pt (pw_or (pt_cmpR op_ne (pe_ix ix_seq (pv 1) pe_int (fun _ _ => rfl)) pe_str (nomark _)) (pw_or1 (pt_not (pt_val (pe_callB (cr_all rfl) (by rfl) T.n_all (by decide +kernel) (pa_cons (pe_lc (own := [("_law_word", 2)]) (g := (gName 2)) (tt := tYes) rfl sc_l_net_read.nd (pi_list (pe_slice sl_list (pv 1) (po_some pe_int) po_none)) (blkOk_by (own := [("_law_word", 2)]) (N := N_l_net_read) (sc := defScope s_l_net_read) (by decide +kernel)) (fun _ _ _ _ _ => (pg_name (i := 2) sc_l_net_read.nd rfl (Or.inl rfl))) (fun _ _ _ _ _ => pts_nil) (fun _ _ _ _ _ => by exact (pe_call G_l_is_name (hr.mono (by decide)) rfl T.g_l_is_name T.k_l_is_name T.b_l_is_name .nil pass0 (pa_cons (pv 2) pa_nil)))) pa_nil))))))) (pss_one (ps_ret (pe_tup (pa_cons pe_non (pa_cons pe_int pa_nil))))) pss_nil)
      (pss_cons (ps_par (i := 3) (j := 4) (by rfl) sc_l_net_read.nd rfl rfl (by decide) rfl rfl (pa_cons (pe_lst pa_nil) (pa_cons pe_int pa_nil)) (by rfl))
      (pss_cons (ps_while PassesOwn.never (PW.pt (pw_and (pt_cmpR op_lt (pv 4) (pe_callB call_len (by rfl) T.n_len (by decide +kernel) (pa_cons (pv 0) pa_nil)) (nomark _)) (pw_and1 (pt_cmpR (op_neNilT (roomU1 hr)) (pe_call G_l_link_read (hr.mono (by decide)) rfl T.g_l_link_read T.k_l_link_read T.b_l_link_read .nil pass0 (pa_cons (pe_ix ix_seq (pv 0) (pv 4) (fun _ _ => rfl)) pa_nil)) (pe_tup pa_nil) (nomark _))))) (pss_cons (ps_expr (pe_bm PySem.F.plainAttrs_list PySem.F.slot_list_append PySem.F.type_list_append mt_append (pv 3) (pa_cons (pe_call G_l_link_read (hr.mono (by decide)) rfl T.g_l_link_read T.k_l_link_read T.b_l_link_read .nil pass0 (pa_cons (pe_ix ix_seq (pv 0) (pv 4) (fun _ _ => rfl)) pa_nil)) pa_nil)))
      (pss_one (ps_set (i := 4) sc_l_net_read.nd rfl (Or.inl rfl) (pe_op op_add (pv 4) pe_int)))))
      (pss_one (ps_ret (pe_tup (pa_cons (pe_tup (pa_cons (pe_callTy call_tuple_of (by rfl) T.n_tuple (by decide +kernel) (pa_cons (pe_slice sl_list (pv 1) (po_some pe_int) po_none) pa_nil)) (pa_cons (pe_callTy call_tuple_of (by rfl) T.n_tuple (by decide +kernel) (pa_cons (pv 3) pa_nil)) pa_nil))) (pa_cons (pv 4) pa_nil))))))))), ?_⟩
    have lr := lrs r0 (by simp)
    obtain ⟨wl, wn, wp⟩ := words_le r0
    obtain ⟨w0, zs, ew⟩ : ∃ w0 zs, wordsOf r0 = w0 :: zs := by
      cases e : wordsOf r0 with
      | nil => exact absurd e wn
      | cons a b => exact ⟨a, b, rfl⟩
    refine ⟨_, rfl, ixL (SqL.of hR0) 0 (v := .str r0) rfl ⟨⟨_, rfl⟩, _, _, rfl, rfl, by decide +kernel, by rw [sizeLine_eq]; omega, fun R nR => ?_⟩⟩
    have sR := same_new (o := .lst ((w0 :: zs).map V.str)) nR
    have hR : upd H R (.lst ((w0 :: zs).map V.str)) R = some (.lst ((w0 :: zs).map V.str)) := upd_same
    have eW : Txt.split r0 (Str.ofString " ") = w0 :: zs := ew
    rw [eW]
    rw [ew, List.length_cons] at wl
    rw [ew] at wp
    generalize upd H R (.lst ((w0 :: zs).map V.str)) = H1 at sR hR ⊢
    have none_ : ∀ {H'}, Same H H' → routersW r0 = none → ∀ p, H' p = none → Q (.ref p) (upd H' p (.tup [.non, .int 0])) := fun {H'} s n p np => kN n p _ (s.trans (same_new np)) upd_same
    refine ⟨_, rfl, ixL (SqL.of hR) 0 (v := .str w0) rfl ⟨rfl, _, rfl, ifE (fun c0 => ?_) fun c0 => ?_⟩⟩
    · refine ⟨by show 2 ≤ sizeLine; decide, none_ sR (routersW_no ew fun q => ?_)⟩
      rw [q.1] at c0
      simp at c0
    have e0 : w0 = tx "routers" := by
      have h := of_decide_eq_true (by simpa using c0 : decide (V.str w0 = V.str (Str.ofString "routers")) = true)
      injection h
    refine ⟨_, rfl, _, rfl, R, _, rfl, SqL.of hR, fun S nS => ?_⟩
    have ecut : cutV ((w0 :: zs).map V.str) (some 1) none = zs.map V.str := by
      rw [show (some (1 : Int)) = some ((1 : Nat) : Int) from rfl, cut_drop]
      rfl
    rw [ecut]
    have sS := same_new (o := .lst (zs.map V.str)) nS
    have hS : upd H1 S (.lst (zs.map V.str)) S = some (.lst (zs.map V.str)) := upd_same
    have s02 := sR.trans sS
    have hR2 := sS _ _ hR
    generalize upd H1 S (.lst (zs.map V.str)) = H2 at sS hS s02 hR2 ⊢
    refine ⟨S, rfl, ⟨_, SqL.of hS⟩, fun D nD => ?_⟩
    refine lc_it (walk_list (xs := zs.map V.str)) (fun i H' => ∃ bs : List Bool, bs.length = i ∧ H' D = some (.lst (bs.map V.bl)) ∧ Same H2 H' ∧ (bs.all id = true ↔ ∀ z ∈ zs.take i, NameOk z)) ⟨[], rfl, upd_same, same_new nD, by simp⟩ (fun i H' _ ⟨_, _, _, q, _⟩ => SqL.of (q _ _ hS)) ?_ ?_
    · rintro i x Ha Hb hi ⟨bs, lb, hb, sm, iff1⟩ ⟨rfl, hx⟩
      obtain ⟨z, hz, rfl⟩ := at_map hx
      rw [List.length_map] at hi
      have lz := wp z (List.mem_cons_of_mem _ (List.mem_of_getElem? hz))
      refine ⟨rfl, ?_⟩
      dsimp only [tYes]
      rw [if_pos rfl]
      refine ⟨_, rfl, .str z, .str z, rfl, .str z, fun y e => by injection e with e; rw [← e]; omega, fun b1 h1 H5 s5 => ?_⟩
      refine ⟨_, s5 _ _ hb, by rw [List.length_map, sizeLine_eq]; omega, bs ++ [b1], by simp [lb], by rw [upd_same, List.map_append]; rfl, Same.upd_at (sm.trans s5) nD, ?_⟩
      refine all_more hz (h1.trans ⟨fun ⟨y, e, h⟩ => ?_, fun h => ⟨z, rfl, h⟩⟩) iff1
      injection e with e
      exact e ▸ h
    · rintro H3 ⟨bs, lb, hb, s3, iff1⟩
      rw [List.length_map, List.take_length] at iff1
      refine ⟨D, bs, rfl, SqL.of hb, ?_⟩
      refine ⟨_, rfl, ifE (fun c3 => ?_) fun c3 => ?_⟩
      · exact ⟨by show 2 ≤ sizeLine; decide, none_ (s02.trans s3) (routersW_no ew fun q => by rw [iff1.mpr q.2] at c3; cases c3)⟩
      have nz := iff1.mp (by simpa using c3)
      have ez := routersW_yes ew ⟨e0, nz⟩
      refine nxt ?_
      refine ⟨by show 0 ≤ sizeLine; decide, fun F nF => ?_⟩
      have sF := same_new (o := .lst []) nF
      have hF : upd H3 F (.lst []) F = some (.lst []) := upd_same
      have s04 := (s02.trans s3).trans sF
      have hR4 := sF _ _ (s3 _ _ hR2)
      have hRr := s04 _ _ hR0
      have F0 : H F = none := by
        cases e : H F with
        | none => rfl
        | some o => rw [s02.trans s3 _ _ e] at nF; cases nF
      generalize upd H3 F (.lst []) = H4 at sF hF s04 hR4 hRr ⊢
      refine ⟨_, _, rfl, ?_⟩
      have back : ∀ {G : Hp}, But F H4 G → Same H G := fun {G} b c o e => b _ _ (fun z => by rw [z, F0] at e; cases e) (s04 _ _ e)
      refine ⟨fun m σ H' => ∃ (i : Nat) (ls' : List (Addr × List Key)), m = rest.length - i ∧ i ≤ (linksQ rest).length ∧ σ = [some (.ref R0), some (.ref R), none, some (.ref F), some (.int ((i + 1 : Nat) : Int))] ∧ LinksAt H' F ls' ∧ ls'.map (·.2) = (linksQ rest).take i ∧ But F H4 H',
        ⟨_, 0, [], rfl, Nat.zero_le _, rfl, ⟨hF, fun q h => (nomatch h)⟩, rfl, But.refl _ _⟩, ?_⟩
      rintro m σ H5 ⟨i, ls', em, il, rfl, la, el, bu⟩
      have le := linksQ_le rest
      have RF : R0 ≠ F := fun z => by rw [z, F0] at hR0; cases hR0
      have hR5 := bu _ _ RF hRr
      have RwF : R ≠ F := fun z => by rw [z] at hR2; rw [s3 _ _ hR2] at nF; cases nF
      have hRw := bu _ _ RwF hR4
      have ll : ls'.length = i := by
        have h := congrArg List.length el
        rw [List.length_map, List.length_take] at h
        omega
      have lenL : ((r0 :: rest).map V.str).length = rest.length + 1 := by rw [List.length_map, List.length_cons]
      refine ⟨_, rfl, _, rfl, _, _, rfl, .inl ⟨_, SqL.of hR5, rfl⟩, _, _, rfl, rfl, _, rfl, ifE (fun c5 => ?_) fun c5 => ?_⟩
      rotate_left
      · have c5 := of_decide_eq_false c5
        rw [lenL] at c5
        refine iteB2 rfl ?_
        refine ⟨_, rfl, _, rfl, R, _, rfl, SqL.of hRw, fun S2 nS2 => ?_⟩
        rw [ecut]
        refine ⟨S2, _, rfl, .inl ⟨SqL.of upd_same, fun r nr => ?_⟩⟩
        have z1 := same_new (o := .lst (zs.map V.str)) nS2
        have z2 := same_new (o := .tup (zs.map V.str)) nr
        have z12 := z1.trans z2
        have laG : LinksAt _ F ls' := la
        refine ⟨_, rfl, F, _, rfl, .inl ⟨SqL.of (z12 _ _ laG.1), fun l nl => ⟨by show 2 ≤ sizeLine; decide, fun p np => ⟨_, rfl, by show 2 ≤ sizeLine; decide, fun t nt => ?_⟩⟩⟩⟩
        have z3 := same_new (o := .tup (ls'.map fun q => V.ref q.1)) nl
        have z4 := same_new (o := .tup [.ref r, .ref l]) np
        have z5 := same_new (o := .tup [.ref p, .int ((i + 1 : Nat) : Int)]) nt
        have ei : (linksQ rest).length = i := (by omega)
        have z45 := z4.trans z5
        have z35 := z3.trans z45
        refine kY zs ez t p r l ls' _ (((back bu).trans z12).trans z35) (by rw [ei]; exact upd_same) (z5 _ _ upd_same) (z35 _ _ upd_same) (z45 _ _ upd_same) (fun q hq => z35 _ _ (z12 _ _ (laG.2 q hq))) ?_
        rw [el, ← ei, List.take_length]
      have c5 := of_decide_eq_true c5
      rw [lenL] at c5
      have li : i < rest.length := by omega
      obtain ⟨z, hz⟩ : ∃ z, rest[i]? = some z := ⟨rest[i], List.getElem?_eq_getElem li⟩
      have lz := lrs z (List.mem_cons_of_mem _ (List.mem_of_getElem? hz))
      obtain ⟨goN, goY⟩ := linksQ_go hz il
      have rowAt : ∀ {G : Hp} {Q' : VK}, G R0 = some (.lst ((r0 :: rest).map V.str)) → Q' (.str z) G → rIx K (.ref R0) (.int ((i + 1 : Nat) : Int)) G Q' := fun {G Q'} g q =>
        ixL (SqL.of g) (i + 1) (by rw [List.getElem?_map, List.getElem?_cons_succ, hz]; rfl) q
      refine ⟨_, rfl, _, rfl, rowAt hR5 ⟨z, rfl, lz, fun k ek t H6 s6 ht => ?_, fun en t H6 s6 ht => ?_⟩⟩
      rotate_left
      · refine ⟨by show 0 ≤ sizeLine; decide, fun t2 nt2 => ⟨t, t2, [], rfl, rfl, SqT.of (same_new nt2 _ _ ht), SqT.of upd_same, _, rfl, ?_⟩⟩
        have s6t := s6.trans (same_new (o := .tup []) nt2)
        refine iteB2 rfl ?_
        refine ⟨_, rfl, _, rfl, R, _, rfl, SqL.of (s6t _ _ hRw), fun S2 nS2 => ?_⟩
        rw [ecut]
        refine ⟨S2, _, rfl, .inl ⟨SqL.of upd_same, fun r nr => ?_⟩⟩
        have z1 := same_new (o := .lst (zs.map V.str)) nS2
        have z2 := same_new (o := .tup (zs.map V.str)) nr
        have z12 := z1.trans z2
        have laG : LinksAt _ F ls' := ⟨s6t _ _ la.1, fun q hq => s6t _ _ (la.2 q hq)⟩
        refine ⟨_, rfl, F, _, rfl, .inl ⟨SqL.of (z12 _ _ laG.1), fun l nl => ⟨by show 2 ≤ sizeLine; decide, fun p np => ⟨_, rfl, by show 2 ≤ sizeLine; decide, fun t nt => ?_⟩⟩⟩⟩
        have z3 := same_new (o := .tup (ls'.map fun q => V.ref q.1)) nl
        have z4 := same_new (o := .tup [.ref r, .ref l]) np
        have z5 := same_new (o := .tup [.ref p, .int ((i + 1 : Nat) : Int)]) nt
        have ei : (linksQ rest).length = i := (goN en)
        have z45 := z4.trans z5
        have z35 := z3.trans z45
        refine kY zs ez t p r l ls' _ ((((back bu).trans s6t).trans z12).trans z35) (by rw [ei]; exact upd_same) (z5 _ _ upd_same) (z35 _ _ upd_same) (z45 _ _ upd_same) (fun q hq => z35 _ _ (z12 _ _ (laG.2 q hq))) ?_
        rw [el, ← ei, List.take_length]
      refine ⟨by show 0 ≤ sizeLine; decide, fun t2 nt2 => ⟨t, t2, k.map kV, rfl, rfl, SqT.of (same_new nt2 _ _ ht), SqT.of upd_same, _, rfl, ?_⟩⟩
      have s6t := s6.trans (same_new (o := .tup []) nt2)
      have kne : (k.map kV).isEmpty = false := by
        obtain ⟨a, b, x, y, rfl, _⟩ := linkQ_ok ek
        rfl
      refine iteB (by rw [kne]; rfl) ?_
      refine ⟨fun σ' H' => ∃ (ls' : List (Addr × List Key)), σ' = [some (.ref R0), some (.ref R), none, some (.ref F), some (.int ((i + 1 + 1 : Nat) : Int))] ∧ LinksAt H' F ls' ∧ ls'.map (·.2) = (linksQ rest).take (i + 1) ∧ But F H4 H', fun σ' H' ⟨ls2, e1, e2, e3, e4⟩ => ⟨rest.length - (i + 1), by omega, i + 1, ls2, rfl, goY k ek, e1, e2, e3, e4⟩, ?_⟩
      generalize upd H6 t2 (.tup []) = H7 at s6t ⊢
      have hF7 := s6t _ _ la.1
      refine ⟨_, rfl, .inl ⟨rfl, _, SqL.of hF7⟩, _, rfl, _, rfl, rowAt (s6t _ _ hR5) ⟨z, rfl, lz, fun k2 ek2 t3 H8 s8 ht3 => ?_, fun en => by rw [ek] at en; cases en⟩⟩
      obtain rfl : k = k2 := by
        rw [ek] at ek2
        injection ek2
      have s68 := s6t.trans s8
      have hF8 := s68 _ _ la.1
      refine ⟨F, _, _, rfl, rfl, hF8, by rw [List.length_map, sizeLine_eq]; omega, nxt ?_⟩
      refine ⟨_, rfl, _, _, rfl, rfl, ls' ++ [(t3, k)], rfl, ⟨by rw [upd_same, List.map_append]; rfl, fun u hu => ?_⟩, ?_, fun c o n e => by rw [upd_ne n]; exact s68 _ _ (bu c o n e)⟩
      · have tF : ∀ {c : Addr} {ys : List V}, H8 c = some (.tup ys) → upd H8 F (.lst ((ls'.map fun q => V.ref q.1) ++ [.ref t3])) c = some (.tup ys) := fun {c ys} e => by
          rw [upd_ne (fun z => by rw [z, hF8] at e; cases e)]
          exact e
        rcases List.mem_append.mp hu with hu | hu
        · exact tF (s68 _ _ (la.2 u hu))
        · rw [List.mem_singleton.mp hu]
          exact tF ht3
      · rw [List.map_append, el, List.take_add_one, linksQ_at hz (goY k ek) ek]
        rfl
end
end Toy
set_option Elab.async false
set_option linter.all false
set_option maxRecDepth 100000
set_option maxHeartbeats 8000000
namespace Toy
open PySem L2 Q RZ D7 TL
/-! ### is_world -/
theorem tLt_tr (x y z : Str) (h : tLt x y) (g : tLt y z) : tLt x z := List.lt_trans h g
theorem tLt_as (x y : Str) (h : tLt x y) : ¬ tLt y x := List.lt_asymm h
theorem tLt_ir (x : Str) : ¬ tLt x x := List.lt_irrefl _
/-- two rising rows of the same things are one -/
theorem ris_same {α : Type} {R : α → α → Prop} (asym : ∀ x y, R x y → ¬ R y x) : ∀ {l m : List α}, l.Pairwise R → m.Pairwise R → (∀ z, z ∈ l ↔ z ∈ m) → l = m
  | [], [], _, _, _ => rfl
  | [], y :: m, _, _, h => absurd ((h y).mpr List.mem_cons_self) (by simp)
  | x :: l, [], _, _, h => absurd ((h x).mp List.mem_cons_self) (by simp)
  | x :: l, y :: m, p, q, h => by
    have irr : ∀ x, ¬ R x x := fun x h => asym x x h h
    have p := List.pairwise_cons.mp p
    have q := List.pairwise_cons.mp q
    have e : x = y := by
      rcases List.mem_cons.mp ((h x).mp List.mem_cons_self) with e | mm
      · exact e
      · rcases List.mem_cons.mp ((h y).mpr List.mem_cons_self) with e | m2
        · exact e.symm
        · exact absurd (p.1 y m2) (asym _ _ (q.1 x mm))
    subst e
    rw [ris_same asym p.2 q.2 fun z => ?_]
    constructor
    · intro mm
      rcases List.mem_cons.mp ((h z).mp (List.mem_cons_of_mem _ mm)) with e | m2
      · exact absurd (p.1 z mm) (by rw [e]; exact irr _)
      · exact m2
    · intro mm
      rcases List.mem_cons.mp ((h z).mpr (List.mem_cons_of_mem _ mm)) with e | m2
      · exact absurd (q.1 z mm) (by rw [e]; exact irr _)
      · exact m2
theorem ris_tells {α : Type} {R : α → α → Prop} (asym : ∀ x y, R x y → ¬ R y x) (tr : ∀ x y z, R x y → R y z → R x z) {l m : List α} (pm : m.Pairwise R) (mem : ∀ z, z ∈ m ↔ z ∈ l) : l = m ↔ Adj R l :=
  ⟨fun e => by rw [e]; exact adj_of_pw pm, fun a => ris_same asym (pw_of_adj tr a) pm fun z => (mem z).symm⟩
theorem row_asym : ∀ r s : List Str, rowLt r s = true → ¬ rowLt s r = true
  | [], [], h => by cases h
  | [], _ :: _, _ => fun h => by cases h
  | _ :: _, [], h => by cases h
  | a :: r, b :: s, h => by
    have h : (if a = b then rowLt r s else decide (tLt a b)) = true := h
    show ¬ (if b = a then rowLt s r else decide (tLt b a)) = true
    by_cases e : a = b
    · rw [if_pos e] at h
      rw [if_pos e.symm]
      exact row_asym r s h
    · rw [if_neg e] at h
      rw [if_neg fun z => e z.symm]
      intro h2
      exact absurd (of_decide_eq_true h2) (List.lt_asymm (of_decide_eq_true h))
theorem row_tr : ∀ r s t : List Str, rowLt r s = true → rowLt s t = true → rowLt r t = true
  | [], [], _, h, _ => by cases h
  | [], _ :: _, [], _, h => by cases h
  | [], _ :: _, _ :: _, _, _ => rfl
  | _ :: _, [], _, h, _ => by cases h
  | _ :: _, _ :: _, [], _, h => by cases h
  | a :: r, b :: s, c :: t, h, g => by
    have h : (if a = b then rowLt r s else decide (tLt a b)) = true := h
    have g : (if b = c then rowLt s t else decide (tLt b c)) = true := g
    show (if a = c then rowLt r t else decide (tLt a c)) = true
    by_cases e : a = b
    · subst e
      rw [if_pos rfl] at h
      by_cases f : a = c
      · rw [if_pos f] at g ⊢
        exact row_tr r s t h g
      · rw [if_neg f] at g ⊢
        exact g
    · rw [if_neg e] at h
      have h := of_decide_eq_true h
      by_cases f : b = c
      · subst f
        rw [if_neg e]
        exact decide_eq_true h
      · rw [if_neg f] at g
        have g := of_decide_eq_true g
        have ac := tLt_tr _ _ _ h g
        rw [if_neg fun z => tLt_as _ _ h (by rw [z]; exact g)]
        exact decide_eq_true ac
/-- the two names of a link -/
def prS : List Key → List Str
  | .inr a :: .inr b :: _ => [a, b]
  | _ => []
/-- a link as it is read -/
def Rd4 (k : List Key) : Prop := ∃ (a b : Str) (x y : Nat), k = [.inr a, .inr b, .inl (x : Int), .inl (y : Int)] ∧ NameOk a ∧ NameOk b ∧ x < 1000000000 ∧ y < 1000000000
theorem rd4_of {r : Str} {k : List Key} (h : linkQ r = some k) : Rd4 k := by
  obtain ⟨a, b, x, y, e, na, nb, nx, ny, _⟩ := linkQ_ok h
  exact ⟨a, b, _, _, e, na, nb, val_lt nx, val_lt ny⟩
theorem pr_lt {k l : List Key} (h : Rd4 k) (g : Rd4 l) : kLt2 k l ↔ rowLt (prS k) (prS l) = true := by
  obtain ⟨a, b, x, y, rfl, _⟩ := h
  obtain ⟨c, d, u, v, rfl, _⟩ := g
  show ksLt [.inr a, .inr b] [.inr c, .inr d] = true ↔ rowLt [a, b] [c, d] = true
  simp only [ksLt, rowLt, kLt, Sum.inr.injEq]
theorem adj_pr {kk : List (List Key)} (h : ∀ k ∈ kk, Rd4 k) : Adj kLt2 kk ↔ Adj (fun u v => rowLt u v = true) (kk.map prS) := by
  rw [adj_map (R := fun u v => rowLt u v = true) (f := prS)]
  constructor
  · exact fun q i x y hx hy => (pr_lt (h x (List.mem_of_getElem? hx)) (h y (List.mem_of_getElem? hy))).mp (q i x y hx hy)
  · exact fun q i x y hx hy => (pr_lt (h x (List.mem_of_getElem? hx)) (h y (List.mem_of_getElem? hy))).mpr (q i x y hx hy)
theorem netD_now {zs : List Str} {kk : List (List Key)} (nok : ∀ z ∈ zs, NameOk z) : NetD (rtD zs) (lkD kk) ↔ 2 ≤ zs.length ∧ zs.length ≤ 8 ∧ kk.length ≤ 16 ∧ Adj tLt zs ∧ Adj kLt2 kk ∧ ∀ k ∈ kk, LkOk zs k := by
  constructor
  · rintro ⟨ys, ll, ⟨e1, rt, ad⟩, e2, few, lo, al⟩
    injection e1 with e1
    injection e2 with e2
    obtain rfl := str_inj e1
    obtain rfl := kDs_inj e2
    exact ⟨rt.1, rt.2.1, few, ad, al, lo⟩
  · rintro ⟨h1, h2, h3, h4, h5, h6⟩
    exact ⟨zs, kk, ⟨rfl, ⟨h1, h2, nok⟩, h4⟩, rfl, h3, h6, h5⟩
theorem eqv_lists (ys us : List Str) : PyData.eqv (.list (ys.map PyData.str)) (.list (us.map PyData.str)) = decide (ys = us) := by
  rw [← eqvAll_texts ys us]
  simp [PyData.eqv]
abbrev rwD (k : List Str) : PyData := .tuple (k.map PyData.str)
theorem eqvAll_rows : ∀ ys us : List (List Str), PyData.eqvAll (ys.map rwD) (us.map rwD) = decide (ys = us)
  | [], [] => by simp [PyData.eqvAll]
  | [], u :: us => by simp [PyData.eqvAll]
  | y :: ys, [] => by simp [PyData.eqvAll]
  | y :: ys, u :: us => by
    rw [List.map_cons, List.map_cons, PyData.eqvAll, eqvAll_rows ys us]
    have e : PyData.eqv (rwD y) (rwD u) = decide (y = u) := by
      rw [← eqvAll_texts y u]
      simp [PyData.eqv]
    rw [e, Bool.eq_iff_iff]
    simp
theorem eqv_rows (ys us : List (List Str)) : PyData.eqv (.list (ys.map rwD)) (.list (us.map rwD)) = decide (ys = us) := by
  rw [← eqvAll_rows ys us]
  simp [PyData.eqv]
end Toy
set_option Elab.async false
set_option linter.all false
set_option maxRecDepth 100000
set_option maxHeartbeats 8000000
namespace Toy
open PySem L2 Q RZ D7 TL
theorem lay_strs : ∀ {zs : List Str}, (∀ z ∈ zs, Low z) → PyData.canLayAll0 (zs.map PyData.str) = true ∧ PyData.depthAll (zs.map PyData.str) = 0
  | [], _ => ⟨rfl, rfl⟩
  | z :: zs, h => by
    obtain ⟨i1, i2⟩ := lay_strs (zs := zs) fun y hy => h y (List.mem_cons_of_mem _ hy)
    rw [List.map_cons]
    simp only [PyData.canLayAll0, PyData.depthAll, i1, i2, PyData.canLay0, PyData.depth, low_ok (h z List.mem_cons_self)]
    exact ⟨rfl, rfl⟩
theorem lay_rows : ∀ {rows : List (List Str)}, (∀ k ∈ rows, ∀ z ∈ k, Low z) → PyData.canLayAll0 (rows.map rwD) = true ∧ PyData.depthAll (rows.map rwD) ≤ 1
  | [], _ => ⟨rfl, Nat.zero_le _⟩
  | k :: rows, h => by
    obtain ⟨i1, i2⟩ := lay_rows (rows := rows) fun y hy => h y (List.mem_cons_of_mem _ hy)
    obtain ⟨e1, e2⟩ := lay_strs (h k List.mem_cons_self)
    rw [List.map_cons]
    simp only [PyData.canLayAll0, PyData.depthAll, PyData.canLay0, PyData.depth, i1, e1, e2]
    exact ⟨rfl, by omega⟩
theorem shaped_strs {zs : List Str} (h : ∀ z ∈ zs, Low z) : SeqAt.shaped (.list (zs.map PyData.str)) = true := by
  obtain ⟨e1, e2⟩ := lay_strs h
  simp only [SeqAt.shaped, PyData.canLay0, PyData.depth, e1, e2]
  decide
theorem shaped_rows {rows : List (List Str)} (h : ∀ k ∈ rows, ∀ z ∈ k, Low z) : SeqAt.shaped (.list (rows.map rwD)) = true := by
  obtain ⟨e1, e2⟩ := lay_rows h
  simp only [SeqAt.shaped, PyData.canLay0, PyData.depth, e1, Bool.true_and]
  exact decide_eq_true (by omega)
section
variable {K : PySem.W.Frag} {H : Hp}
theorem dp_strs : ∀ zs : List Str, DpAll K H (zs.map V.str) (zs.map PyData.str)
  | [] => .nil
  | z :: zs => .cons (.str z) (dp_strs zs)
theorem dp_rows : ∀ {l : List (Addr × List Str)}, (∀ q ∈ l, H q.1 = some (.tup (q.2.map V.str))) → DpAll K H (l.map fun q => V.ref q.1) ((l.map (·.2)).map rwD)
  | [], _ => .nil
  | q :: l, h => .cons (.tup (SqT.of (h q List.mem_cons_self)) (dp_strs q.2)) (dp_rows fun u m => h u (List.mem_cons_of_mem _ m))
end
/-- the pairs that were cut -/
def PrL (H : Hp) (F : Addr) (qs : List (Addr × List Str)) : Prop := H F = some (.lst (qs.map fun q => V.ref q.1)) ∧ ∀ q ∈ qs, H q.1 = some (.tup (q.2.map V.str))
abbrev cvK (q : Addr × List Str) : Addr × List Key := (q.1, q.2.map Sum.inr)
theorem strs_of {qs : List (Addr × List Str)} : ∀ {L : List (Addr × List Key)}, (∀ p ∈ L, p ∈ qs.map cvK) → ∃ L' : List (Addr × List Str), L = L'.map cvK ∧ ∀ q ∈ L', q ∈ qs
  | [], _ => ⟨[], rfl, fun q h => nomatch h⟩
  | p :: L, h => by
    obtain ⟨L', e, sub⟩ := strs_of fun p m => h p (List.mem_cons_of_mem _ m)
    obtain ⟨q, hq, e2⟩ := List.mem_map.mp (h p List.mem_cons_self)
    refine ⟨q :: L', by rw [e, ← e2]; rfl, fun u m => ?_⟩
    rcases List.mem_cons.mp m with rfl | m
    · exact hq
    · exact sub u m
theorem inr_inj : ∀ {r s : List Str}, r.map (Sum.inr : Str → Key) = s.map Sum.inr → r = s
  | [], [], _ => rfl
  | [], _ :: _, h => nomatch h
  | _ :: _, [], h => nomatch h
  | a :: r, b :: s, h => by
    injection h with h1 h2
    injection h1 with h1
    rw [h1, inr_inj h2]
/-- pairs != sorted(set(pairs)) -/
theorem pairs_test {K : PySem.W.Frag} {w : World} {H : Hp} {F : Addr} {qs : List (Addr × List Str)} {Q : VK} (f : PrL H F qs) (few : qs.length < 64) (ne : ∀ q ∈ qs, q.2 ≠ []) (low : ∀ q ∈ qs, ∀ z ∈ q.2, Low z)
    (k : ∀ b H', (b = true ↔ Adj (fun u v => rowLt u v = true) (qs.map (·.2))) → Same H H' → Q (.bl (!b)) H') :
    rSetTuD K w [.ref F] H fun x H1 => rSortTuR K w [x] H1 fun y H2 => rNeD K (.ref F) y H2 Q := by
  refine ⟨F, qs.map cvK, rfl, SqL.of (f.1.trans (by rw [List.map_map]; rfl)), fun p hp => ?_, by rw [List.length_map]; exact few, fun a L sub all nd ll na => ?_⟩
  · obtain ⟨q, hq, rfl⟩ := List.mem_map.mp hp
    exact SqT.of ((f.2 q hq).trans (by show _ = some (HO.tup ((q.2.map Sum.inr).map kV)); rw [List.map_map]; rfl))
  obtain ⟨L', rfl, sub'⟩ := strs_of sub
  have s1 := same_new (o := SetM w a ((L'.map cvK).map fun p => Value.ref p.1)) na
  refine ⟨a, L', rfl, by rw [upd_same, List.map_map]; rfl, fun p hp => SqT.of (s1 _ _ (f.2 p (sub' p hp))), fun p hp => ne p (sub' p hp), ?_, ?_, fun p zs' perm pw np => ?_⟩
  · rw [List.map_map] at nd
    have e : (L'.map ((fun x => x.2) ∘ cvK)) = (L'.map (·.2)).map fun r => r.map (Sum.inr : Str → Key) := by rw [List.map_map]; rfl
    rw [e] at nd
    exact List.Pairwise.of_map _ (fun a b ne e => ne (by rw [e])) nd
  · rw [List.length_map] at ll
    rw [List.length_map] at ll
    omega
  have s2 := same_new (o := .lst (zs'.map fun q => V.ref q.1)) np
  have s12 := s1.trans s2
  have low' : ∀ k ∈ zs'.map (·.2), ∀ z ∈ k, Low z := fun k hk => by
    obtain ⟨q, hq, rfl⟩ := List.mem_map.mp hk
    exact low q (sub' q (perm.mem_iff.mp hq))
  have lowQ : ∀ k ∈ qs.map (·.2), ∀ z ∈ k, Low z := fun k hk => by
    obtain ⟨q, hq, rfl⟩ := List.mem_map.mp hk
    exact low q hq
  refine ⟨_, _, .lst (SqL.of (s12 _ _ f.1)) (dp_rows fun q hq => s12 _ _ (f.2 q hq)), .lst (SqL.of upd_same) (dp_rows fun q hq => s12 _ _ (f.2 q (sub' q (perm.mem_iff.mp hq)))), shaped_rows lowQ, shaped_rows low', ?_⟩
  rw [eqv_rows]
  refine k _ _ ?_ s12
  rw [decide_eq_true_iff]
  refine ris_tells row_asym row_tr (List.pairwise_map.mpr pw) fun x => ?_
  constructor
  · intro m
    obtain ⟨q, hq, rfl⟩ := List.mem_map.mp m
    exact List.mem_map.mpr ⟨q, sub' q (perm.mem_iff.mp hq), rfl⟩
  · intro m
    obtain ⟨q, hq, rfl⟩ := List.mem_map.mp m
    obtain ⟨p', hp', e⟩ := List.mem_map.mp (all (cvK q) (List.mem_map.mpr ⟨q, hq, rfl⟩))
    obtain ⟨q', hq', rfl⟩ := List.mem_map.mp hp'
    exact List.mem_map.mpr ⟨q', perm.mem_iff.mpr hq', inr_inj e⟩
/-- names != sorted(set(names)) -/
theorem names_test {K : PySem.W.Frag} {w : World} {H : Hp} {A r : Addr} {zs : List Str} {Q : VK} (hA : H A = some (.lst (zs.map V.str))) (hr : H r = some (.tup (zs.map V.str))) (few : zs.length ≤ 8) (low : ∀ z ∈ zs, Low z)
    (k : ∀ b H', (b = true ↔ Adj tLt zs) → Same H H' → Q (.bl (!b)) H') :
    rSetTxD K w [.ref r] H fun x H1 => rSortTx w [x] H1 fun y H2 => rNeD K (.ref A) y H2 Q := by
  refine ⟨r, zs, rfl, SqT.of hr, by omega, fun a us ys nd mem le va na => ⟨a, us, ys, rfl, upd_same, va, nd, by omega, fun p xs perm pw np => ?_⟩⟩
  have s1 := same_new (o := SetM w a us) na
  have s2 := same_new (o := .lst (xs.map V.str)) np
  have s12 := s1.trans s2
  have mem' : ∀ z, z ∈ xs ↔ z ∈ zs := fun z => (perm.mem_iff).trans (mem z)
  refine ⟨_, _, .lst (SqL.of (s12 _ _ hA)) (dp_strs zs), .lst (SqL.of upd_same) (dp_strs xs), shaped_strs low, shaped_strs fun z hz => low z ((mem' z).mp hz), ?_⟩
  rw [eqv_lists]
  refine k _ _ ?_ s12
  rw [decide_eq_true_iff]
  exact ris_tells tLt_as tLt_tr pw mem'
def spLWorld : Sp := fun vs H Q _ => ∃ (r l : Addr) (zs : List Str) (ls : List (Addr × List Key)), vs = [.ref r, .ref l] ∧ H r = some (.tup (zs.map V.str)) ∧ H l = some (.tup (ls.map fun q => V.ref q.1)) ∧ (∀ q ∈ ls, H q.1 = some (.tup (q.2.map kV))) ∧ (∀ z ∈ zs, NameOk z) ∧ (∀ q ∈ ls, Rd4 q.2) ∧ zs.length ≤ 9000 ∧ ls.length ≤ 9000 ∧
  ∀ b : Bool, (b = true ↔ NetD (rtD zs) (lkD (ls.map (·.2)))) → ∀ H', Same H H' → Q (.bl b) H'
section
variable {P : Program} {w : World} {K : PySem.W.Frag} {mg : Str → Option Value} {base : Heap} {ca ia fa : Nat → Addr} {fd fi : Nat → FuncData}
theorem ok_lWorld (T : Txt K mg ca ia fa fd fi) : FnOk P w K mg base CX0 1 (fa 50) (fd 50) ["_law_routers", "_law_links"] spLWorld := by
  refine T.F_l_is_world.ok sc_l_is_world (fun vs H Q E h => ?_) (fun cdv A outer s H vs Q E hr h => ?_)
  · obtain ⟨r, l, zs, ls, rfl, _⟩ := h
    rfl
  · obtain ⟨r, l, zs, ls, rfl, hr1, hl, hq, nok, rd, zf, lf, k⟩ := h
    refine ⟨_, (pss_cons (ps_if (PW.pt (pw_or (pt_not (pt_chain op_le op_le pe_int (pe_callB call_len (by rfl) T.n_len (by decide +kernel) (pa_cons (pv 0) pa_nil)) pe_int)) (pw_or (pt_cmpR op_gt (pe_callB call_len (by rfl) T.n_len (by decide +kernel) (pa_cons (pv 1) pa_nil)) pe_int (nomark _)) (pw_or1 (pt_cmpR (op_neD hr.units) (pe_callTy call_list_of (by rfl) T.n_list (by decide +kernel) (pa_cons (pv 0) pa_nil)) (pe_callB (cr_sortTx rfl (roomU hr)) (by rfl) T.n_sorted (by decide +kernel) (pa_cons (pe_callTy (cr_setTxD rfl) (by rfl) T.n_set (by decide +kernel) (pa_cons (pv 0) pa_nil)) pa_nil)) (nomark _)))))) (pss_one (ps_ret pe_bl)) pss_nil)
      (pss_cons (ps_setLc (i := 2) (own := [("_law_link", 3)]) (g := (gName 3)) (tt := tYes) (te := (tSl (rSlA K) (tVar 3) tNoPart (tPart (tC (.int 2))))) rfl sc_l_is_world.nd rfl rfl (sw_true rfl rfl rfl (by decide +kernel)) (pi_tup (pv 1)) (blkOk_by (own := [("_law_link", 3)]) (N := N_l_is_world) (sc := defScope s_l_is_world) (by decide +kernel)) (fun _ _ _ _ _ => (pg_name (i := 3) sc_l_is_world.nd rfl (Or.inl rfl))) (fun _ _ _ _ _ => pts_nil) (fun _ _ _ _ _ => by exact (pe_slice sl_tupA (pv 3) po_none (po_some pe_int))))
      (pss_cons (ps_if (pt_cmpR (op_neD hr.units) (pv 2) (pe_callB (cr_sortTuR rfl (roomU3 hr)) (by rfl) T.n_sorted (by decide +kernel) (pa_cons (pe_callTy (cr_setTuD rfl (roomU3 hr)) (by rfl) T.n_set (by decide +kernel) (pa_cons (pv 2) pa_nil)) pa_nil)) (nomark _)) (pss_one (ps_ret pe_bl)) pss_nil)
      (pss_one (ps_ret (pe_callB (cr_all rfl) (by rfl) T.n_all (by decide +kernel) (pa_cons (pe_lc (own := [("_law_a", 4), ("_law_b", 5), ("_law_there", 6), ("_law_back", 7)]) (g := (gTup K 4 (gCons (gName 4) (gCons (gName 5) (gCons (gName 6) (gCons (gName 7) gNil)))))) (tt := tYes) (te := (tAndV (tOp (fun x y H Q => ∃ i j, x = .str i ∧ y = .str j ∧ Q (.bl (decide (i.cps.toList < j.cps.toList))) H) (tVar 4) (tVar 5)) (tAndV (tOp (rIn K false) (tVar 4) (tVar 0)) (tAndV (tOp (rIn K false) (tVar 5) (tVar 0)) (tAndV (tOp (rI0 fun i j => .bl (decide (j < i))) (tVar 6) (tC (.int 0))) (tOp (rI0 fun i j => .bl (decide (j < i))) (tVar 7) (tC (.int 0)))))))) rfl sc_l_is_world.nd (pi_tup (pv 1)) (blkOk_by (own := [("_law_a", 4), ("_law_b", 5), ("_law_there", 6), ("_law_back", 7)]) (N := N_l_is_world) (sc := defScope s_l_is_world) (by decide +kernel)) (fun _ _ _ _ _ => (pg_tup rfl (pgs_cons (pg_name (i := 4) sc_l_is_world.nd rfl (Or.inl rfl)) (pgs_cons (pg_name (i := 5) sc_l_is_world.nd rfl (Or.inl rfl)) (pgs_cons (pg_name (i := 6) sc_l_is_world.nd rfl (Or.inl rfl)) (pgs_cons (pg_name (i := 7) sc_l_is_world.nd rfl (Or.inl rfl)) pgs_nil)))))) (fun _ _ _ _ _ => pts_nil) (fun _ _ _ _ _ => by exact (pe_and (pe_cmpR op_lt_str (pv 4) (pv 5) (nomark _)) (pe_and (pe_cmpR op_in_seq (pv 4) (pv 0) rfl) (pe_and (pe_cmpR op_in_seq (pv 5) (pv 0) rfl) (pe_and (pe_cmpR op_gt (pv 6) pe_int (nomark _)) (pe_one (pe_cmpR op_gt (pv 7) pe_int (nomark _))))))))) pa_nil))))))), ?_⟩
    rw [netD_now nok, List.length_map] at k
    have low : ∀ z ∈ zs, Low z := fun z hz => (nok z hz).2.2
    have lenR : LenV K (.ref r) H zs.length := .inr ⟨_, SqT.of hr1, by rw [List.length_map]⟩
    have lenL : LenV K (.ref l) H ls.length := .inr ⟨_, SqT.of hl, by rw [List.length_map]⟩
    refine ⟨_, rfl, _, _, rfl, lenR, _, _, rfl, rfl, _, rfl, ifE (fun c1 => ?_) fun c1 => ?_⟩
    rotate_left
    · have l1 : ¬ (2 : Int) ≤ (zs.length : Nat) := of_decide_eq_false c1
      exact ⟨_, rfl, iteB rfl (k false ⟨fun q => (nomatch q), fun q => absurd q.1 (by omega)⟩ H (Same.refl H))⟩
    have l1 : (2 : Int) ≤ (zs.length : Nat) := of_decide_eq_true c1
    refine ⟨_, _, rfl, rfl, _, rfl, ifE (fun c2 => ?_) fun c2 => ?_⟩
    · have l2 : ¬ ((zs.length : Nat) : Int) ≤ 8 := fun q => by
        rw [decide_eq_true q] at c2
        cases c2
      exact k false ⟨fun q => (nomatch q), fun q => absurd q.2.1 (by omega)⟩ H (Same.refl H)
    have l2 : ((zs.length : Nat) : Int) ≤ 8 := of_decide_eq_true (by simpa using c2)
    refine ⟨_, rfl, _, _, rfl, lenL, _, _, rfl, rfl, _, rfl, ifE (fun c3 => ?_) fun c3 => ?_⟩
    · have l3 := of_decide_eq_true c3
      exact k false ⟨fun q => (nomatch q), fun q => absurd q.2.2.1 (by omega)⟩ H (Same.refl H)
    have l3 := of_decide_eq_false c3
    refine ⟨_, rfl, r, _, rfl, .inr (SqT.of hr1), fun A nA => ?_⟩
    have sA := same_new (o := .lst (zs.map V.str)) nA
    have hA : upd H A (.lst (zs.map V.str)) A = some (.lst (zs.map V.str)) := upd_same
    generalize upd H A (.lst (zs.map V.str)) = H1 at sA hA ⊢
    refine ⟨_, rfl, ?_⟩
    refine names_test (w := w) hA (sA _ _ hr1) (by omega) low fun b H2 hb s2 => ?_
    refine ⟨_, rfl, ifE (fun c4 => ?_) fun c4 => ?_⟩
    · exact k false ⟨fun q => (nomatch q), fun q => by rw [hb.mpr q.2.2.2.1] at c4; cases c4⟩ _ (sA.trans s2)
    have ad := hb.mp (by simpa using c4)
    refine nxt ?_
    have s02 := sA.trans s2
    have hlB := s02 _ _ hl
    refine ⟨_, rfl, l, rfl, ⟨_, SqT.of hlB⟩, fun D nD => ?_⟩
    refine lc_it (walk_tup (xs := ls.map fun q => V.ref q.1)) (fun i H' => ∃ qs : List (Addr × List Str), PrL H' D qs ∧ qs.map (·.2) = (ls.take i).map (fun q => prS q.2) ∧ Same H2 H')
      ⟨[], ⟨upd_same, fun q h => (nomatch h)⟩, rfl, same_new nD⟩ (fun i H' _ ⟨_, _, _, q⟩ => SqT.of (q _ _ hlB)) ?_ ?_
    · rintro i x Ha Hb hi ⟨qs, pr, eq, sm⟩ ⟨rfl, hx⟩
      obtain ⟨q, hq0, rfl⟩ := at_map hx
      have mq := List.mem_of_getElem? hq0
      obtain ⟨a, b, x, y, ek, na, nb, _⟩ := rd q mq
      have hq1 := sm _ _ (s02 _ _ (hq q mq))
      rw [ek] at hq1
      refine ⟨rfl, ?_⟩
      dsimp only [tYes]
      rw [if_pos rfl]
      refine ⟨_, rfl, _, rfl, q.1, _, rfl, SqT.of hq1, fun z => absurd (show HT.sIx 4 4 (some 2) = 4 from z.2) (by decide), fun _ p np => ?_⟩
      have lq : qs.length = i := by
        have h := congrArg List.length eq
        rw [List.length_map, List.length_map, List.length_take] at h
        rw [List.length_map] at hi
        omega
      have sp := same_new (o := .tup [.str a, .str b]) np
      refine ⟨_, sp _ _ pr.1, by rw [List.length_map, sizeLine_eq]; rw [List.length_map] at hi; omega, qs ++ [(p, [a, b])], ?_, ?_, Same.upd_at (sm.trans sp) nD⟩
      · have pD : p ≠ D := fun z => by rw [z] at np; rw [pr.1] at np; cases np
        refine ⟨by rw [upd_same, List.map_append]; rfl, fun u hu => ?_⟩
        have nD2 : ∀ {c : Addr} {ys : List V}, Hb c = some (.tup ys) → c ≠ D := fun {c ys} e z => by rw [z, pr.1] at e; cases e
        rcases List.mem_append.mp hu with hu | hu
        · have e := pr.2 u hu
          rw [upd_ne (nD2 e)]
          exact sp _ _ e
        · rw [List.mem_singleton.mp hu]
          rw [upd_ne pD]
          exact upd_same
      · rw [List.map_append, eq, List.take_add_one, hq0, List.map_append]
        simp [ek, prS]
    · rintro H3 ⟨qs, pr, eq, s3⟩
      rw [List.length_map, List.take_length] at eq
      have mqs : ∀ u ∈ qs, ∃ q ∈ ls, u.2 = prS q.2 := fun u hu => by
        have m : u.2 ∈ qs.map (·.2) := List.mem_map.mpr ⟨u, hu, rfl⟩
        rw [eq] at m
        obtain ⟨q, hq0, e⟩ := List.mem_map.mp m
        exact ⟨q, hq0, e.symm⟩
      have lq : qs.length = ls.length := by
        have h := congrArg List.length eq
        rw [List.length_map, List.length_map] at h
        exact h
      have s03 := s02.trans s3
      refine ⟨_, rfl, _, rfl, ?_⟩
      refine pairs_test (w := w) pr (by omega) (fun u hu z => ?_) (fun u hu z hz => ?_) fun b H4 hb s4 => ?_
      · obtain ⟨q, mq, e⟩ := mqs u hu
        obtain ⟨a, b, x, y, ek, _⟩ := rd q mq
        rw [e, ek] at z
        cases z
      · obtain ⟨q, mq, e⟩ := mqs u hu
        obtain ⟨a, b, x, y, ek, na, nb, _⟩ := rd q mq
        rw [e, ek] at hz
        rcases List.mem_cons.mp hz with rfl | hz
        · exact na.2.2
        · rw [List.mem_singleton.mp hz]
          exact nb.2.2
      rw [eq] at hb
      have rd' : ∀ k ∈ ls.map (·.2), Rd4 k := fun k hk => by
        obtain ⟨q, mq, rfl⟩ := List.mem_map.mp hk
        exact rd q mq
      have eqp : ls.map (fun q => prS q.2) = (ls.map (·.2)).map prS := by rw [List.map_map]; rfl
      rw [eqp, ← adj_pr rd'] at hb
      have s04 := s03.trans s4
      refine ⟨_, rfl, ifE (fun c5 => ?_) fun c5 => ?_⟩
      · exact k false ⟨fun q => (nomatch q), fun q => by rw [hb.mpr q.2.2.2.2.1] at c5; cases c5⟩ _ s04
      have al := hb.mp (by simpa using c5)
      refine nxt ?_
      have hlC := s04 _ _ hl
      have hrC := s04 _ _ hr1
      refine ⟨_, rfl, l, rfl, ⟨_, SqT.of hlC⟩, fun D2 nD2 => ?_⟩
      refine lc_it (walk_tup (xs := ls.map fun q => V.ref q.1)) (fun i H' => ∃ bs : List Bool, bs.length = i ∧ H' D2 = some (.lst (bs.map V.bl)) ∧ Same H4 H' ∧ (bs.all id = true ↔ ∀ q ∈ ls.take i, LkOk zs q.2)) ⟨[], rfl, upd_same, same_new nD2, by simp⟩ (fun i H' _ ⟨_, _, _, q, _⟩ => SqT.of (q _ _ hlC)) ?_ ?_
      · rintro i x Ha Hb hi ⟨bs, lb, hb5, sm, iff1⟩ ⟨rfl, hx⟩
        obtain ⟨q, hq0, rfl⟩ := at_map hx
        rw [List.length_map] at hi
        have mq := List.mem_of_getElem? hq0
        obtain ⟨a, b, x, y, ek, na, nb, _⟩ := rd q mq
        have hq1 := sm _ _ (s04 _ _ (hq q mq))
        have hrz := sm _ _ hrC
        rw [ek] at hq1
        have fin : ∀ c : Bool, (c = true ↔ LkOk zs q.2) → ∃ acc, Hb D2 = some (.lst acc) ∧ acc.length < sizeLine ∧ ∃ bs : List Bool, bs.length = i + 1 ∧ upd Hb D2 (.lst (acc ++ [.bl c])) D2 = some (.lst (bs.map V.bl)) ∧ Same H4 (upd Hb D2 (.lst (acc ++ [.bl c]))) ∧
            (bs.all id = true ↔ ∀ q ∈ ls.take (i + 1), LkOk zs q.2) := fun c hc =>
          ⟨_, hb5, by rw [List.length_map, sizeLine_eq]; omega, bs ++ [c], by simp [lb], by rw [upd_same, List.map_append]; rfl, Same.upd_at sm nD2, all_more hq0 hc iff1⟩
        have ok_ : LkOk zs q.2 ↔ tLt a b ∧ a ∈ zs ∧ b ∈ zs ∧ (0 : Int) < x ∧ (0 : Int) < y := by
          rw [ek]
          constructor
          · rintro ⟨a', b', x', y', e, ma, mb, ab, x1, y1⟩
            injection e with e1 e
            injection e with e2 e
            injection e with e3 e
            injection e with e4 _
            injection e1 with e1
            injection e2 with e2
            injection e3 with e3
            injection e4 with e4
            subst e1 e2
            exact ⟨ab, ma, mb, by omega, by omega⟩
          · rintro ⟨ab, ma, mb, x1, y1⟩
            exact ⟨a, b, x, y, rfl, ma, mb, ab, by omega, by omega⟩
        rw [ok_] at fin
        refine ⟨q.1, _, rfl, SqT.of hq1, rfl, _, _, rfl, _, _, rfl, _, _, rfl, _, _, rfl, rfl, ?_⟩
        dsimp only [tYes]
        rw [if_pos rfl]
        refine ⟨rfl, _, rfl, _, rfl, _, _, rfl, rfl, _, rfl, ifE (fun d1 => ?_) fun d1 => ?_⟩
        rotate_left
        · exact fin _ ⟨fun q => (nomatch q), fun q => absurd q.1 (of_decide_eq_false d1)⟩
        have ab := of_decide_eq_true d1
        refine ⟨_, rfl, _, rfl, r, _, rfl, .inr (SqT.of hrz), rfl, flat_strs zs, _, rfl, ifE (fun d2 => ?_) fun d2 => ?_⟩
        rotate_left
        · exact fin _ ⟨fun q => (nomatch q), fun q => by
            have e := in_strs.mpr q.2.1
            rw [show inV (V.str a) (zs.map V.str) = false from d2] at e
            cases e⟩
        have ma := in_strs.mp (show inV (V.str a) (zs.map V.str) = true from d2)
        refine ⟨_, rfl, _, rfl, r, _, rfl, .inr (SqT.of hrz), rfl, flat_strs zs, _, rfl, ifE (fun d3 => ?_) fun d3 => ?_⟩
        rotate_left
        · exact fin _ ⟨fun q => (nomatch q), fun q => by
            have e := in_strs.mpr q.2.2.1
            rw [show inV (V.str b) (zs.map V.str) = false from d3] at e
            cases e⟩
        have mb := in_strs.mp (show inV (V.str b) (zs.map V.str) = true from d3)
        refine ⟨_, rfl, _, _, rfl, rfl, _, rfl, ifE (fun d4 => ?_) fun d4 => ?_⟩
        rotate_left
        · exact fin _ ⟨fun q => (nomatch q), fun q => absurd q.2.2.2.1 (of_decide_eq_false d4)⟩
        refine ⟨_, rfl, _, _, rfl, rfl, ?_⟩
        exact fin _ ⟨fun q => ⟨ab, ma, mb, of_decide_eq_true d4, of_decide_eq_true q⟩, fun q => decide_eq_true q.2.2.2.2⟩
      · rintro H5 ⟨bs, lb, hb5, s5, iff1⟩
        rw [List.length_map, List.take_length] at iff1
        refine ⟨D2, bs, rfl, SqL.of hb5, ?_⟩
        refine k _ ?_ _ (s04.trans s5)
        rw [iff1]
        constructor
        · intro q
          refine ⟨by omega, by omega, by omega, ad, al, fun k hk => ?_⟩
          obtain ⟨u, hu, rfl⟩ := List.mem_map.mp hk
          exact q u hu
        · intro q u hu
          exact q.2.2.2.2.2 _ (List.mem_map.mpr ⟨u, hu, rfl⟩)
end
end Toy
set_option Elab.async false
set_option linter.all false
set_option maxRecDepth 100000
set_option maxHeartbeats 8000000
namespace Toy
open PySem L2 Q RZ D7 TL
/-! ### bent_page: what is bent is a text, not much longer -/
theorem spl_sum (S : List Nat) (one : S.length = 1) : ∀ (n : Nat) (l acc : List Nat), l.length ≤ n → ((spl S 0 acc l).map List.length).sum + (spl S 0 acc l).length = acc.length + l.length + 1
  | _, [], acc, _ => by
    rw [spl_nil]
    simp
  | 0, c :: r, acc, h => by
    rw [List.length_cons] at h
    omega
  | n + 1, c :: r, acc, h => by
    rw [List.length_cons] at h
    cases e : pre S (c :: r) with
    | true =>
      rw [spl_hit e, spl_pass]
      have h1 := spl_sum S one n (r.drop (S.length - 1)) [] (by rw [List.length_drop]; omega)
      rw [one] at h1 ⊢
      simp only [Nat.sub_self, List.drop_zero, List.length_nil] at h1 ⊢
      rw [List.map_cons, List.sum_cons, List.length_cons, List.length_cons]
      omega
    | false =>
      rw [spl_miss e]
      have h1 := spl_sum S one n r (acc ++ [c]) (by omega)
      rw [List.length_append, List.length_singleton] at h1
      rw [List.length_cons]
      omega
/-- what joining these may take -/
def Wt (ys : List Str) : Nat := (ys.map (·.length)).sum + ys.length
theorem wt_app (a b : List Str) : Wt (a ++ b) = Wt a + Wt b := by
  unfold Wt
  rw [List.map_append, List.sum_append, List.length_append]
  omega
theorem rows_wt (t : Str) : Wt (rowsOf t) = t.length + 1 := by
  have e := split_spl t (tx "\n") (by rw [lf_tl]; simp) (kind_ok (by decide +kernel))
  have h := spl_sum (tl (tx "\n")) (by rw [lf_tl]; rfl) (tl t).length (tl t) [] (Nat.le_refl _)
  rw [← e] at h
  unfold Wt rowsOf
  rw [List.length_map, List.length_nil, Nat.zero_add, ← len_tl] at h
  have e2 : ((Txt.split t (tx "\n")).map (·.length)).sum = (((Txt.split t (tx "\n")).map tl).map List.length).sum := by
    rw [List.map_map]
    exact congrArg List.sum (List.map_congr_left fun z _ => len_tl z)
  rw [e2]
  exact h
theorem join_wt (ys : List Str) : (Txt.join (tx "\n") ys).length ≤ Wt ys := by
  rw [len_tl, join_eq, tl_join, lf_tl]
  refine Nat.le_trans (joinL_len _ _) ?_
  have e : ((ys.map tl).map List.length) = ys.map (·.length) := by
    rw [List.map_map]
    exact List.map_congr_left fun z _ => (len_tl z).symm
  rw [e, List.length_map]
  unfold Wt
  simp
theorem wt_take (ys : List Str) (k : Nat) : Wt (ys.take k) + Wt (ys.drop k) = Wt ys := by
  rw [← wt_app, List.take_append_drop]
theorem wt_drop (ys : List Str) (k : Nat) : Wt (ys.drop k) ≤ Wt ys := by
  have := wt_take ys k
  omega
theorem cutS_len (z : Str) (lo hi : Option Int) : (cutS z lo hi).length ≤ z.length := by
  have e : (cutS z lo hi).length = ((z.cps.toList.drop (HT.sIx z.length 0 lo)).take (HT.sIx z.length z.length hi - HT.sIx z.length 0 lo)).length := rfl
  rw [e, List.length_take, List.length_drop]
  have e2 : z.cps.toList.length = z.length := Array.length_toList ..
  omega
abbrev bendS : List Str := ["\n", " ", "a", "0", "-", "A", "1", "link", "\nlearn a", "run", "\nlink a b 1 1", "set"]
theorem bend_le : ∀ z ∈ bendS, z.length ≤ 13 := by decide +kernel
theorem cut_strs {K : PySem.W.Frag} {H : Hp} {R : Addr} {xs ys : List Str} {lo hi : Option Int} {Q : VK} (h : H R = some (.lst (xs.map V.str))) (e : cutV (xs.map V.str) lo hi = ys.map V.str) (k : ∀ S H', Same H H' → H' S = some (.lst (ys.map V.str)) → Q (.ref S) H') :
    rSlL K (.ref R) lo hi H Q := ⟨R, _, rfl, SqL.of h, fun S nS => k S _ (same_new nS) (by rw [upd_same, e])⟩
theorem take_strs (xs : List Str) (d : Nat) : cutV (xs.map V.str) none (some (d : Int)) = (xs.take d).map V.str := by rw [cut_take, List.map_take]
theorem drop_strs (xs : List Str) (d : Nat) : cutV (xs.map V.str) (some (d : Int)) none = (xs.drop d).map V.str := by rw [cut_drop, List.map_drop]
theorem drop1_strs (xs : List Str) (d : Nat) : cutV (xs.map V.str) (some ((d : Int) + 1)) none = (xs.drop (d + 1)).map V.str := drop_strs xs (d + 1)
theorem cat_strs {H : Hp} {a b : Addr} {xs ys : List Str} {Q : VK} (ha : H a = some (.lst (xs.map V.str))) (hb : H b = some (.lst (ys.map V.str))) (few : Wt xs + Wt ys ≤ 100000)
    (k : ∀ p H', Same H H' → H' p = some (.lst ((xs ++ ys).map V.str)) → Q (.ref p) H') : rCat (.ref a) (.ref b) H Q :=
  ⟨a, b, _, _, rfl, rfl, ha, hb, by rw [List.length_map, List.length_map, sizeLine_eq]; unfold Wt at few; omega, fun p np => k p _ (same_new np) (by rw [upd_same, List.map_append])⟩
theorem join_fits {ys : List Str} (few : Wt ys ≤ 100000) : (ys.map (·.length)).sum + ys.length * (Str.ofString "\n").length ≤ 16777216 := by
  have e1 : (Str.ofString "\n").length = 1 := by decide +kernel
  rw [e1]
  unfold Wt at few
  omega
theorem noPart_it {σ : L2.St} {H : Hp} {R : Option Int → Hp → Prop} (h : R none H) : tNoPart σ H R := h
def spBent : Sp := fun vs H Q _ => ∃ (p : Addr) (t : Str) (B : Nat), vs = [.ref p, .str t] ∧ Pot H p B ∧ B < 900000 ∧ t.length ≤ 9000 ∧
  ∀ (z : Str) (H' : Hp), z.length ≤ 2 * t.length + 20 → But p H H' → Pot H' p (B + 4) → Q (.str z) H'
section
variable {P : Program} {w : World} {K : PySem.W.Frag} {mg : Str → Option Value} {base : Heap} {ca ia fa : Nat → Addr} {fd fi : Nat → FuncData}
theorem ok_bent (T : Txt K mg ca ia fa fd fi) : FnOk P w K mg base CX0 3 (fa 51) (fd 51) ["_law_pot_here", "_law_page"] spBent := by
  have G_l_take := ok_take (P := P) (w := w) (base := base) T
  have G_l_of := ok_of (P := P) (w := w) (base := base) T
  refine T.F_l_bent_page.ok sc_l_bent_page (fun vs H Q E h => ?_) (fun cdv A outer s H vs Q E hr h => ?_)
  · obtain ⟨p, t, B, rfl, _⟩ := h
    rfl
  · obtain ⟨p, t, B, rfl, hp, hB, tl9, k⟩ := h
    refine ⟨_, (pss_cons (ps_par3 (i := 2) (j := 3) (l := 4) (by rfl) sc_l_bent_page.nd rfl rfl rfl (by decide) (by decide) (by decide) rfl rfl rfl (pa_cons (pe_call G_l_take (hr.mono (by decide)) rfl T.g_l_take T.k_l_take T.b_l_take .nil pass0 (pa_cons (pv 0) (pa_cons pe_int pa_nil))) (pa_cons (pe_call G_l_take (hr.mono (by decide)) rfl T.g_l_take T.k_l_take T.b_l_take .nil pass0 (pa_cons (pv 0) (pa_cons (pe_op op_add (pe_callB call_len (by rfl) T.n_len (by decide +kernel) (pa_cons (pv 1) pa_nil)) pe_int) pa_nil))) (pa_cons (pe_split (pv 1) pe_str) pa_nil))) (by rfl))
      (pss_cons (ps_set (i := 5) sc_l_bent_page.nd rfl (Or.inl rfl) (pe_call G_l_of (hr.mono (by decide)) rfl T.g_l_of T.k_l_of T.b_l_of .nil pass0 (pa_cons (pv 0) (pa_cons (pe_lst (pa_cons pe_str (pa_cons pe_str (pa_cons pe_str (pa_cons pe_str (pa_cons pe_str (pa_cons pe_str (pa_cons pe_str (pa_cons pe_str (pa_cons pe_str (pa_cons pe_str (pa_cons pe_str (pa_cons pe_str pa_nil))))))))))))) pa_nil))))
      (pss_cons (ps_set (i := 6) sc_l_bent_page.nd rfl (Or.inl rfl) (pe_call G_l_take (hr.mono (by decide)) rfl T.g_l_take T.k_l_take T.b_l_take .nil pass0 (pa_cons (pv 0) (pa_cons (pe_callB call_len (by rfl) T.n_len (by decide +kernel) (pa_cons (pv 4) pa_nil)) pa_nil))))
      (pss_cons (ps_if (pt_cmpR op_eq (pv 2) pe_int (nomark _)) (pss_one (ps_ret (pe_op op_add_str (pe_slice sl_str (pv 1) po_none (po_some (pv 3))) (pe_slice sl_str (pv 1) (po_some (pe_op op_add (pv 3) pe_int)) po_none)))) pss_nil)
      (pss_cons (ps_if (pt_cmpR op_lt (pv 2) pe_int (nomark _)) (pss_one (ps_ret (pe_op op_add_str (pe_op op_add_str (pe_slice sl_str (pv 1) po_none (po_some (pv 3))) (pv 5)) (pe_slice sl_str (pv 1) (po_some (pe_op op_add (pv 3) (pe_ifExp (pt_cmpR op_eq (pv 2) pe_int (nomark _)) pe_int pe_int))) po_none)))) pss_nil)
      (pss_cons (ps_if (pt_cmpR op_eq (pv 2) pe_int (nomark _)) (pss_one (ps_ret (pe_join pe_str (pe_op op_cat (pe_slice sl_list (pv 4) po_none (po_some (pv 6))) (pe_slice sl_list (pv 4) (po_some (pe_op op_add (pv 6) pe_int)) po_none))))) pss_nil)
      (pss_one (ps_ret (pe_ifExp (pt_cmpR op_eq (pv 2) pe_int (nomark _)) (pe_join pe_str (pe_op op_cat (pe_op op_cat (pe_slice sl_list (pv 4) po_none (po_some (pv 6))) (pe_lst (pa_cons (pe_ix ix_seq (pv 4) (pv 6) (fun _ _ => rfl)) (pa_cons (pe_ix ix_seq (pv 4) (pv 6) (fun _ _ => rfl)) pa_nil)))) (pe_slice sl_list (pv 4) (po_some (pe_op op_add (pv 6) pe_int)) po_none))) (pe_join pe_str (pe_op op_cat (pe_slice sl_list (pv 4) (po_some pe_int) po_none) (pe_slice sl_list (pv 4) po_none (po_some pe_int))))))))))))), ?_⟩
    have lenV : ∀ {H'}, LenV K (.str t) H' t.length := fun {H'} => ⟨by rw [sizeLine_eq]; omega, rfl⟩
    refine ⟨_, rfl, p, 6, B, rfl, hp, by decide, by decide, by omega, fun d1 H1 l1 b1 hp1 => ?_⟩
    refine ⟨_, rfl, _, rfl, _, _, rfl, lenV, _, _, rfl, rfl, p, _, _, rfl, hp1, by omega, by omega, by omega, fun d2 H2 l2 b2 hp2 => ?_⟩
    obtain ⟨wl, wn, wp⟩ := rows_le t
    have wt := rows_wt t
    refine ⟨_, rfl, ⟨_, rfl⟩, _, _, rfl, rfl, by decide +kernel, by rw [sizeLine_eq]; omega, fun R nR => ?_⟩
    have sR := same_new (o := .lst ((rowsOf t).map V.str)) nR
    have hR : upd H2 R (.lst ((rowsOf t).map V.str)) R = some (.lst ((rowsOf t).map V.str)) := upd_same
    have eW : Txt.split t (Str.ofString "\n") = rowsOf t := rfl
    rw [eW]
    have hp3 := hp2.same sR
    have pR : R ≠ p := fun z => by
      obtain ⟨o, sd, c, hpp, _⟩ := hp2
      rw [z, hpp] at nR
      cases nR
    have b3 := (b1.trans b2).trans (But.of sR)
    generalize upd H2 R (.lst ((rowsOf t).map V.str)) = H3 at sR hR hp3 b3 ⊢
    refine ⟨_, _, _, rfl, ?_⟩
    refine ⟨_, rfl, by show 12 ≤ sizeLine; decide, fun L nL => ?_⟩
    have sL := same_new (o := .lst (bendS.map V.str)) nL
    have hL : upd H3 L (.lst (bendS.map V.str)) L = some (.lst (bendS.map V.str)) := upd_same
    have eL : upd H3 L (.lst (bendS.map V.str)) = upd H3 L (.lst (bendS.map V.str)) := rfl
    have pL : L ≠ p := fun z => by
      obtain ⟨o, sd, c, hpp, _⟩ := hp3
      rw [z, hpp] at nL
      cases nL
    refine ⟨p, .ref L, bendS.map V.str, _, rfl, hp3.same sL, by omega, .inl ⟨L, rfl, pL, SqL.of upd_same⟩, by decide, by decide, fun d3 v H4 hv b4 hp4 => ?_⟩
    obtain ⟨sg, hsg, rfl⟩ := at_map hv
    have lsg := bend_le sg (List.mem_of_getElem? hsg)
    have hR4 := b4 _ _ pR (sL _ _ hR)
    have b04 := (b3.trans (But.of sL)).trans b4
    have lw0 : 1 ≤ (rowsOf t).length := by
      cases e : rowsOf t with
      | nil => exact absurd e wn
      | cons _ _ => simp
    refine ⟨_, rfl, _, rfl, _, _, rfl, .inl ⟨_, SqL.of hR4, by rw [List.length_map]⟩, p, _, _, rfl, hp4, by omega, by omega, by omega, fun d4 H5 l4 b5 hp5 => ?_⟩
    have b05 := b04.trans b5
    have hR5 := b5 _ _ pR hR4
    have szP : t.length ≤ sizeLine := by rw [sizeLine_eq]; omega
    have c1 := cutS_len t none (some (d2 : Int))
    have c2 := cutS_len t (some ((d2 : Int) + 1)) none
    refine ⟨_, rfl, rfl, _, rfl, ifE (fun e1 => ?_) fun e1 => ?_⟩
    · refine ⟨_, rfl, _, rfl, _, rfl, t, rfl, szP, _, rfl, _, rfl, _, _, rfl, rfl, _, rfl, t, rfl, szP, _, _, rfl, rfl, by rw [sizeLine_eq]; omega, ?_⟩
      refine k _ _ ?_ b05 hp5
      rw [PySem.strLen_append]
      omega
    refine nxt ?_
    refine ⟨_, rfl, _, _, rfl, rfl, _, rfl, ifE (fun e2 => ?_) fun e2 => ?_⟩
    · refine ⟨_, rfl, _, rfl, _, rfl, t, rfl, szP, _, rfl, _, _, rfl, rfl, by rw [sizeLine_eq]; omega, ?_⟩
      refine ⟨_, rfl, _, rfl, _, rfl, rfl, _, rfl, ifE (fun _ => ?_) fun _ => ?_⟩
      all_goals
        refine ⟨_, _, rfl, rfl, _, rfl, t, rfl, szP, _, _, rfl, rfl, ?_, k _ _ ?_ b05 hp5⟩
        · have c3 := fun o => cutS_len t (some o) none
          rw [PySem.strLen_append, sizeLine_eq]
          exact Nat.le_trans (Nat.add_le_add_left (c3 _) _) (by omega)
        · have c3 := fun o => cutS_len t (some o) none
          rw [PySem.strLen_append, PySem.strLen_append]
          exact Nat.le_trans (Nat.add_le_add_left (c3 _) _) (by omega)
    refine nxt ?_
    have w1 := wt_take (rowsOf t) d4
    have w2 := wt_drop (rowsOf t) (d4 + 1)
    have w3 : Wt ((rowsOf t).take d4) + Wt ((rowsOf t).drop (d4 + 1)) ≤ Wt (rowsOf t) := by
      have e : (rowsOf t).drop (d4 + 1) = ((rowsOf t).drop d4).drop 1 := by rw [List.drop_drop]
      have := wt_drop ((rowsOf t).drop d4) 1
      rw [e]
      omega
    have back : ∀ {G : Hp}, Same H5 G → But p H G ∧ Pot G p (B + 1 + 1 + 1 + 1) := fun {G} g => ⟨b05.trans (But.of g), hp5.same g⟩
    refine ⟨_, rfl, rfl, _, rfl, ifE (fun e3 => ?_) fun e3 => ?_⟩
    · refine ⟨⟨_, rfl⟩, _, rfl, _, rfl, _, rfl, cut_strs hR5 (take_strs _ d4) fun S1 G1 g1 h1 => ?_⟩
      refine ⟨_, rfl, _, rfl, _, _, rfl, rfl, _, rfl, noPart_it (cut_strs (g1 _ _ hR5) (drop1_strs _ d4) fun S2 G2 g2 h2 => ?_)⟩
      refine cat_strs (g2 _ _ h1) h2 (by omega) fun S3 G3 g3 h3 => ?_
      have g := (g1.trans g2).trans g3
      have fw : Wt ((rowsOf t).take d4 ++ (rowsOf t).drop (d4 + 1)) ≤ t.length + 1 := by
        rw [wt_app]
        omega
      refine ⟨_, S3, _, rfl, rfl, .inl (SqL.of h3), join_fits (by omega), k _ _ ?_ (back g).1 (back g).2⟩
      have := join_wt ((rowsOf t).take d4 ++ (rowsOf t).drop (d4 + 1))
      have e : Txt.join (Str.ofString "\n") = Txt.join (tx "\n") := rfl
      rw [e]
      omega
    refine nxt ?_
    refine ⟨_, rfl, rfl, _, rfl, ifE (fun e3 => ?_) fun e3 => ?_⟩
    · obtain ⟨x, hx⟩ : ∃ x, (rowsOf t)[d4]? = some x := ⟨(rowsOf t)[d4]'(by omega), List.getElem?_eq_getElem (by omega)⟩
      have lx := wp x (List.mem_of_getElem? hx)
      refine ⟨⟨_, rfl⟩, _, rfl, _, rfl, _, rfl, cut_strs hR5 (take_strs _ d4) fun S1 G1 g1 h1 => ?_⟩
      refine ⟨_, rfl, _, rfl, ixL (SqL.of (g1 _ _ hR5)) d4 (by rw [List.getElem?_map, hx]; rfl) ⟨_, rfl, _, rfl, ixL (SqL.of (g1 _ _ hR5)) d4 (by rw [List.getElem?_map, hx]; rfl) ⟨by show 2 ≤ sizeLine; decide, fun S2 n2 => ?_⟩⟩⟩
      have g2 := same_new (o := .lst ([x, x].map V.str)) n2
      have h2 : upd G1 S2 (.lst ([x, x].map V.str)) S2 = some (.lst ([x, x].map V.str)) := upd_same
      have w4 : Wt [x, x] ≤ 2 * t.length + 2 := by
        unfold Wt
        simp
        omega
      refine cat_strs (g2 _ _ h1) h2 (by omega) fun S3 G3 g3 h3 => ?_
      refine ⟨_, rfl, _, rfl, _, _, rfl, rfl, _, rfl, noPart_it (cut_strs (g3 _ _ (g2 _ _ (g1 _ _ hR5))) (drop1_strs _ d4) fun S4 G4 g4 h4 => ?_)⟩
      have fw0 : Wt ((rowsOf t).take d4 ++ [x, x]) = Wt ((rowsOf t).take d4) + Wt [x, x] := wt_app _ _
      refine cat_strs (g4 _ _ h3) h4 (by omega) fun S5 G5 g5 h5 => ?_
      have g := (((g1.trans g2).trans g3).trans g4).trans g5
      have ex : (rowsOf t).take d4 ++ [x] ++ (rowsOf t).drop (d4 + 1) = rowsOf t := by
        have e := List.take_add_one (l := rowsOf t) (i := d4)
        rw [hx] at e
        have e : (rowsOf t).take (d4 + 1) = (rowsOf t).take d4 ++ [x] := e
        rw [← e, List.take_append_drop]
      have we := congrArg Wt ex
      rw [wt_app, wt_app] at we
      have wx : Wt [x] = x.length + 1 := by
        unfold Wt
        simp
      have wxx : Wt [x, x] = 2 * x.length + 2 := by
        unfold Wt
        simp
        omega
      have fw : Wt ((rowsOf t).take d4 ++ [x, x] ++ (rowsOf t).drop (d4 + 1)) ≤ 2 * t.length + 2 := by
        rw [wt_app]
        omega
      refine ⟨_, S5, _, rfl, rfl, .inl (SqL.of h5), join_fits (by omega), k _ _ ?_ (back g).1 (back g).2⟩
      have := join_wt ((rowsOf t).take d4 ++ [x, x] ++ (rowsOf t).drop (d4 + 1))
      have e : Txt.join (Str.ofString "\n") = Txt.join (tx "\n") := rfl
      rw [e]
      omega
    · refine ⟨⟨_, rfl⟩, _, rfl, _, rfl, noPart_it (cut_strs hR5 (drop_strs _ 1) fun S1 G1 g1 h1 => ?_)⟩
      refine ⟨_, rfl, _, rfl, cut_strs (g1 _ _ hR5) (take_strs _ 1) fun S2 G2 g2 h2 => ?_⟩
      have w5 := wt_take (rowsOf t) 1
      refine cat_strs (g2 _ _ h1) h2 (by omega) fun S3 G3 g3 h3 => ?_
      have g := (g1.trans g2).trans g3
      have fw : Wt ((rowsOf t).drop 1 ++ (rowsOf t).take 1) ≤ t.length + 1 := by
        rw [wt_app]
        omega
      refine ⟨_, S3, _, rfl, rfl, .inl (SqL.of h3), join_fits (by omega), k _ _ ?_ (back g).1 (back g).2⟩
      have := join_wt ((rowsOf t).drop 1 ++ (rowsOf t).take 1)
      have e : Txt.join (Str.ofString "\n") = Txt.join (tx "\n") := rfl
      rw [e]
      omega
end
end Toy
set_option Elab.async false
set_option linter.all false
set_option maxRecDepth 100000
set_option maxHeartbeats 8000000
namespace Toy
open PySem L2 Q RZ D7 TL
/-! ### what is due of a value -/
open Classical in
noncomputable def okD (zs : List Str) (kk : List (List Key)) : PyData := .tuple [.str (if NetD (rtD zs) (lkD kk) then tx "fine" else tx "net"), .tuple [rtD zs, lkD kk]]
noncomputable def dueT (t : Str) : PyData := match parseW t with
  | .bad i => .tuple [.str (tx "text"), .int (i : Nat)]
  | .ok zs kk => okD zs kk
noncomputable def dueD (d : PyData) : PyData := match d with
  | .str t => dueT t
  | _ => .tuple [.str (tx "text"), .none]
theorem dueD_no {d : PyData} (h : strB d = false) : dueD d = .tuple [.str (tx "text"), .none] := by
  cases d <;> first | rfl | cases h
theorem dueT_bad {t : Str} {i : Nat} (h : parseW t = .bad i) : dueT t = .tuple [.str (tx "text"), .int (i : Nat)] := by
  unfold dueT
  rw [h]
theorem dueT_ok {t : Str} {zs : List Str} {kk : List (List Key)} (h : parseW t = .ok zs kk) : dueT t = okD zs kk := by
  unfold dueT
  rw [h]
def spDue (K : PySem.W.Frag) : Sp := fun vs H Q _ => ∃ (v : V) (d : PyData), vs = [v] ∧ Dd K H v d ∧ (∀ t, d = .str t → t.length ≤ 8900) ∧ ∀ (a : Addr) H', Same H H' → Dd K H' (.ref a) (dueD d) → Q (.ref a) H'
section
variable {P : Program} {w : World} {K : PySem.W.Frag} {mg : Str → Option Value} {base : Heap} {ca ia fa : Nat → Addr} {fd fi : Nat → FuncData}
theorem ok_due (T : Txt K mg ca ia fa fd fi) : FnOk P w K mg base CX0 4 (fa 53) (fd 53) ["_law_value"] (spDue K) := by
  have G_l_net_read := ok_lNetR (P := P) (w := w) (base := base) T
  have G_l_is_world := ok_lWorld (P := P) (w := w) (base := base) T
  refine T.F_l_due.ok sc_l_due (fun vs H Q E h => ?_) (fun cdv A outer s H vs Q E hr h => ?_)
  · obtain ⟨v, d, rfl, _⟩ := h
    rfl
  · obtain ⟨v, d, rfl, hd, len, k⟩ := h
    refine ⟨_, (pss_cons (ps_if (pt_not (pt_val (pe_callB call_isA (by rfl) T.n_isinstance (by decide +kernel) (pa_cons (pv 0) (pa_cons (pe_bltn (v := .ty "str") (by rfl) T.n_str (by decide +kernel) rfl) pa_nil))))) (pss_one (ps_ret (pe_tup (pa_cons pe_str (pa_cons pe_non pa_nil))))) pss_nil)
      (pss_cons (ps_set (i := 1) sc_l_due.nd rfl (Or.inl rfl) (pe_split (pv 0) pe_str))
      (pss_cons (ps_asg (pe_call G_l_net_read (hr.mono (by decide)) rfl T.g_l_net_read T.k_l_net_read T.b_l_net_read .nil pass0 (pa_cons (pv 1) pa_nil)) (pg_tup rfl (pgs_cons (pg_name (i := 2) sc_l_due.nd rfl (Or.inl rfl)) (pgs_cons (pg_name (i := 3) sc_l_due.nd rfl (Or.inl rfl)) pgs_nil))))
      (pss_cons (ps_if (PW.pt (pw_or (pt_cmpR op_isN (pv 2) pe_non (nomark _)) (pw_or1 (pt_cmpR op_lt (pv 3) (pe_callB call_len (by rfl) T.n_len (by decide +kernel) (pa_cons (pv 1) pa_nil)) (nomark _))))) (pss_one (ps_ret (pe_tup (pa_cons pe_str (pa_cons (pv 3) pa_nil))))) pss_nil)
      (pss_one (ps_ret (pe_tup (pa_cons (pe_ifExp (pt_val (pe_call G_l_is_world (hr.mono (by decide)) rfl T.g_l_is_world T.k_l_is_world T.b_l_is_world .nil pass0 (pa_cons (pe_ix ix_seq (pv 2) pe_int (fun _ _ => rfl)) (pa_cons (pe_ix ix_seq (pv 2) pe_int (fun _ _ => rfl)) pa_nil)))) pe_str pe_str) (pa_cons (pv 2) pa_nil))))))))), ?_⟩
    obtain ⟨ty0, ty, _, _, es, _⟩ := hd.kits
    refine ⟨_, rfl, .inl ⟨_, _, _, _, _, rfl, .ty _, ty, es, _, rfl, ifE (fun c => ?_) fun c => ?_⟩⟩
    · refine ⟨by show 2 ≤ sizeLine; decide, fun a na => k a _ (same_new na) ?_⟩
      rw [dueD_no (by simpa using c)]
      exact .tup (SqT.of upd_same) (.cons (.str _) (.cons .non .nil))
    obtain ⟨t, rfl, rfl⟩ := strB_of hd (by simpa using c)
    have lt := len t rfl
    refine nxt ?_
    obtain ⟨wl, wn, wp⟩ := rows_le t
    refine ⟨_, rfl, ⟨_, rfl⟩, _, _, rfl, rfl, by decide +kernel, by rw [sizeLine_eq]; omega, fun R nR => ?_⟩
    have sR := same_new (o := .lst ((rowsOf t).map V.str)) nR
    have hR : upd H R (.lst ((rowsOf t).map V.str)) R = some (.lst ((rowsOf t).map V.str)) := upd_same
    have eW : Txt.split t (Str.ofString "\n") = rowsOf t := rfl
    rw [eW]
    generalize upd H R (.lst ((rowsOf t).map V.str)) = H1 at sR hR ⊢
    obtain ⟨r0, rest, er⟩ : ∃ r0 rest, rowsOf t = r0 :: rest := by
      cases e : rowsOf t with
      | nil => exact absurd e wn
      | cons a b => exact ⟨a, b, rfl⟩
    rw [er] at hR wl wp
    rw [List.length_cons] at wl
    have bad : ∀ {H'} {i : Nat}, Same H H' → parseW t = .bad i → ∀ a, H' a = none → Q (.ref a) (upd H' a (.tup [.str (tx "text"), .int (i : Nat)])) := fun {H' i} s e a na => k a _ (s.trans (same_new na)) (by
      show Dd K _ _ (dueT t)
      rw [dueT_bad e]
      exact .tup (SqT.of upd_same) (.cons (.str _) (.cons (.int _) .nil)))
    refine ⟨_, rfl, R, r0, rest, rfl, hR, by omega, fun r hr => by have := wp r hr; omega, fun en a H2 s2 ha => ?_, fun zs ez a p r l ls H2 s2 ha hp hr2 hl hq el => ?_⟩
    · refine ⟨a, _, rfl, SqT.of ha, rfl, _, _, rfl, _, _, rfl, rfl, ?_⟩
      refine ⟨_, rfl, rfl, _, rfl, iteB rfl ⟨_, rfl, by show 2 ≤ sizeLine; decide, fun b nb => ?_⟩⟩
      exact bad (i := 0) (sR.trans s2) (by unfold parseW; rw [er]; exact parseR_none en) b nb
    refine ⟨a, _, rfl, SqT.of ha, rfl, _, _, rfl, _, _, rfl, rfl, ?_⟩
    have s02 := sR.trans s2
    have le := linksQ_le rest
    refine ⟨_, rfl, rfl, _, rfl, iteB2 rfl ⟨_, rfl, _, rfl, _, _, rfl, .inl ⟨_, SqL.of (s2 _ _ hR), rfl⟩, _, _, rfl, rfl, _, rfl, ifE (fun c2 => ?_) fun c2 => ?_⟩⟩
    · have c2 := of_decide_eq_true c2
      rw [List.length_map, List.length_cons] at c2
      refine ⟨_, rfl, by show 2 ≤ sizeLine; decide, fun b nb => ?_⟩
      exact bad s02 (by unfold parseW; rw [er]; exact parseR_bad ez rfl (by omega)) b nb
    have c2 := of_decide_eq_false c2
    rw [List.length_map, List.length_cons] at c2
    have ee : (linksQ rest).length = rest.length := by omega
    have ep : parseW t = .ok zs (linksQ rest) := by
      unfold parseW
      rw [er]
      exact parseR_ok ez ee
    obtain ⟨nz, nk⟩ := parse_names (by show parseR (rowsOf t) = _; exact ep)
    refine nxt ?_
    have lz : zs.length ≤ 9000 := by
      obtain ⟨_, e⟩ := routersW_ok ez
      have := (words_le r0).1
      have l0 := wp r0 (by simp)
      rw [e, List.length_cons] at this
      omega
    have lls : ls.length = (linksQ rest).length := by
      have h := congrArg List.length el
      rw [List.length_map] at h
      exact h
    have dr : Dd K H2 (.ref r) (rtD zs) := .tup (SqT.of hr2) (dd_strs zs)
    have dl : Dd K H2 (.ref l) (lkD (linksQ rest)) := .tup (SqT.of hl) (by rw [← el]; exact dd_links hq)
    have dp : Dd K H2 (.ref p) (.tuple [rtD zs, lkD (linksQ rest)]) := .tup (SqT.of hp) (.cons dr (.cons dl .nil))
    refine ⟨_, rfl, ixT (SqT.of hp) 0 rfl ⟨_, rfl, ixT (SqT.of hp) 1 rfl ?_⟩⟩
    refine ⟨r, l, zs, ls, rfl, hr2, hl, hq, nz, fun q hq0 => ?_, lz, by omega, fun b hb H3 s3 => ?_⟩
    · obtain ⟨r1, e1⟩ := nk q.2 (by rw [← el]; exact List.mem_map.mpr ⟨q, hq0, rfl⟩)
      exact rd4_of e1
    rw [el] at hb
    have fin : ∀ a, H3 a = none → ∀ wd : Str, wd = (@ite _ (NetD (rtD zs) (lkD (linksQ rest))) (Classical.propDecidable _) (tx "fine") (tx "net")) → Q (.ref a) (upd H3 a (.tup [.str wd, .ref p])) := fun a na wd ew => k a _ ((s02.trans s3).trans (same_new na)) (by
      show Dd K _ _ (dueT t)
      rw [dueT_ok ep]
      unfold okD
      rw [← ew]
      exact .tup (SqT.of upd_same) (.cons (.str _) (.cons (dp.same (s3.trans (same_new na))) .nil)))
    refine ⟨_, rfl, ifE (fun c3 => ?_) fun c3 => ?_⟩
    · exact ⟨_, rfl, by show 2 ≤ sizeLine; decide, fun a na => fin a na _ (if_pos (hb.mp c3)).symm⟩
    · exact ⟨_, rfl, by show 2 ≤ sizeLine; decide, fun a na => fin a na _ (if_neg fun q => by rw [hb.mpr q] at c3; cases c3).symm⟩
end
end Toy
set_option Elab.async false
set_option linter.all false
set_option maxRecDepth 100000
set_option maxHeartbeats 8000000
namespace Toy
open PySem L2 Q RZ D7
/-! ### odd values; how great data is -/
abbrev oddDs : List PyData := [.none, .bool true, .bool false, .int (-1), .int (-7), .str "", .str "A", .str "a b", .str "abcdefghi", .str "a1",
  .tuple [.none], .tuple [.tuple []], .list [], .list [.str "a"], .dict [], .dict [(.str "a", .int 1)]]
/-- the heap without the pot -/
abbrev off (H : Hp) (p : Addr) : Hp := fun b => if b = p then none else H b
theorem off_at {H : Hp} {p a : Addr} {o : HO} (h : H a = some o) (n : a ≠ p) : off H p a = some o := by
  show (if a = p then none else H a) = some o
  rw [if_neg n]
  exact h
theorem But.off {p : Addr} {H H' : Hp} (b : But p H H') : Same (off H p) (off H' p) := fun a o e => by
  by_cases z : a = p
  · subst z
    have e2 : (if a = a then none else H a) = some o := e
    rw [if_pos rfl] at e2
    cases e2
  · have e2 : (if a = p then none else H a) = some o := e
    rw [if_neg z] at e2
    exact off_at (b a o z e2) z
theorem off_same (H : Hp) (p : Addr) : Same (off H p) H := fun a o e => by
  have e2 : (if a = p then none else H a) = some o := e
  split at e2
  · cases e2
  · exact e2
def spOdd (K : PySem.W.Frag) : Sp := fun vs H Q _ => ∃ (p : Addr) (B : Nat), vs = [.ref p] ∧ Pot H p B ∧ B < 1000000 ∧
  ∀ (v : V) (d : PyData) (H' : Hp), But p H H' → Pot H' p (B + 1) → Dd K (off H' p) v d → d ∈ oddDs → Q v H'
theorem dd_get {K : PySem.W.Frag} {H : Hp} : ∀ {xs : List V} {ds : List PyData} {i : Nat} {v : V}, DdAll K H xs ds → xs[i]? = some v → ∃ d, d ∈ ds ∧ Dd K H v d
  | _, _, 0, _, .cons h _, e => ⟨_, List.mem_cons_self .., by simp at e; subst e; exact h⟩
  | _, _, i + 1, v, .cons _ t, e => by
    obtain ⟨d, m, h⟩ := dd_get (i := i) (v := v) t (by simpa using e)
    exact ⟨d, List.mem_cons_of_mem _ m, h⟩
theorem same_two {H : Hp} {a : Addr} {o u : HO} (n : H a = none) : Same H (upd (upd H a o) a u) := fun b x e => by
  have z := ne_of_none e n
  rw [upd_ne z, upd_ne z]
  exact e
/-- small data -/
structure Sm (n k : Nat) (d : PyData) : Prop where
  ok : d.showable = true
  len : d.shown.length ≤ n
  dp : d.depth ≤ k
theorem Sm.mono {n k n' k' : Nat} {d : PyData} (h : Sm n k d) (a : n ≤ n') (b : k ≤ k') : Sm n' k' d := ⟨h.ok, Nat.le_trans h.len a, Nat.le_trans h.dp b⟩
theorem sm_all {n k : Nat} : ∀ {xs : List PyData}, (∀ x ∈ xs, Sm n k x) →
    PyData.showableAll xs = true ∧ piled (PyData.shownAll xs) ≤ xs.length * (n + 2) ∧ PyData.depthAll xs ≤ k
  | [], _ => ⟨rfl, Nat.zero_le _, Nat.zero_le _⟩
  | x :: xs, h => by
    obtain ⟨h1, h2, h3⟩ := sm_all (xs := xs) fun y m => h y (List.mem_cons_of_mem _ m)
    obtain ⟨q1, q2, q3⟩ := h x (List.mem_cons_self ..)
    refine ⟨?_, ?_, ?_⟩
    · simp only [PyData.showableAll, q1, h1, Bool.and_self]
    · simp only [PyData.shownAll, piled_cons, List.length_cons, Nat.succ_mul]
      omega
    · simp only [PyData.depthAll]
      omega
theorem sm_tuple {n k : Nat} {xs : List PyData} (h : ∀ x ∈ xs, Sm n k x) : Sm (xs.length * (n + 2) + 2) (k + 1) (.tuple xs) := by
  obtain ⟨h1, h2, h3⟩ := sm_all h
  refine ⟨?_, ?_, ?_⟩
  · simp only [PyData.showable, h1]
  · simp only [PyData.shown]
    exact Nat.le_trans (fmt_text _) (by omega)
  · simp only [PyData.depth]
    omega
theorem list_tuple (ts : List Str) : (listText ts).length ≤ piled ts + 3 := by
  have h := listText_len_le ts
  have e : ∀ l : List Str, (l.map (·.length)).sum + 2 * l.length = piled l := fun l => by
    induction l with
    | nil => rfl
    | cons a l ih =>
      rw [List.map_cons, List.sum_cons, List.length_cons, piled_cons, ← ih]
      omega
  rw [e] at h
  exact h
theorem sm_list {n k : Nat} {xs : List PyData} (h : ∀ x ∈ xs, Sm n k x) : Sm (xs.length * (n + 2) + 3) (k + 1) (.list xs) := by
  obtain ⟨h1, h2, h3⟩ := sm_all h
  refine ⟨?_, ?_, ?_⟩
  · simp only [PyData.showable, h1]
  · simp only [PyData.shown]
    exact Nat.le_trans (list_tuple _) (by omega)
  · simp only [PyData.depth]
    omega
/-- a short text of plain signs -/
abbrev Tc (z : Str) : Prop := z.length ≤ 10 ∧ ∀ c ∈ z.cps.toList, c < 128
theorem sm_tc {z : Str} (h : Tc z) : Sm 110 3 (.str z) := by
  refine ⟨rfl, ?_, ?_⟩
  · have q := PySem.StrLaws.reprText_len z fun c hc => by have := h.2 c hc; omega
    simp only [PyData.shown]
    have := h.1
    omega
  · simp only [PyData.depth]
    omega
theorem sm_nat {n : Nat} (h : n < 1000000000) : Sm 20 3 (.int (n : Int)) := by
  refine ⟨?_, ?_, ?_⟩
  · unfold PyData.showable
    rw [decide_eq_true_eq, Int.natAbs_natCast]
    by_cases z : n = 0
    · subst z
      decide
    · exact (Nat.log2_lt z).mpr (Nat.lt_trans h (by decide +kernel))
  · unfold PyData.shown
    have e : (toString (n : Int) : String) = n.repr := rfl
    rw [e, PySem.ofString_length]
    exact Nat.le_trans ((Nat.length_repr_le_iff (k := 9) (by decide)).mpr h) (by decide)
  · unfold PyData.depth
    decide
theorem sm_neg {n : Nat} (h : n < 100) : Sm 20 3 (.int (-(n : Int))) := by
  have q : ∀ m : _root_.Fin 100, (PyData.int (-(m.val : Int))).showable = true ∧ (PyData.int (-(m.val : Int))).shown.length ≤ 20 ∧ (PyData.int (-(m.val : Int))).depth ≤ 3 := by decide +kernel
  have z := q ⟨n, h⟩
  exact ⟨z.1, z.2.1, z.2.2⟩
/-- what is promised of bent data: its size, and short texts in it -/
structure Rs (n k : Nat) (d : PyData) : Prop where
  sm : Sm n k d
  tx : Txs d
theorem Rs.mono {n k n' k' : Nat} {d : PyData} (h : Rs n k d) (a : n ≤ n') (b : k ≤ k') : Rs n' k' d := ⟨h.sm.mono a b, h.tx⟩
theorem rs_flat {n k : Nat} {d : PyData} (h : Sm n k d) (e : TxOk d) (t : tupB d = false) : Rs n k d := ⟨h, e, fun ds e => by rw [e] at t; cases t⟩
theorem rs_tc {z : Str} (h : Tc z) : Rs 110 3 (.str z) := rs_flat (sm_tc h) (fun y e => by
  injection e with e
  rw [← e]
  have := h.1
  omega) rfl
theorem rs_nat {n : Nat} (h : n < 1000000000) : Rs 20 3 (.int (n : Int)) := rs_flat (sm_nat h) (fun y e => by cases e) rfl
theorem rs_neg {n : Nat} (h : n < 100) : Rs 20 3 (.int (-(n : Int))) := rs_flat (sm_neg h) (fun y e => by cases e) rfl
theorem rs_non : Rs 20 3 .none := rs_flat ⟨by decide +kernel, by decide +kernel, by decide +kernel⟩ (fun y e => by cases e) rfl
theorem rs_bool (b : Bool) : Rs 20 3 (.bool b) := by
  refine rs_flat ?_ (fun y e => by cases e) rfl
  cases b <;> exact ⟨by decide +kernel, by decide +kernel, by decide +kernel⟩
theorem rs_tuple {n k m : Nat} {xs : List PyData} (h : ∀ x ∈ xs, Rs n k x) (l : xs.length ≤ m) : Rs (m * (n + 2) + 2) (k + 1) (.tuple xs) :=
  ⟨(sm_tuple fun x hx => (h x hx).sm).mono (by have := Nat.mul_le_mul_right (n + 2) l; omega) (Nat.le_refl _), fun z e => (by cases e), fun ds e d hd => by
    injection e with e
    subst e
    exact (h d hd).tx.1⟩
theorem rs_list {n k m : Nat} {xs : List PyData} (h : ∀ x ∈ xs, Rs n k x) (l : xs.length ≤ m) : Rs (m * (n + 2) + 3) (k + 1) (.list xs) :=
  ⟨(sm_list fun x hx => (h x hx).sm).mono (by have := Nat.mul_le_mul_right (n + 2) l; omega) (Nat.le_refl _), fun z e => (by cases e), fun ds e => (by cases e)⟩
theorem rs_odd : ∀ d ∈ oddDs, Rs 60 3 d := by
  have sm : ∀ d ∈ oddDs, d.showable = true ∧ d.shown.length ≤ 60 ∧ d.depth ≤ 3 := by decide +kernel
  intro d hd
  refine ⟨⟨(sm d hd).1, (sm d hd).2.1, (sm d hd).2.2⟩, ?_⟩
  simp only [oddDs, List.mem_cons, List.not_mem_nil, or_false] at hd
  rcases hd with rfl | rfl | rfl | rfl | rfl | rfl | rfl | rfl | rfl | rfl | rfl | rfl | rfl | rfl | rfl | rfl
  all_goals
    refine ⟨fun z e => ?_, fun ds e x hx z ez => ?_⟩
    · first | (cases e; done) | (injection e with e; subst e; decide +kernel)
    · first | (cases e; done) | (injection e with e; subst e; simp only [List.mem_cons, List.not_mem_nil, or_false] at hx; subst hx; cases ez; done) | (injection e with e; subst e; cases hx; done)
section
variable {P : Program} {w : World} {K : PySem.W.Frag} {mg : Str → Option Value} {base : Heap} {ca ia fa : Nat → Addr} {fd fi : Nat → FuncData}
theorem ok_odd (T : Txt K mg ca ia fa fd fi) : FnOk P w K mg base CX0 3 (fa 43) (fd 43) ["_law_pot_here"] (spOdd K) := by
  have G_l_of := ok_of (P := P) (w := w) (base := base) T
  refine T.F_l_odd.ok sc_l_odd (fun vs H Q E h => ?_) (fun cdv A outer s H vs Q E hr h => ?_)
  · obtain ⟨p, B, rfl, _⟩ := h
    rfl
  · obtain ⟨p, B, rfl, hp, hB, k⟩ := h
    refine ⟨_, (pss_cons (ps_set (i := 1) sc_l_odd.nd rfl (Or.inl rfl) (pe_lst (pa_cons pe_non (pa_cons pe_bl (pa_cons pe_bl (pa_cons (pe_un un_neg pe_int) (pa_cons (pe_un un_neg pe_int) (pa_cons pe_str (pa_cons pe_str (pa_cons pe_str (pa_cons pe_str (pa_cons pe_str (pa_cons (pe_tup (pa_cons pe_non pa_nil)) (pa_cons (pe_tup (pa_cons (pe_tup pa_nil) pa_nil)) (pa_cons (pe_lst pa_nil) (pa_cons (pe_lst (pa_cons pe_str pa_nil)) (pa_cons pe_dnewK (pa_cons (pe_disp (pps_cons pe_str pe_int pps_nil) (by rfl) (by rfl) (fun z => by cases z) (by decide)) pa_nil))))))))))))))))))
      (pss_one (ps_ret (pe_call G_l_of (hr.mono (by decide)) rfl T.g_l_of T.k_l_of T.b_l_of .nil pass0 (pa_cons (pv 0) (pa_cons (pv 1) pa_nil)))))), ?_⟩
    refine seqS (fun v H' => ∃ (l : Addr) (xs : List V), v = .ref l ∧ l ≠ p ∧ Same H H' ∧ H' l = some (.lst xs) ∧ DdAll K (off H' p) xs oddDs) (fun Q k' => ?_) ?_
    · refine ⟨_, rfl, _, rfl, by show 1 ≤ sizeLine; decide, fun t1 n1 => ?_⟩
      refine ⟨by show 0 ≤ sizeLine; decide, fun t2 n2 => ⟨by show 1 ≤ sizeLine; decide, fun t3 n3 => ⟨by show 0 ≤ sizeLine; decide, fun l1 n4 => ⟨by show 1 ≤ sizeLine; decide, fun l2 n5 => fun d1 n6 => fun d2 n7 => ?_⟩⟩⟩⟩
      refine ⟨upd_same, [(.inr "a", .int 1)], rfl, by decide, by show 16 ≤ sizeLine; decide, fun l n8 => ?_⟩
      have s1 := same_new (o := .tup [.non]) n1
      have s2 := same_new (o := .tup []) n2
      have s3 := same_new (o := .tup [.ref t2]) n3
      have s4 := same_new (o := .lst []) n4
      have s5 := same_new (o := .lst [.str "a"]) n5
      have s6 := same_new (o := .dK []) n6
      have s7 := same_two (o := .dK []) (u := .dK (mergeK [] [(.inr "a", .int 1)])) n7
      have s8 := same_new (o := .lst [.non, .bl true, .bl false, .int (-1), .int (-7), .str "", .str "A", .str "a b", .str "abcdefghi", .str "a1",
        .ref t1, .ref t3, .ref l1, .ref l2, .ref d1, .ref d2]) n8
      have h8 := s8
      have h7 := s7.trans h8
      have h6 := s6.trans h7
      have h5 := s5.trans h6
      have h4 := s4.trans h5
      have h3 := s3.trans h4
      have h2 := s2.trans h3
      obtain ⟨o, sd, c, hpp, _⟩ := hp
      have p2 := s1 _ _ hpp
      have p3 := s2 _ _ p2
      have p4 := s3 _ _ p3
      have p5 := s4 _ _ p4
      have p6 := s5 _ _ p5
      have p7 := s6 _ _ p6
      have p8 := s7 _ _ p7
      refine k' _ _ ⟨l, _, rfl, (ne_of_none p8 n8).symm, s1.trans h2, upd_same, ?_⟩
      refine .cons .non (.cons (.bl _) (.cons (.bl _) (.cons (.int _) (.cons (.int _) (.cons (.str _) (.cons (.str _) (.cons (.str _) (.cons (.str _) (.cons (.str _)
        (.cons (.tup (SqT.of (off_at (h2 _ _ upd_same) (ne_of_none hpp n1).symm)) (.cons .non .nil))
        (.cons (.tup (SqT.of (off_at (h4 _ _ upd_same) (ne_of_none p3 n3).symm)) (.cons (.tup (SqT.of (off_at (h3 _ _ upd_same) (ne_of_none p2 n2).symm)) .nil) .nil))
        (.cons (.lst (SqL.of (off_at (h5 _ _ upd_same) (ne_of_none p4 n4).symm)) .nil)
        (.cons (.lst (SqL.of (off_at (h6 _ _ upd_same) (ne_of_none p5 n5).symm)) (.cons (.str _) .nil))
        (.cons (.dic (kvs := []) (off_at (h7 _ _ upd_same) (ne_of_none p6 n6).symm) rfl .nil)
        (.cons (.dic (kvs := [(.inr "a", .int 1)]) (off_at (h8 _ _ upd_same) (ne_of_none p7 n7).symm) rfl (.cons (.int _) .nil)) .nil)))))))))))))))
    · rintro _ H1 ⟨l, xs, rfl, nl, s1, hl, hd⟩
      have hlen : xs.length = 16 := dd_len hd
      refine ⟨_, rfl, _, rfl, p, .ref l, xs, B, rfl, hp.same s1, hB, .inl ⟨l, rfl, nl, SqL.of hl⟩, by omega, by omega, fun d v H2 hv b2 hp2 => ?_⟩
      obtain ⟨dd, hm, hdd⟩ := dd_get hd hv
      refine k v dd H2 ((But.of s1).trans b2) hp2 (hdd.same b2.off) hm
end
end Toy
set_option Elab.async false
set_option linter.all false
set_option maxRecDepth 100000
set_option maxHeartbeats 8000000
namespace Toy
open PySem L2 Q RZ LamX NdefX D7
/-- a def whose code object is at c -/
structure FunC (K : PySem.W.Frag) (x : Str) (st : Stmt) (f : Addr) (fd : FuncData) (c : Addr) : Prop where
  ex : ∃ (oc : Value) (od : Option Addr) (kV doc pm : Value) (an : Option Addr) (ct : Value) (osl : Array (Option Value)),
    fd = PySem.W.fnOf x x (defArgs st) (defBody st) (defScope st) .none kV doc pm an (.ref c) ct ∧ K.lookup f = some ⟨oc, od, .func fd, osl⟩ ∧ PySem.W.codeIn K (.ref c) x = true
@[irreducible] def qF : Str := ("_law_heard" : Str) ++ (".<locals>." : Str) ++ ("<lambda>" : Str)
theorem qF_eq : qF = ("_law_heard" : Str) ++ (".<locals>." : Str) ++ ("<lambda>" : Str) := by unfold qF; rfl
abbrev TL1 (P1 : Addr) : List (Addr × Str) := [(P1, qF)]
/-- the def that makes lambdas: its code object and table -/
structure Tb (base : Heap) (mg : Str → Option Value) (c1 P1 : Addr) : Prop where
  t1 : TabB base mg c1 P1
theorem cx_qual {CX : CXT} {P : Program} {w : World} {K : PySem.W.Frag} {mg : Str → Option Value} {base : Heap} {N : List Str} {q : Str} {sc : Scope} {f : Addr} {cd : Value} {A : Around} {outer : List Env} {s : Shared} {H : Hp} {E : XK} :
    (cxOf CX P w K mg base N q sc f cd A outer s H E).nox.env.qual = q ++ (".<locals>." : Str) := rfl
theorem cx_code {CX : CXT} {P : Program} {w : World} {K : PySem.W.Frag} {mg : Str → Option Value} {base : Heap} {N : List Str} {q : Str} {sc : Scope} {f : Addr} {cd : Value} {A : Around} {outer : List Env} {s : Shared} {H : Hp} {E : XK} :
    (cxOf CX P w K mg base N q sc f cd A outer s H E).nox.env.code = cd := rfl
theorem extn_of {H H' : Hp} (s : Same H H') : ExtN H H' := ExtN.of s
theorem extn_tup {H H' : Hp} {a : Addr} {xs : List V} (e : ExtN H H') (h : H a = some (.tup xs)) : H' a = some (.tup xs) := e _ _ h fun ps z => by cases z
/-- all but the pot and the tables is kept -/
def Go (p : Addr) (H H' : Hp) : Prop := ∀ b o, b ≠ p → H b = some o → (∀ ps, o ≠ .tbl ps) → H' b = some o
theorem Go.refl (p : Addr) (H : Hp) : Go p H H := fun _ _ _ e _ => e
theorem Go.trans {p : Addr} {H H1 H2 : Hp} (a : Go p H H1) (b : Go p H1 H2) : Go p H H2 := fun c o n e t => b c o n (a c o n e t) t
theorem Go.but {p : Addr} {H H' : Hp} (b : But p H H') : Go p H H' := fun c o n e _ => b c o n e
theorem Go.ext {p : Addr} {H H' : Hp} (b : ExtN H H') : Go p H H' := fun c o _ e t => b c o e t
theorem Go.same {p : Addr} {H H' : Hp} (s : Same H H') : Go p H H' := fun c o _ e _ => s c o e
theorem pot_ext {H H' : Hp} {p : Addr} {B : Nat} (h : Pot H p B) (e : ExtN H H') : Pot H' p B := by
  obtain ⟨o, s, c, q, r⟩ := h
  exact ⟨o, s, c, e _ _ q (fun ps z => by cases z), r⟩
theorem tabs_but {H H' : Hp} {p : Addr} {B : Nat} {T : List (Addr × Str)} (h : Tabs T H) (hp : Pot H p B) (b : But p H H') : Tabs T H' := fun x hx => by
  obtain ⟨ps, h1, h2, h3⟩ := h x hx
  obtain ⟨o, s, c, q, _⟩ := hp
  refine ⟨ps, b _ _ (fun z => by rw [z, q] at h1; cases h1) h1, h2, fun pos cv hc => ?_⟩
  obtain ⟨c', e1, e2⟩ := h3 pos cv hc
  refine ⟨c', e1, b _ _ (fun z => ?_) e2⟩
  rw [z, q] at e2
  unfold CodeO at e2
  cases e2
/-- where the run of one pot stands: its pot and the table -/
structure At (p P1 : Addr) (B : Nat) (H : Hp) : Prop where
  po : Pot H p B
  tb : Tabs (TL1 P1) H
section
variable {p P1 : Addr} {B B' : Nat} {H H' : Hp}
theorem At.but (h : At p P1 B H) (b : But p H H') (q : Pot H' p B') : At p P1 B' H' := ⟨q, tabs_but h.tb h.po b⟩
theorem At.same (h : At p P1 B H) (s : Same H H') : At p P1 B H' := ⟨h.po.same s, h.tb.ext s⟩
theorem At.ext (h : At p P1 B H) (e : ExtN H H') (t : Tabs (TL1 P1) H') : At p P1 B H' := ⟨pot_ext h.po e, t⟩
theorem tup_go {t : Addr} {xs : List V} (h : H t = some (.tup xs)) (hp : Pot H p B) (g : Go p H H') : H' t = some (.tup xs) := g _ _ (tup_notp h hp) h fun ps z => by cases z
theorem Lks.go {zs : List Str} {l : Addr} {ls : List (Addr × List Key)} (h : Lks H zs l ls) (hp : Pot H p B) (g : Go p H H') : Lks H' zs l ls :=
  ⟨tup_go h.at_ hp g, fun q hq => ⟨tup_go (h.el q hq).1 hp g, (h.el q hq).2⟩, h.up, h.few⟩
theorem NetO.go {C n r l : Addr} (h : NetO C H n r l) (hp : Pot H p B) (g : Go p H H') : NetO C H' n r l := by
  obtain ⟨dx, e⟩ := h
  refine ⟨dx, g _ _ (fun z => ?_) e fun ps z => by cases z⟩
  obtain ⟨_, _, _, q, _⟩ := hp
  rw [z, q] at e
  cases e
theorem NetW.go {C n r l : Addr} {zs : List Str} {ls : List (Addr × List Key)} (h : NetW C H n r l zs ls) (hp : Pot H p B) (g : Go p H H') : NetW C H' n r l zs ls :=
  ⟨h.net.go hp g, tup_go h.rt hp g, h.ok, h.pw, h.lk.go hp g, h.m⟩
end
/-! ### what both sides tell, as data -/
theorem seq_ext {K : PySem.W.Frag} {H H' : Hp} (e : ExtN H H') {a : Addr} {xs : List V} : (SqL K H a xs → SqL K H' a xs) ∧ (SqT K H a xs → SqT K H' a xs) := by
  refine ⟨fun h => ?_, fun h => ?_⟩
  · rcases h with (h | ⟨o, h⟩) | h
    · exact .inl (.inl (e _ _ h fun ps z => by cases z))
    · exact .inl (.inr ⟨o, e _ _ h fun ps z => by cases z⟩)
    · exact .inr h
  · rcases h with (h | ⟨o, h⟩) | h
    · exact .inl (.inl (e _ _ h fun ps z => by cases z))
    · exact .inl (.inr ⟨o, e _ _ h fun ps z => by cases z⟩)
    · exact .inr h
mutual
theorem dd_ext {K : PySem.W.Frag} {H H' : Hp} (e : ExtN H H') : ∀ {d : PyData} {v : V}, Dd K H v d → Dd K H' v d
  | _, _, .non => .non
  | _, _, .bl b => .bl b
  | _, _, .int i => .int i
  | _, _, .str x => .str x
  | _, _, .lst h a => .lst ((seq_ext e).1 h) (ddAll_ext e a)
  | _, _, .tup h a => .tup ((seq_ext e).2 h) (ddAll_ext e a)
  | _, _, .dic h k a => .dic (e _ _ h fun ps z => by cases z) k (ddAll_ext e a)
theorem ddAll_ext {K : PySem.W.Frag} {H H' : Hp} (e : ExtN H H') : ∀ {d : List PyData} {v : List V}, DdAll K H v d → DdAll K H' v d
  | _, _, .nil => .nil
  | _, _, .cons a b => .cons (dd_ext e a) (ddAll_ext e b)
end
theorem Go.off {p : Addr} {H H' : Hp} (g : Go p H H') : ExtN (off H p) (off H' p) := fun b o e n => by
  by_cases z : b = p
  · have e2 : (if b = p then none else H b) = some o := e
    rw [if_pos z] at e2
    cases e2
  · have e2 : (if b = p then none else H b) = some o := e
    rw [if_neg z] at e2
    exact off_at (g b o z e2 n) z
theorem NetW.ext {C : Addr} {H H' : Hp} {n r l : Addr} {zs : List Str} {ls : List (Addr × List Key)} (h : NetW C H n r l zs ls) (e : ExtN H H') : NetW C H' n r l zs ls := by
  obtain ⟨⟨dx, hn⟩, rt, ok, pw, lk, m⟩ := h
  exact ⟨⟨dx, e _ _ hn fun ps z => by cases z⟩, extn_tup e rt, ok, pw, ⟨extn_tup e lk.at_, fun q hq => ⟨extn_tup e (lk.el q hq).1, (lk.el q hq).2⟩, lk.up, lk.few⟩, m⟩
theorem err_keep {H H' : Hp} {c C : Addr} {fs : List (Str × V)} (k : ∀ b o, H b = some o → (∀ ps, o ≠ .tbl ps) → (∀ xs, o ≠ .lst xs) → H' b = some o) (h : ErrAt H c C fs) : ErrAt H' c C fs := by
  obtain ⟨d, o, q⟩ := h
  refine ⟨d, ?_, ?_⟩
  · rcases o with o | o
    · exact .inl (k _ _ o (fun ps z => by unfold exo at z; cases z) fun xs z => by unfold exo at z; cases z)
    · exact .inr (k _ _ o (fun ps z => by unfold exv at z; cases z) fun xs z => by unfold exv at z; cases z)
  · rcases q with q | q
    · exact .inl (k _ _ q (fun ps z => by unfold exd at z; cases z) fun xs z => by unfold exd at z; cases z)
    · exact .inr (k _ _ q (fun ps z => by cases z) fun xs z => by cases z)
theorem err_ext {H H' : Hp} {c C : Addr} {fs : List (Str × V)} (e : ExtN H H') (h : ErrAt H c C fs) : ErrAt H' c C fs := err_keep (fun b o x n _ => e b o x n) h
theorem err_put {H : Hp} {L c C : Addr} {xs ys : List V} {fs : List (Str × V)} (hL : H L = some (.lst xs)) (h : ErrAt H c C fs) : ErrAt (upd H L (.lst ys)) c C fs := err_keep (fun b o e _ n => by
  rw [upd_ne (fun z => by rw [z, hL] at e; injection e with e; exact n _ e.symm)]
  exact e) h
theorem takes_len {X : Cx} {W W' : WX} (t : Takes X W) (h : ∀ c d (σ : L2.St) H, σ.length = X.N.length → W' c d σ H → W c d σ H) : Takes X W' :=
  fun u s' ⟨a, B, sI, pins, σ, H, cls, d, e, I, nb, up, sky, na, os, ag, w⟩ =>
    t u s' ⟨a, B, sI, pins, σ, H, cls, d, e, I, nb, up, sky, na, os, ag, h _ _ _ _ I.len w⟩
/-- a call that is tried: nothing, or the error that came -/
def TCaught (K : PySem.W.Frag) (CS : Addr) : (XK → Hp → VK → Prop) → Hp → VK → Prop := fun tl H Q =>
  tl (fun cls d H' => ∃ b, PySem.W.exmOne K cls (.ref CS) = some b ∧ (b = true → ∃ C, cls = .ref C ∧ ∀ a, H' a = none → Q (.ref a) (upd H' a (exv a C d))) ∧ (b = false → False)) H (fun _ H' => ∃ v, (some (some V.non) : Option (Option V)) = some (some v) ∧ Q v H')
section
variable {P : Program} {w : World} {K : PySem.W.Frag} {mg : Str → Option Value} {base : Heap} {ca ia fa : Nat → Addr} {fd fi : Nat → FuncData}
theorem caught_gives (T : Txt K mg ca ia fa fd fi) {X : Cx} (eK : X.K = K) (em : X.mg = mg) {g : Addr} {cdg : Value} {q : Str} :
    GivesTo X N_l_caught "_law_caught" (defScope s_l_caught) g cdg (defBody s_l_caught) "_law_look" q (TCaught X.K (ca 2)) := by
  subst eK
  subst em
  intro f c' s H Q tl act hc h
  refine ⟨_, pss_cons (ps_set (i := 1) sc_l_caught.nd rfl (Or.inl rfl) pe_non)
    (pss_cons (ps_try_keep (i := 2) (ts := _) (tb := fun W D σ H => ∃ Ech : XK, (∀ cls d (σ' : L2.St) H', σ'.length = 3 → Ech cls d H' → W cls d σ' H') ∧ σ[0]? = some (some (.ref f)) ∧ H c' = some (CodeO c' q) ∧ tl Ech H fun _ H' => D.nx σ H') (Wout := fun _ _ _ _ => False)
      rfl rfl rfl sc_l_caught.nd rfl rfl ⟨rfl, by decide, Or.inl T.cN.g⟩ L2.takes0 (fun W pn xe tk _ => ?_) (fun a oe cls d pn hz hf => pss_one (ps_set (i := 1) sc_l_caught.nd rfl (Or.inl rfl) (pv 2))))
    (pss_one (ps_ret (pv 1)))), ?_⟩
  · refine ⟨fun pins s' σ H' D I h' => ?_⟩
    obtain ⟨Ech, hW, h1, h2, h3⟩ := h'
    exact (pss_one (ps_expr (act (fun cls d _ H' => Ech cls d H') pn xe Ech _ _ (takes_len tk fun c d σ H l z => hW c d σ H l z) (fun _ _ _ _ z => z)))).run pins s' σ H' D I ⟨h1, h2, h3⟩
  · refine ⟨_, fun cls d σ' H' l z => ?_, rfl, hc, h⟩
    obtain ⟨b, e1, e2, e3⟩ := z
    refine ⟨b, e1, fun hb => ?_, fun hb => e3 hb⟩
    obtain ⟨C, rfl, k⟩ := e2 hb
    refine ⟨C, rfl, fun a na => ?_⟩
    match σ', l with
    | [x0, x1, x2], _ => exact ⟨_, rfl, _, rfl, k a na⟩
end
end Toy
set_option Elab.async false
set_option linter.all false
set_option maxRecDepth 100000
set_option maxHeartbeats 8000000
namespace Toy
open PySem L2 Q RZ LamX NdefX D7 TL
/-! ### what is heard of a value -/
theorem not_first {K : PySem.W.Frag} {C : Addr} : PySem.W.subIn K (.type "NoneType") (.ref C) = some false := by
  have e1 : fastBuiltinMro "NoneType" = some [.type "NoneType", .type "object"] := by decide +kernel
  show (fastBuiltinMro "NoneType").map (fun l => l.contains (Value.ref C)) = _
  rw [e1]
  simp
theorem Txt.noErr (T : Txt K mg ca ia fa fd fi) {nm : Str} {C : Addr} (c : ErrC K mg nm C (ca 2)) : PySem.W.kitOne K (.type "NoneType") (.ref C) = some false := by
  obtain ⟨h1, _, h2⟩ := cls_of c.xL
  unfold PySem.W.kitOne
  rw [if_neg (by simp)]
  show (if ((PySem.W.clsIn K C).isSome && PySem.W.typeIn K (.ref C) == some (.type "type")) = true then PySem.W.subIn K (.type "NoneType") (.ref C) else none) = some false
  rw [if_pos (by rw [h1, h2]; rfl), not_first]
theorem Txt.kitE (T : Txt K mg ca ia fa fd fi) {nm nm2 : Str} {C D : Addr} (c : ErrC K mg nm C (ca 2)) (d : ErrC K mg nm2 D (ca 2)) : PySem.W.kitOne K (.ref C) (.ref D) = some (decide (D = C ∨ D = ca 2)) :=
  c.kit (cls_of d.xL).1 (cls_of d.xL).2.2
def spHeard (K : PySem.W.Frag) (P1 : Addr) : Sp := fun vs H Q _ => ∃ (v : V) (d : PyData), vs = [v] ∧ Dd K H v d ∧ (∀ t, d = .str t → t.length ≤ 8900) ∧ Tabs (TL1 P1) H ∧ ∀ (a : Addr) H', ExtN H H' → Tabs (TL1 P1) H' → Dd K H' (.ref a) (dueD d) → Q (.ref a) H'
section
variable {P : Program} {w : World} {K : PySem.W.Frag} {mg : Str → Option Value} {base : Heap} {ca ia fa : Nat → Addr} {fd fi : Nat → FuncData} {c1 P1 : Addr}
theorem ok_heard (T : Txt K mg ca ia fa fd fi) (FC : FunC K "_law_heard" s_l_heard (fa 52) (fd 52) c1) (B : Tb base mg c1 P1) :
    FnG P w K mg base CX0 15 (fa 52) (fd 52) ["_law_value"] (spHeard K P1) := by
  have G_read_net := ok_readA (P := P) (w := w) (base := base) T
  have G_m_routers := ok_m_routers (P := P) (w := w) (base := base) T
  have G_m_links := ok_m_links (P := P) (w := w) (base := base) T
  obtain ⟨pr, hp_routers⟩ := T.P_routers
  obtain ⟨pl, hp_links⟩ := T.P_links
  obtain ⟨ocC, odC, kVC, docC, pmC, anC, cdC, ctC, oslC, eC, lkC, hcC⟩ := T.F_l_caught.ex
  have bC := T.b_l_caught
  rw [eC] at lkC bC
  obtain ⟨oc, od, kV, doc, pm, an, ct, osl, e, lk, hcd⟩ := FC.ex
  rw [e] at lk ⊢
  refine fng_of lk hcd sc_l_heard (fun vs H Q E h => ?_) fun A outer s H vs Q E hgd hr h => ?_
  · obtain ⟨v, d, rfl, _⟩ := h
    rfl
  · obtain ⟨v, d, rfl, hd, len, tb0, k⟩ := h
    suffices hh : ∃ t', PSs (cxOf CX0 P w K mg base N_l_heard "_law_heard" (defScope s_l_heard) (fa 52) (.ref c1) A outer s H E).nox (defBody s_l_heard) t' ∧ t' { nx := fun _ H' => Q .non H', rt := Q } (L2.start N_l_heard [v]) H by
      obtain ⟨t', h1, h2⟩ := hh
      exact ⟨t', h1.nox, h2⟩
    have eq : (cxOf CX0 P w K mg base N_l_heard "_law_heard" (defScope s_l_heard) (fa 52) (.ref c1) A outer s H E).nox.env.qual ++ ("<lambda>" : Str) = qF := by rw [cx_qual]; exact qF_eq.symm
    have hm : (P1, (cxOf CX0 P w K mg base N_l_heard "_law_heard" (defScope s_l_heard) (fa 52) (.ref c1) A outer s H E).nox.env.qual ++ ("<lambda>" : Str)) ∈ TL1 P1 := by rw [eq]; exact List.mem_cons_self
    have hu : ∀ p ∈ TL1 P1, p.1 = P1 → p.2 = (cxOf CX0 P w K mg base N_l_heard "_law_heard" (defScope s_l_heard) (fa 52) (.ref c1) A outer s H E).nox.env.qual ++ ("<lambda>" : Str) := by
      rw [eq]
      intro q hq e
      rw [List.mem_singleton.mp hq]
    have gv := caught_gives (X := (cxOf CX0 P w K mg base N_l_heard "_law_heard" (defScope s_l_heard) (fa 52) (.ref c1) A outer s H E).nox) T rfl rfl (g := fa 44) (cdg := cdC)
      (q := (cxOf CX0 P w K mg base N_l_heard "_law_heard" (defScope s_l_heard) (fa 52) (.ref c1) A outer s H E).nox.env.qual ++ ("<lambda>" : Str))
    refine ⟨_, (pss_cons (ps_set (i := 1) sc_l_heard.nd rfl (Or.inl rfl) (pe_lamcall (T := TL1 P1) (TT := TCaught K (ca 2)) (k := 12) (Ng := N_l_caught) (a := "_law_look") (t := fun E => tCall (spReadA K (ca 20) (ca 6) (ca 3)) [] E (tCons (tVar 0) tNil)) rfl T.g_l_caught T.k_l_caught lkC hcC bC sc_l_caught rfl (Or.inl rfl) gv B.t1 cx_code hm hu (hr.mono (by decide)) (lamS_by (by show lamSB (defScope s_l_heard) _ = true; decide +kernel)) rfl (fun _ _ _ _ _ => rfl)
        (fun A outer s H E f c' hr => (pe_call G_read_net (hr.mono (by decide)) rfl T.g_read_net T.k_read_net T.b_read_net .nil (passes_call (takes_of rfl rfl rfl rfl) fun _ _ _ _ h => h) (pa_cons (pv 0) pa_nil)))))
      (pss_cons (ps_if (pt_val (pe_callB call_isA (by rfl) T.n_isinstance (by decide +kernel) (pa_cons (pv 1) (pa_cons (pe_glob rfl T.c_BadText.g (v := .ref (ca 6)) rfl) pa_nil)))) (pss_one (ps_ret (pe_tup (pa_cons pe_str (pa_cons (pe_errf (pv 1)) pa_nil))))) pss_nil)
      (pss_cons (ps_if (pt_val (pe_callB call_isA (by rfl) T.n_isinstance (by decide +kernel) (pa_cons (pv 1) (pa_cons (pe_glob rfl T.c_BadNet.g (v := .ref (ca 3)) rfl) pa_nil)))) (pss_one (ps_ret (pe_tup (pa_cons pe_str (pa_cons (pe_errf (pv 1)) pa_nil))))) pss_nil)
      (pss_cons (ps_set (i := 2) sc_l_heard.nd rfl (Or.inl rfl) (pe_call G_read_net (hr.mono (by decide)) rfl T.g_read_net T.k_read_net T.b_read_net .nil passL (pa_cons (pv 0) pa_nil)))
      (pss_one (ps_ret (pe_tup (pa_cons pe_str (pa_cons (pe_tup (pa_cons (pe_prop (pv 2) T.cl_Net hp_routers G_m_routers (hr.mono (by decide)) T.b_m_routers .nil pass0 rfl) (pa_cons (pe_prop (pv 2) T.cl_Net hp_links G_m_links (hr.mono (by decide)) T.b_m_links .nil pass0 rfl) pa_nil))) pa_nil))))))))), ?_⟩
    refine seqS (fun v1 H' => ExtN H H' ∧ Tabs (TL1 P1) H' ∧ ((v1 = .non ∧ ∃ t zs kk, d = .str t ∧ parseW t = .ok zs kk ∧ NetD (rtD zs) (lkD kk)) ∨
        (∃ c x dx, v1 = .ref c ∧ ErrAt H' c (ca 6) [("value", x)] ∧ Dd K H' x dx ∧ dueD d = .tuple [.str (tx "text"), dx]) ∨
        (∃ c x dx, v1 = .ref c ∧ ErrAt H' c (ca 3) [("value", x)] ∧ Dd K H' x dx ∧ dueD d = .tuple [.str (tx "net"), dx]))) (fun Q k' => ?_) ?_
    · have bt : ∀ {G1 G2 : Hp} {x : Addr} {y : V} {dy : PyData}, ExtN H G1 → Tabs (TL1 P1) G1 → Same G1 G2 → G2 x = some (.xd [("value", y)]) → Dd K G2 y dy → dueD d = .tuple [.str (tx "text"), dy] → ∀ a, G2 a = none → Q (.ref a) (upd G2 a (exv a (ca 6) (some x))) := fun {G1 G2 x y dy} e5 t5 s6 hx dy_ due a na => by
        have s7 := same_new (o := exv a (ca 6) (some x)) na
        exact k' _ _ ⟨e5.trans (extn_of (s6.trans s7)), t5.ext (s6.trans s7), .inr (.inl ⟨a, y, dy, rfl, ⟨x, .inr upd_same, .inr (s7 _ _ hx)⟩, dy_.same s7, due⟩)⟩
      refine ⟨tb0, fun G1 e5 t5 => ⟨_, rfl, v, d, rfl, dd_ext e5 hd, fun t e => by have := len t e; omega, fun no x G2 s6 hx => ?_, fun t i ed ep x G2 s6 hx => ?_, fun t zs kk ed ep => ⟨fun nd n r l G2 s6 no dr dl => ?_, fun nd x q r l G2 s6 hx hq dr dl => ?_⟩⟩⟩
      · exact ⟨true, T.exm T.c_BadText, fun _ => ⟨_, rfl, bt e5 t5 s6 hx .non (dueD_no no)⟩, fun z => nomatch z⟩
      · exact ⟨true, T.exm T.c_BadText, fun _ => ⟨_, rfl, bt e5 t5 s6 hx (.int _) (by rw [ed]; exact dueT_bad ep)⟩, fun z => nomatch z⟩
      · exact ⟨_, rfl, k' _ _ ⟨e5.trans (extn_of s6), t5.ext s6, .inl ⟨rfl, t, zs, kk, ed, ep, nd⟩⟩⟩
      · refine ⟨true, T.exm T.c_BadNet, fun _ => ⟨_, rfl, fun a na => ?_⟩, fun z => nomatch z⟩
        have s7 := same_new (o := exv a (ca 3) (some x)) na
        have dq : Dd K G2 (.ref q) (.tuple [rtD zs, lkD kk]) := .tup (SqT.of hq) (.cons dr (.cons dl .nil))
        refine k' _ _ ⟨e5.trans (extn_of (s6.trans s7)), t5.ext (s6.trans s7), .inr (.inr ⟨a, .ref q, _, rfl, ⟨x, .inr upd_same, .inr (s7 _ _ hx)⟩, dq.same s7, ?_⟩)⟩
        rw [ed]
        show dueT t = _
        rw [dueT_ok ep]
        unfold okD
        rw [if_neg nd]
    rintro v1 H1 ⟨e1, t1, alt⟩
    have excT := T.c_BadText.exc T.hn T.ht
    have excN := T.c_BadNet.exc T.hn T.ht
    have nd := T.nd
    have fin : ∀ {wd : Str} {x : V} {dx : PyData}, Dd K H1 x dx → dueD d = .tuple [.str wd, dx] → ∀ a, H1 a = none → Q (.ref a) (upd H1 a (.tup [.str wd, x])) := fun {wd x dx} hx due a na => by
      have s2 := same_new (o := .tup [.str wd, x]) na
      refine k a _ (e1.trans (extn_of s2)) (t1.ext s2) ?_
      rw [due]
      exact .tup (SqT.of upd_same) (.cons (.str _) (.cons (hx.same s2) .nil))
    rcases alt with ⟨rfl, t, zs, kk, ed, ep, net⟩ | ⟨c, x, dx, rfl, ee, hx, due⟩ | ⟨c, x, dx, rfl, ee, hx, due⟩
    · refine ⟨_, rfl, .inl ⟨_, _, _, _, _, rfl, .own _, .base .non, T.noErr T.c_BadText, _, rfl, iteB2 rfl (nxt ?_)⟩⟩
      refine ⟨_, rfl, .inl ⟨_, _, _, _, _, rfl, .own _, .base .non, T.noErr T.c_BadNet, _, rfl, iteB2 rfl (nxt ?_)⟩⟩
      refine ⟨_, rfl, v, d, rfl, dd_ext e1 hd, fun t e => by have := len t e; omega, fun no => absurd no (by rw [ed]; simp [strB]), fun t' i ed' ep' => absurd ep' ?_, fun t' zs' kk' ed' ep' => ⟨fun nd' n r l G2 s6 no dr dl => ?_, fun nd' => ?_⟩⟩
      · rw [ed] at ed'
        injection ed' with ed'
        rw [← ed', ep]
        exact fun z => by cases z
      · rw [ed] at ed'
        injection ed' with ed'
        rw [← ed', ep] at ep'
        injection ep' with h1 h2
        obtain ⟨dx, hn⟩ := no
        refine ⟨_, rfl, n, dx, _, rfl, hn, n, dx, _, _, rfl, hn, rfl, _, rfl, n, dx, _, rfl, hn, n, dx, _, _, rfl, hn, rfl, by show 2 ≤ sizeLine; decide, fun a na => ⟨by show 2 ≤ sizeLine; decide, fun b nb => ?_⟩⟩
        have s7 := same_new (o := .tup [.ref r, .ref l]) na
        have s8 := same_new (o := .tup [.str (tx "fine"), .ref a]) nb
        refine k b _ (e1.trans (extn_of ((s6.trans s7).trans s8))) (t1.ext ((s6.trans s7).trans s8)) ?_
        rw [ed]
        show Dd K _ _ (dueT t)
        rw [dueT_ok ep]
        unfold okD
        rw [if_pos net, h1, h2]
        exact .tup (SqT.of upd_same) (.cons (.str _) (.cons (.tup (SqT.of (s8 _ _ upd_same)) (.cons (dr.same (s7.trans s8)) (.cons (dl.same (s7.trans s8)) .nil))) .nil))
      · rw [ed] at ed'
        injection ed' with ed'
        rw [← ed', ep] at ep'
        injection ep' with h1 h2
        rw [← h1, ← h2] at nd'
        exact absurd net nd'
    · refine ⟨_, rfl, .inr ⟨c, _, .ref (ca 6), .ref (ca 6), _, rfl, .own _, ee.i, excT, T.kitE T.c_BadText T.c_BadText, _, rfl, iteB (by simp) ?_⟩⟩
      exact ⟨_, rfl, c, _, _, x, rfl, ee, excT, T.no_BadText_value, rfl, by show 2 ≤ sizeLine; decide, fin hx due⟩
    · refine ⟨_, rfl, .inr ⟨c, _, .ref (ca 6), .ref (ca 6), _, rfl, .own _, ee.i, excN, T.kitE T.c_BadNet T.c_BadText, _, rfl, iteB2 ?_ (nxt ?_)⟩⟩
      · rw [decide_eq_false_iff_not]
        rintro (z | z) <;> · rw [z] at nd; simp at nd
      refine ⟨_, rfl, .inr ⟨c, _, .ref (ca 3), .ref (ca 3), _, rfl, .own _, ee.i, excN, T.kitE T.c_BadNet T.c_BadNet, _, rfl, iteB (by simp) ?_⟩⟩
      exact ⟨_, rfl, c, _, _, x, rfl, ee, excN, T.no_BadNet_value, rfl, by show 2 ≤ sizeLine; decide, fin hx due⟩
end
end Toy
set_option Elab.async false
set_option linter.all false
set_option maxRecDepth 100000
set_option maxHeartbeats 8000000
namespace Toy
open PySem L2 Q RZ LamX NdefX D7 TL
/-- a world: its routers, its links, lengths up to N -/
structure Wd (H : Hp) (N : Nat) (wl r l : Addr) (zs : List Str) (ls : List (Addr × List Key)) : Prop where
  wl_ : H wl = some (.tup [.ref r, .ref l])
  r_ : H r = some (.tup (zs.map V.str))
  l_ : H l = some (.tup (ls.map fun q => V.ref q.1))
  el : ∀ q ∈ ls, H q.1 = some (.tup (q.2.map kV)) ∧ ∃ (a b : Str) (x y : Nat), q.2 = linkK a b x y ∧ a ∈ zs ∧ b ∈ zs ∧ tLt a b ∧ 1 ≤ x ∧ x ≤ N ∧ 1 ≤ y ∧ y ≤ N
  up : ls.Pairwise (fun q r => ksLt (q.2.take 2) (r.2.take 2) = true)
  few : ls.length ≤ 16
  pw : zs.Pairwise tLt
  nok : ∀ z ∈ zs, NameOk z
  l2 : 2 ≤ zs.length
  l8 : zs.length ≤ 8
section
variable {H H' : Hp} {N M : Nat} {wl r l : Addr} {zs : List Str} {ls : List (Addr × List Key)}
theorem Wd.same (h : Wd H N wl r l zs ls) (s : Same H H') : Wd H' N wl r l zs ls :=
  ⟨s _ _ h.wl_, s _ _ h.r_, s _ _ h.l_, fun q hq => ⟨s _ _ (h.el q hq).1, (h.el q hq).2⟩, h.up, h.few, h.pw, h.nok, h.l2, h.l8⟩
theorem Wd.more (h : Wd H N wl r l zs ls) (le : N ≤ M) : Wd H M wl r l zs ls :=
  ⟨h.wl_, h.r_, h.l_, fun q hq => by
    obtain ⟨h1, a, b, x, y, e, h2, h3, h4, h5, h6, h7, h8⟩ := h.el q hq
    exact ⟨h1, a, b, x, y, e, h2, h3, h4, h5, Nat.le_trans h6 le, h7, Nat.le_trans h8 le⟩, h.up, h.few, h.pw, h.nok, h.l2, h.l8⟩
theorem Wd.lks (h : Wd H N wl r l zs ls) : Lks H zs l ls := by
  refine ⟨h.l_, fun q hq => ?_, h.up, by have := h.few; omega⟩
  obtain ⟨z, a, b, x, y, e2, ha, hb, ab, x1, _, y1, _⟩ := h.el q hq
  exact ⟨z, a, b, (x : Int), (y : Int), e2, ha, hb, ab, by omega, by omega⟩
theorem Wd.ix (h : Wd H N wl r l zs ls) {K : PySem.W.Frag} {Q : VK} (i : Nat) {v : V} (e : ([V.ref r, V.ref l] : List V)[i]? = some v) (q : Q v H) : rIx K (.ref wl) (.int (i : Int)) H Q := .inr (.inl ⟨wl, _, (i : Int), v, rfl, rfl, SqT.of h.wl_, atI_nat e, q⟩)
end
theorem Wd.but {p : Addr} {H H' : Hp} {B N : Nat} {wl r l : Addr} {zs : List Str} {ls : List (Addr × List Key)} (h : Wd H N wl r l zs ls) (hp : Pot H p B) (b : But p H H') : Wd H' N wl r l zs ls :=
  ⟨b _ _ (tup_notp h.wl_ hp) h.wl_, b _ _ (tup_notp h.r_ hp) h.r_, b _ _ (tup_notp h.l_ hp) h.l_, fun q hq => ⟨b _ _ (tup_notp (h.el q hq).1 hp) (h.el q hq).1, (h.el q hq).2⟩, h.up, h.few, h.pw, h.nok, h.l2, h.l8⟩
theorem lenA (a b : Str) : (a ++ b).length = a.length + b.length := PySem.strLen_append a b
theorem empty_app (z : Str) : Str.empty ++ z = z := by
  refine ext_tl ?_
  rw [tl_append]
  rfl
/-- no page is longer than this -/
theorem page_len2 {zs : List Str} {ls : List (Addr × List Key)} (z8 : zs.length ≤ 8) (nok : ∀ z ∈ zs, NameOk z) (h : ∀ q ∈ ls, Lk9 zs q.2) (few : ls.length ≤ 16) : (pageW zs ls).length ≤ 1000 := by
  have e : pageW zs ls = Txt.join (tx "\n") (rowsW zs ls) := rfl
  have j := join_wt (rowsW zs ls)
  have w : Wt (rowsW zs ls) ≤ 1000 := by
    have h1 := wrd_len (net_len nok)
    unfold netW at h1
    rw [List.length_cons] at h1
    have h2 : Wt (ls.map fun q => rowW q.2) ≤ 16 * 51 := by
      have one : ∀ q ∈ ls, (rowW q.2).length + 1 ≤ 51 := fun q hq => by
        obtain ⟨a, b, x, y, e, ha, hb, _, _, hx, hy⟩ := h q hq
        rw [e, row_eq]
        have := wrd_len (link_len ha hb hx hy)
        have e5 : (linkW a b x y).length = 5 := rfl
        omega
      have all : ∀ l : List (Addr × List Key), (∀ q ∈ l, (rowW q.2).length + 1 ≤ 51) → Wt (l.map fun q => rowW q.2) ≤ l.length * 51 := fun l hl => by
        induction l with
        | nil => exact Nat.le_refl _
        | cons q l ih =>
          have h1 := ih fun u hu => hl u (List.mem_cons_of_mem _ hu)
          have h2 := hl q List.mem_cons_self
          unfold Wt at h1 ⊢
          rw [List.map_cons, List.map_cons, List.sum_cons, List.length_cons, List.length_cons]
          omega
      have := all ls one
      omega
    have e2 : Wt (rowsW zs ls) = (wrd (netW zs)).length + 1 + Wt (ls.map fun q => rowW q.2) := by
      unfold rowsW Wt
      rw [List.map_cons, List.sum_cons, List.length_cons]
      omega
    rw [e2]
    unfold netW
    omega
  rw [e]
  omega
theorem Wd.l9 {H : Hp} {N : Nat} {wl r l : Addr} {zs : List Str} {ls : List (Addr × List Key)} (h : Wd H N wl r l zs ls) (hN : N < 1000000000) : ∀ q ∈ ls, Lk9 zs q.2 := fun q hq => by
  obtain ⟨_, a, b, x, y, e, ha, hb, _, x1, xN, y1, yN⟩ := h.el q hq
  exact ⟨a, b, x, y, e, h.nok a ha, h.nok b hb, x1, y1, by omega, by omega⟩
/-- _law_net_page(world) -/
def spPage : Sp := fun vs H Q _ => ∃ (N : Nat) (wl r l : Addr) (zs : List Str) (ls : List (Addr × List Key)), vs = [.ref wl] ∧ Wd H N wl r l zs ls ∧ N < 1000000000 ∧ ∀ H', Same H H' → Q (.str (pageW zs ls)) H'
section
variable {P : Program} {w : World} {K : PySem.W.Frag} {mg : Str → Option Value} {base : Heap} {ca ia fa : Nat → Addr} {fd fi : Nat → FuncData}
theorem ok_page (T : Txt K mg ca ia fa fd fi) : FnOk P w K mg base CX0 1 (fa 46) (fd 46) ["_law_world_here"] spPage := by
  refine T.F_l_net_page.ok sc_l_net_page (fun vs H Q E h => ?_) (fun cdv A outer s H vs Q E hr h => ?_)
  · obtain ⟨N, wl, r, l, zs, ls, rfl, _⟩ := h
    rfl
  · obtain ⟨N, wl, r, l, zs, ls, rfl, hw, hN, k⟩ := h
    refine ⟨_, (pss_cons (ps_set (i := 1) sc_l_net_page.nd rfl (Or.inl rfl) (pe_lst (pa_cons (pe_op op_add_str pe_str (pe_join pe_str (pe_ix ix_seq (pv 0) pe_int (fun _ _ => rfl)))) pa_nil)))
      (pss_cons (ps_expr (pe_bm PySem.F.plainAttrs_list PySem.F.slot_list_extend PySem.F.type_list_extend mt_extend (pv 1) (pa_cons (pe_lc (own := [("_law_a", 2), ("_law_b", 3), ("_law_there", 4), ("_law_back", 5)]) (g := (gTup K 4 (gCons (gName 2) (gCons (gName 3) (gCons (gName 4) (gCons (gName 5) gNil)))))) (tt := tYes) rfl sc_l_net_page.nd (pi_tup (pe_ix ix_seq (pv 0) pe_int (fun _ _ => rfl))) (blkOk_by (own := [("_law_a", 2), ("_law_b", 3), ("_law_there", 4), ("_law_back", 5)]) (N := N_l_net_page) (sc := defScope s_l_net_page) (by decide +kernel)) (fun _ _ _ _ _ => (pg_tup rfl (pgs_cons (pg_name (i := 2) sc_l_net_page.nd rfl (Or.inl rfl)) (pgs_cons (pg_name (i := 3) sc_l_net_page.nd rfl (Or.inl rfl)) (pgs_cons (pg_name (i := 4) sc_l_net_page.nd rfl (Or.inl rfl)) (pgs_cons (pg_name (i := 5) sc_l_net_page.nd rfl (Or.inl rfl)) pgs_nil)))))) (fun _ _ _ _ _ => pts_nil) (fun _ _ _ _ _ => by exact (pe_op op_add_str (pe_op op_add_str (pe_op op_add_str (pe_op op_add_str (pe_op op_add_str (pe_op op_add_str (pe_op op_add_str pe_str (pv 2)) pe_str) (pv 3)) pe_str) (pe_callTy call_str_int (by rfl) T.n_str (by decide +kernel) (pa_cons (pv 4) pa_nil))) pe_str) (pe_callTy call_str_int (by rfl) T.n_str (by decide +kernel) (pa_cons (pv 5) pa_nil))))) pa_nil)))
      (pss_one (ps_ret (pe_join pe_str (pv 1)))))), ?_⟩
    have z8 := hw.l8
    have l2 := hw.l2
    have l9 := hw.l9 hN
    have nz : ∀ z ∈ zs, z.length ≤ 8 := fun z hz => (hw.nok z hz).2.1
    have sm := sum_le nz
    have wl9 := wrd_len nz
    have l8 : (Str.ofString "routers ").length = 8 := by decide +kernel
    have e1 : (Str.ofString " ").length = 1 := by decide +kernel
    refine ⟨⟨_, rfl⟩, _, rfl, hw.ix 0 rfl ⟨_, r, zs, rfl, rfl, .inr (SqT.of hw.r_), by rw [e1]; omega, ?_⟩⟩
    have ew : tx "routers " ++ wrd zs = wrd (netW zs) := (wrd_net (fun z => by rw [z] at l2; exact absurd l2 (by decide))).symm
    have wl8 : (wrd zs).length ≤ 72 := by
      refine Nat.le_trans wl9 ?_
      have := Nat.mul_le_mul_right 9 z8
      omega
    refine ⟨_, _, rfl, rfl, by rw [l8, sizeLine_eq]; show 8 + (wrd zs).length ≤ _; omega, by show 1 ≤ sizeLine; decide, fun L nL => ?_⟩
    have eq : upd H L (.lst [.str (Str.ofString "routers " ++ Txt.join (Str.ofString " ") zs)]) = upd H L (.lst [.str (wrd (netW zs))]) := by rw [← ew]; rfl
    rw [eq]
    have sL := same_new (o := .lst [.str (wrd (netW zs))]) nL
    have hL : upd H L (.lst [.str (wrd (netW zs))]) L = some (.lst (([wrd (netW zs)] : List Str).map V.str)) := upd_same
    generalize upd H L (.lst [.str (wrd (netW zs))]) = H1 at sL hL ⊢
    have hw1 := hw.same sL
    refine ⟨_, rfl, .inl ⟨rfl, _, SqL.of hL⟩, _, rfl, hw1.ix 1 rfl ⟨l, rfl, ⟨_, SqT.of hw1.l_⟩, fun D nD => ?_⟩⟩
    refine lc_it (walk_tup (xs := ls.map fun q => V.ref q.1)) (fun i H' => H' D = some (.lst (((ls.take i).map fun q => rowW q.2).map V.str)) ∧ Same H1 H') ⟨upd_same, same_new nD⟩ (fun i H' _ q => SqT.of (q.2 _ _ hw1.l_)) ?_ ?_
    · rintro i x Ha Hb hi ⟨hb, sm⟩ ⟨rfl, hx⟩
      obtain ⟨q, hq, rfl⟩ := at_map hx
      have mq := List.mem_of_getElem? hq
      obtain ⟨a, b, x, y, e, na, nb, x1, y1, x9, y9⟩ := l9 q mq
      have hq1 := sm _ _ (hw1.el q mq).1
      rw [e] at hq1
      have lx := (num_len x9).2
      have ly := (num_len y9).2
      have la := na.2.1
      have lb := nb.2.1
      have l5 : (Str.ofString "link ").length = 5 := by decide +kernel
      have lnx : (Str.ofString (toString (x : Int))).length ≤ 9 := lx
      have lny : (Str.ofString (toString (y : Int))).length ≤ 9 := ly
      refine ⟨q.1, _, rfl, SqT.of hq1, rfl, _, _, rfl, _, _, rfl, _, _, rfl, _, _, rfl, rfl, ?_⟩
      dsimp only [tYes]
      rw [if_pos rfl]
      refine ⟨rfl, ?_⟩
      have e1' : (Str.ofString " ").length = 1 := e1
      refine ⟨_, rfl, _, _, rfl, rfl, by simp only [lenA, sizeLine_eq]; omega, _, _, rfl, rfl, by simp only [lenA, sizeLine_eq]; omega, _, rfl, _, _, rfl, rfl, by simp only [lenA, sizeLine_eq]; omega, _, _, rfl, rfl, by simp only [lenA, sizeLine_eq]; omega, _, rfl, _, rfl, num_log x9, _, _, rfl, rfl, by simp only [lenA, sizeLine_eq]; omega, _, _, rfl, rfl, by simp only [lenA, sizeLine_eq]; omega, _, rfl, _, rfl, num_log y9, _, _, rfl, rfl, by simp only [lenA, sizeLine_eq]; omega, ?_⟩
      rw [List.length_map] at hi
      have few := hw.few
      refine ⟨_, hb, by rw [List.length_map, List.length_map, List.length_take, sizeLine_eq]; omega, ?_, Same.upd_at sm nD⟩
      rw [upd_same, List.take_add_one, hq, List.map_append, List.map_append]
      have er : rowW q.2 = Str.ofString "link " ++ a ++ Str.ofString " " ++ b ++ Str.ofString " " ++ Str.ofString (toString (x : Int)) ++ Str.ofString " " ++ Str.ofString (toString (y : Int)) := by
        rw [e, row_eq, wrd_link]
        rfl
      rw [← er]
      rfl
    · rintro H4 ⟨hb, s4⟩
      rw [List.length_map, List.take_length] at hb
      have hL4 := s4 _ _ hL
      have LD : D ≠ L := fun z => by rw [z, hL] at nD; cases nD
      refine ⟨L, D, _, _, rfl, rfl, hL4, hb, by rw [List.length_map, List.length_map, List.length_map, sizeLine_eq]; have := hw.few; show 1 + ls.length ≤ _; omega, nxt ?_⟩
      have hp : upd H4 L (.lst ((([wrd (netW zs)] : List Str).map V.str) ++ ((ls.map fun q => rowW q.2).map V.str))) L = some (.lst ((rowsW zs ls).map V.str)) := upd_same
      have lr : (rowsW zs ls).length = ls.length + 1 := by
        unfold rowsW
        rw [List.length_cons, List.length_map]
      have sr := sum_le (rows_long z8 hw.nok l9)
      have sf : Same H (upd H4 L (.lst ((([wrd (netW zs)] : List Str).map V.str) ++ ((ls.map fun q => rowW q.2).map V.str)))) := Same.upd_at (fun c o e => s4 _ _ (sL _ _ e)) nL
      refine ⟨⟨_, rfl⟩, _, rfl, _, L, rowsW zs ls, rfl, rfl, .inl (SqL.of hp), ?_, ?_⟩
      · have := hw.few
        have e1 : (Str.ofString "\n").length = 1 := by decide +kernel
        rw [e1]
        omega
      · exact k _ sf
end
end Toy
set_option Elab.async false
set_option linter.all false
set_option maxRecDepth 100000
set_option maxHeartbeats 8000000
namespace Toy
open PySem L2 Q RZ LamX NdefX D7 TL
theorem parse_sizes {t : Str} : (∀ i, parseW t = .bad i → i ≤ t.length + 1) ∧ (∀ zs kk, parseW t = .ok zs kk → zs.length ≤ t.length + 1 ∧ kk.length ≤ t.length + 1) := by
  obtain ⟨wl, wn, wp⟩ := rows_le t
  unfold parseW
  cases e : rowsOf t with
  | nil => exact absurd e wn
  | cons r0 rest =>
    rw [e] at wl wp
    rw [List.length_cons] at wl
    have le := linksQ_le rest
    cases ez : routersW r0 with
    | none =>
      rw [parseR_none ez]
      exact ⟨fun i h => by injection h with h; omega, fun zs kk h => by cases h⟩
    | some zs =>
      by_cases ee : (linksQ rest).length = rest.length
      · rw [parseR_ok ez ee]
        refine ⟨fun i h => (by cases h), fun zs' kk h => ?_⟩
        injection h with h1 h2
        rw [← h1, ← h2]
        obtain ⟨_, e1⟩ := routersW_ok ez
        have l1 := (words_le r0).1
        have l0 := wp r0 (by simp)
        rw [e1, List.length_cons] at l1
        omega
      · rw [parseR_bad ez rfl ee]
        exact ⟨fun i h => by injection h with h; omega, fun zs kk h => by cases h⟩
theorem Sm.shows {n k : Nat} {d : PyData} (h : Sm n k d) (a : n ≤ 16777216) (b : k ≤ 100) : Shows d :=
  ⟨h.ok, Nat.le_trans h.len (Nat.le_trans a (by rw [sizeLine_eq]; decide)), Nat.le_trans h.dp b⟩
theorem sm_word {wd : Str} (h : Tc wd) {n k : Nat} {x : PyData} (hx : Sm n k x) (hn : 110 ≤ n) (hk : 3 ≤ k) : Sm (2 * (n + 2) + 2) (k + 1) (.tuple [.str wd, x]) := by
  refine (sm_tuple (n := n) (k := k) (xs := [.str wd, x]) fun y hy => ?_)
  simp only [List.mem_cons, List.not_mem_nil, or_false] at hy
  rcases hy with rfl | rfl
  · exact (sm_tc h).mono hn hk
  · exact hx
theorem tc_text : Tc (tx "text") ∧ Tc (tx "fine") ∧ Tc (tx "net") := by decide +kernel
theorem net_sm {zs : List Str} {kk : List (List Key)} (nz : ∀ z ∈ zs, NameOk z) (nk : ∀ k ∈ kk, Rd4 k) (lz : zs.length ≤ 8901) (lk : kk.length ≤ 8901) : Sm 8047000 7 (.tuple [rtD zs, lkD kk]) := by
  have nm : ∀ {z : Str}, NameOk z → Sm 110 3 (.str z) := fun {z} n => sm_tc ⟨by have := n.2.1; omega, fun c hc => by have := (n.2.2 c hc).2; omega⟩
  have s1 : Sm 4023300 6 (rtD zs) := (sm_tuple (n := 110) (k := 3) (xs := zs.map PyData.str) fun x hx => by
    obtain ⟨z, hz, rfl⟩ := List.mem_map.mp hx
    exact nm (nz z hz)).mono (by rw [List.length_map]; have := Nat.mul_le_mul_right (110 + 2) lz; omega) (by decide)
  have s2 : Sm 4023300 6 (lkD kk) := (sm_tuple (n := 450) (k := 4) (xs := kk.map kD) fun x hx => by
    obtain ⟨k, hk, rfl⟩ := List.mem_map.mp hx
    obtain ⟨a, b, i, j, rfl, ha, hb, iN, jN⟩ := nk k hk
    refine (sm_tuple (n := 110) (k := 3) (xs := [.str a, .str b, .int (i : Int), .int (j : Int)]) fun x hx => ?_).mono (by show 4 * 112 + 2 ≤ 450; decide) (Nat.le_refl _)
    simp only [List.mem_cons, List.not_mem_nil, or_false] at hx
    rcases hx with rfl | rfl | rfl | rfl
    · exact nm ha
    · exact nm hb
    · exact (sm_nat (by omega)).mono (by decide) (by decide)
    · exact (sm_nat (by omega)).mono (by decide) (by decide)).mono (by rw [List.length_map]; have := Nat.mul_le_mul_right (450 + 2) lk; omega) (by decide)
  refine (sm_tuple (n := 4023300) (k := 6) fun x hx => ?_).mono (by show 2 * 4023302 + 2 ≤ 8047000; decide) (Nat.le_refl _)
  simp only [List.mem_cons, List.not_mem_nil, or_false] at hx
  rcases hx with rfl | rfl
  · exact s1
  · exact s2
theorem due_shows {d : PyData} (h : ∀ t, d = .str t → t.length ≤ 8900) : Shows (dueD d) := by
  obtain ⟨c1, c2, c3⟩ := tc_text
  cases es : strB d with
  | false =>
    rw [dueD_no es]
    exact (sm_word c1 ((⟨by decide +kernel, by decide +kernel, by decide +kernel⟩ : Sm 20 3 .none).mono (n' := 110) (k' := 3) (by decide) (by decide)) (by decide) (by decide)).shows (by decide) (by decide)
  | true =>
    obtain ⟨t, rfl⟩ : ∃ t, d = .str t := by
      cases d <;> first | exact ⟨_, rfl⟩ | cases es
    have lt := h t rfl
    show Shows (dueT t)
    obtain ⟨p1, p2⟩ := parse_sizes (t := t)
    cases ep : parseW t with
    | bad i =>
      have := p1 i ep
      rw [dueT_bad ep]
      exact (sm_word c1 ((sm_nat (n := i) (by omega)).mono (n' := 110) (k' := 3) (by decide) (by decide)) (by decide) (by decide)).shows (by decide) (by decide)
    | ok zs kk =>
      obtain ⟨l1, l2⟩ := p2 zs kk ep
      obtain ⟨nz, nk⟩ := parse_names (by show parseR (rowsOf t) = _; exact ep)
      rw [dueT_ok ep]
      unfold okD
      refine (sm_word ?_ (net_sm nz (fun k hk => let ⟨_, e⟩ := nk k hk; rd4_of e) (by omega) (by omega)) (by decide) (by decide)).shows (by decide) (by decide)
      split
      · exact c2
      · exact c3
theorem odd_len : ∀ d ∈ oddDs, ∀ t, d = .str t → t.length ≤ 8900 := by
  intro d hd t e
  simp only [oddDs, List.mem_cons, List.not_mem_nil, or_false] at hd
  rcases hd with rfl | rfl | rfl | rfl | rfl | rfl | rfl | rfl | rfl | rfl | rfl | rfl | rfl | rfl | rfl | rfl <;> first | (cases e; done) | (injection e with e; subst e; decide +kernel)
/-- _law_fine(pot) -/
def spFine (P1 : Addr) : Sp := fun vs H Q _ => ∃ (p : Addr) (B : Nat), vs = [.ref p] ∧ At p P1 B H ∧ B < 700000 ∧ ∀ H', Go p H H' → At p P1 (B + 300) H' → Q (.bl true) H'
section
variable {P : Program} {w : World} {K : PySem.W.Frag} {mg : Str → Option Value} {base : Heap} {ca ia fa : Nat → Addr} {fd fi : Nat → FuncData} {c1 P1 : Addr}
theorem ok_fine (T : Txt K mg ca ia fa fd fi) (FC : FunC K "_law_heard" s_l_heard (fa 52) (fd 52) c1) (B : Tb base mg c1 P1) :
    FnG P w K mg base CX0 16 (fa 54) (fd 54) ["_law_pot_here"] (spFine P1) := by
  have G_l_world := ok_world (P := P) (w := w) (base := base) T
  have G_l_take := ok_take (P := P) (w := w) (base := base) T
  have G_l_net_page := ok_page (P := P) (w := w) (base := base) T
  have G_l_bent_page := ok_bent (P := P) (w := w) (base := base) T
  have G_l_odd := ok_odd (P := P) (w := w) (base := base) T
  have G_l_heard := ok_heard (P := P) (w := w) (base := base) T FC B
  have G_l_due := ok_due (P := P) (w := w) (base := base) T
  refine okG T.F_l_fine sc_l_fine (fun vs H Q E h => ?_) (fun cdv A outer s H vs Q E hgd hr h => ?_)
  · obtain ⟨p, B, rfl, _⟩ := h
    rfl
  · obtain ⟨p, B0, rfl, at0, hB, k⟩ := h
    refine ⟨_, (pss_cons (ps_set (i := 1) sc_l_fine.nd rfl (Or.inl rfl) (pe_call G_l_net_page (hr.mono (by decide)) rfl T.g_l_net_page T.k_l_net_page T.b_l_net_page .nil pass0 (pa_cons (pe_call G_l_world (hr.mono (by decide)) rfl T.g_l_world T.k_l_world T.b_l_world .nil pass0 (pa_cons (pv 0) (pa_cons pe_int (pa_cons pe_int (pa_cons pe_int pa_nil))))) pa_nil)))
      (pss_cons (ps_for PassesOwn.never rfl (pi_range1 rfl T.n_range (pa_cons (pe_op op_add pe_int (pe_call G_l_take (hr.mono (by decide)) rfl T.g_l_take T.k_l_take T.b_l_take .nil pass0 (pa_cons (pv 0) (pa_cons pe_int pa_nil)))) pa_nil)) (pg_name (i := 2) sc_l_fine.nd rfl (Or.inl rfl)) (pss_one (ps_set (i := 1) sc_l_fine.nd rfl (Or.inl rfl) (pe_call G_l_bent_page (hr.mono (by decide)) rfl T.g_l_bent_page T.k_l_bent_page T.b_l_bent_page .nil pass0 (pa_cons (pv 0) (pa_cons (pv 1) pa_nil))))))
      (pss_cons (ps_set (i := 1) sc_l_fine.nd rfl (Or.inl rfl) (pe_ifExp (pt_cmpR op_eq (pe_call G_l_take (hr.mono (by decide)) rfl T.g_l_take T.k_l_take T.b_l_take .nil pass0 (pa_cons (pv 0) (pa_cons pe_int pa_nil))) pe_int (nomark _)) (pe_call G_l_odd (hr.mono (by decide)) rfl T.g_l_odd T.k_l_odd T.b_l_odd .nil pass0 (pa_cons (pv 0) pa_nil)) (pv 1)))
      (pss_one (ps_ret (pe_cmpR op_eq (pe_repr hgd hr T.n_repr (pe_callG G_l_heard hgd (hr.mono (by decide)) rfl T.g_l_heard T.k_l_heard T.b_l_heard .nil pass0 (pa_cons (pv 1) pa_nil))) (pe_repr hgd hr T.n_repr (pe_call G_l_due (hr.mono (by decide)) rfl T.g_l_due T.k_l_due T.b_l_due .nil pass0 (pa_cons (pv 1) pa_nil))) (nomark _))))))), ?_⟩
    refine ⟨_, rfl, p, 2, 8, 5, B0, rfl, at0.po, by omega, by decide, by decide, by decide, by decide, fun wl r l zs ls H1 hwl hz hl pw nok lo' hi' lks b1 p1 => ?_⟩
    have hw : Wd H1 90 wl r l zs ls := ⟨hwl, hz, hl, lks.1, lks.2.1, lks.2.2, pw, nok, by omega, by omega⟩
    have a1 := at0.but b1 p1
    refine ⟨90, wl, r, l, zs, ls, rfl, hw, by decide, fun H2 s2 => ?_⟩
    have pl := page_len2 hw.l8 hw.nok (hw.l9 (by decide)) hw.few
    have a2 := a1.same s2
    have g2 : Go p H H2 := (Go.but b1).trans (Go.same s2)
    dsimp only [gName]
    refine ⟨_, rfl, p, 3, B0 + 200, rfl, a2.po, by decide, by decide, by omega, fun d H3 d3 b3 p3 => ⟨_, _, rfl, rfl, _, rfl, by omega, by omega, ?_⟩⟩
    have a3 := a2.but b3 p3
    have g3 := g2.trans (Go.but b3)
    have dn : (1 + (d : Int)).toNat = 1 + d := by omega
    refine for_it walk_range (fun i σ H' => ∃ (t : Str) (x2 : Option L2.V), σ = [some (.ref p), some (.str t), x2] ∧ t.length + 20 ≤ 1020 * 2 ^ i ∧ At p P1 (B0 + 201 + 4 * i) H' ∧ Go p H H')
      ⟨_, _, rfl, by omega, a3, g3⟩ (fun _ _ _ _ _ => trivial) ?_ ?_
    · rintro i x σ Ha Hb hi ⟨t, x2, rfl, lt, ai, gi⟩ ⟨rfl, rfl⟩
      have hi : i < (1 + (d : Int)).toNat := hi
      have i2 : i ≤ 2 := by omega
      have pw := Nat.pow_le_pow_right (n := 2) (by decide) i2
      refine ⟨_, rfl, _, rfl, p, t, B0 + 201 + 4 * i, rfl, ai.po, by omega, by omega, fun z Hc lz bc pc => ?_⟩
      refine ⟨z, _, rfl, ?_, (ai.but bc pc), gi.trans (Go.but bc)⟩
      rw [Nat.pow_succ]
      omega
    · rintro σ H4 ⟨t, x2, rfl, lt, a4, g4⟩
      rw [dn] at lt a4
      have i3 : 1 + d ≤ 3 := by omega
      have pw := Nat.pow_le_pow_right (n := 2) (by decide) i3
      have lt8 : t.length ≤ 8900 := by omega
      dsimp only
      refine seqS (fun v H' => ∃ dv, Dd K H' v dv ∧ (∀ t, dv = .str t → t.length ≤ 8900) ∧ At p P1 (B0 + 290) H' ∧ Go p H H') (fun Q k' => ?_) ?_
      · refine ⟨_, rfl, p, 8, B0 + 201 + 4 * (1 + d), rfl, a4.po, by decide, by decide, by omega, fun e H5 e8 b5 p5 => ⟨rfl, _, rfl, ifE (fun _ => ?_) fun _ => ?_⟩⟩
        · refine ⟨_, rfl, p, _, rfl, p5, by omega, fun v dv H6 b6 p6 hd hm => k' _ _ ⟨dv, hd.same (off_same H6 p), odd_len dv hm, ?_, g4.trans (Go.but (b5.trans b6))⟩⟩
          have a6 := a4.but (b5.trans b6) p6
          exact ⟨a6.po.mono (by omega), a6.tb⟩
        · have a5 := a4.but b5 p5
          refine ⟨_, rfl, k' _ _ ⟨.str t, .str t, fun t' e => by injection e with e; rw [← e]; exact lt8, ⟨a5.po.mono (by omega), a5.tb⟩, g4.trans (Go.but b5)⟩⟩
      rintro v H5 ⟨dv, hd, len, a5, g5⟩
      have sh := due_shows len
      refine ⟨_, rfl, v, dv, rfl, hd, len, a5.tb, fun a H6 e6 t6 h6 => ⟨.ref a, _, rfl, h6, sh, _, rfl, v, dv, rfl, dd_ext e6 hd, len, fun b H7 s7 h7 => ⟨.ref b, _, rfl, h7, sh, rfl, ?_⟩⟩⟩
      rw [decide_eq_true rfl]
      have a7 := (a5.ext e6 t6).same s7
      exact k _ ((g5.trans (Go.ext e6)).trans (Go.same s7)) ⟨a7.po.mono (by omega), a7.tb⟩
end
end Toy
set_option Elab.async false
set_option linter.all false
set_option maxRecDepth 100000
set_option maxHeartbeats 8000000
namespace Toy
open PySem L2 Q RZ LamX NdefX D7 TL
theorem all_true (n : Nat) : (List.replicate n true).all id = true := by simp
def spLaw (P1 P2 : Addr) (K : PySem.W.Frag) : Sp := fun vs H Q _ => ∃ (a : Addr) (ns : List Int), vs = [.ref a] ∧ SqL K H a (ns.map V.int) ∧ ns.length ≤ 63 ∧ Tabs (TL1 P1) H ∧ ∀ H', Q (.bl true) H'
section
variable {P : Program} {w : World} {K : PySem.W.Frag} {mg : Str → Option Value} {base : Heap} {ca ia fa : Nat → Addr} {fd fi : Nat → FuncData} {c1 P1 P2 : Addr}
theorem ok_law (T : Txt K mg ca ia fa fd fi) (FC : FunC K "_law_heard" s_l_heard (fa 52) (fd 52) c1) (B : Tb base mg c1 P1) :
    FnG P w K mg base CX0 17 (fa 55) (fd 55) ["_law_script"] (spLaw P1 P2 K) := by
  have G_l_pots := ok_pots (P := P) (w := w) (base := base) T
  have G_l_fine := ok_fine (P := P) (w := w) (base := base) T FC B
  refine okG T.F_law sc_law (fun vs H Q E h => ?_) (fun cdv A outer s H vs Q E hgd hr h => ?_)
  · obtain ⟨a, ns, rfl, _⟩ := h
    rfl
  · obtain ⟨a, ns, rfl, hs, hl, hT, k⟩ := h
    refine ⟨_, (pss_cons (ps_for PassesOwn.never rfl (pi_list (pe_call G_l_pots (hr.mono (by decide)) rfl T.g_l_pots T.k_l_pots T.b_l_pots .nil pass0 (pa_cons (pv 0) (pa_cons pe_int pa_nil)))) (pg_name (i := 1) sc_law.nd rfl (Or.inr rfl)) (pss_one (ps_if (pt_not (pt_val (pe_callB (cr_all rfl) (by rfl) T.n_all (by decide +kernel) (pa_cons (pe_lc (own := [("_law_turn", 2)]) (g := (gName 2)) (tt := tYes) rfl sc_law.nd (pi_range1 rfl T.n_range (pa_cons pe_int pa_nil)) (blkOk_by (own := [("_law_turn", 2)]) (N := N_law) (sc := defScope s_law) (by decide +kernel)) (fun _ _ _ _ _ => (pg_name (i := 2) sc_law.nd rfl (Or.inl rfl))) (fun _ _ _ _ _ => pts_nil) (fun _ _ _ _ _ => by exact (pe_callG G_l_fine hgd (hr.mono (by decide)) rfl T.g_l_fine T.k_l_fine T.b_l_fine .nil pass0 (pa_cons (pv 1) pa_nil)))) pa_nil)))) (pss_one (ps_ret pe_bl)) pss_nil)))
      (pss_one (ps_ret pe_bl))), ?_⟩
    refine ⟨_, rfl, a, ns, 3, rfl, hs, by decide, hl, fun L0 ps H1 s1 hL0 few nd nL0 hp => ⟨L0, rfl, ⟨_, SqL.of hL0⟩, ?_⟩⟩
    refine for_it (walk_list (xs := ps.map V.ref)) (fun i σ H' => ∃ (x1 x2 : Option L2.V), σ = [some (.ref a), x1, x2] ∧ H' L0 = some (.lst (ps.map V.ref)) ∧ Tabs (TL1 P1) H' ∧ ∀ (j : Nat) (q : Addr), i ≤ j → ps[j]? = some q → Pot H' q 0)
      ⟨_, _, rfl, hL0, hT.ext s1, fun j q _ hq => hp q (List.mem_of_getElem? hq)⟩ (fun i σ H' _ ⟨_, _, _, z, _⟩ => SqL.of z) ?_ ?_
    · rintro i x σ H2 H3 hi ⟨x1, x2, rfl, hL2, t2, hp2⟩ ⟨rfl, hx⟩
      obtain ⟨p, hpi, rfl⟩ := at_map hx
      have pp := hp2 i p (Nat.le_refl _) hpi
      have Lp : L0 ≠ p := fun z => by
        obtain ⟨_, _, _, e, _⟩ := hp p (List.mem_of_getElem? hpi)
        exact nL0 (z ▸ List.mem_of_getElem? hpi)
      refine ⟨6, rfl, by decide, by decide, fun D nD => ?_⟩
      have Dp : D ≠ p := pot_none pp nD
      refine lc_range (lo := 0) (n := (6 : Int).toNat) (fun j H' => H' D = some (.lst ((List.replicate j true).map V.bl)) ∧ Go p H3 H' ∧ At p P1 (300 * j) H')
        ⟨upd_same, Go.same (same_new nD), pp.same (same_new nD), t2.ext (same_new nD)⟩ ?_ ?_
      · rintro j H4 hj ⟨hD, g4, a4⟩
        have j3 : j < 6 := hj
        refine ⟨rfl, ?_⟩
        dsimp only [tYes]
        rw [if_pos rfl]
        refine ⟨_, rfl, p, 300 * j, rfl, a4, by omega, fun H5 g5 a5 => ?_⟩
        have hD5 := g5 _ _ Dp hD fun ps z => by cases z
        refine ⟨_, hD5, by rw [List.length_map, List.length_replicate, sizeLine_eq]; omega, by rw [upd_same, List.replicate_succ', List.map_append]; rfl, fun c o n e t => ?_, ?_, ?_⟩
        · rw [upd_ne (fun z => by rw [z, nD] at e; cases e)]
          exact g5 _ _ n (g4 c o n e t) t
        · obtain ⟨o, sd, c, e, r⟩ := a5.po
          have : Pot (upd H5 D (.lst ((List.replicate j true).map V.bl ++ [.bl true]))) p (300 * j + 300) := ⟨o, sd, c, by rw [upd_ne (Ne.symm Dp)]; exact e, r⟩
          exact this.mono (by omega)
        · intro z hz
          obtain ⟨qs, z1, z2, z3⟩ := a5.tb z hz
          refine ⟨qs, by rw [upd_ne (fun y => by rw [y, hD5] at z1; cases z1)]; exact z1, z2, fun pos cv hc => ?_⟩
          obtain ⟨c', e1, e2⟩ := z3 pos cv hc
          refine ⟨c', e1, ?_⟩
          rw [upd_ne]
          · exact e2
          · intro y
            rw [y, hD5] at e2
            unfold CodeO at e2
            cases e2
      · rintro H4 ⟨hD, g4, a4⟩
        refine ⟨D, List.replicate _ true, rfl, SqL.of hD, ?_⟩
        rw [all_true]
        refine ⟨_, rfl, iteB2 rfl (nxt ⟨_, _, rfl, g4 _ _ Lp hL2 (fun ps z => by cases z), a4.tb, fun j q lj hq => ?_⟩)⟩
        have ne : q ≠ p := fun z => by
          rw [z] at hq
          have := nd_same (f := id) (by rw [List.map_id]; exact nd) hq hpi rfl
          omega
        obtain ⟨o, sd, c, e, r⟩ := hp2 j q (by omega) hq
        exact ⟨o, sd, c, g4 _ _ ne e (fun ps z => by cases z), r⟩
    · rintro σ H2 ⟨x1, x2, rfl, _, _⟩
      exact k H2
end
end Toy
set_option Elab.async false
set_option linter.all false
set_option maxRecDepth 100000
set_option maxHeartbeats 8000000
namespace Toy
open PySem L2 Q RZ LamX NdefX D7
theorem all_mk {P : Program} {w : World} {K : PySem.W.Frag} {h : Heap} {mg : Str → Option Value} {fl : Addr} (X : K.In h) (G : h.Ns mainGlobals mg) (hfl : mg "law" = some (.ref fl))
    {f0 : Addr} {od0 an0 : Option Addr} {sl0 : Array (Option Value)} {oc0 kV0 dc0 pm0 ct0 : Value} {cd0 : Value}
    {f9 : Addr} {od9 an9 : Option Addr} {sl9 : Array (Option Value)} {oc9 kV9 dc9 pm9 ct9 : Value} {cd9 : Value}
    {f10 : Addr} {od10 an10 : Option Addr} {sl10 : Array (Option Value)} {oc10 kV10 dc10 pm10 ct10 : Value} {cd10 : Value}
    {f11 : Addr} {od11 an11 : Option Addr} {sl11 : Array (Option Value)} {oc11 kV11 dc11 pm11 ct11 : Value} {cd11 : Value}
    {f12 : Addr} {od12 an12 : Option Addr} {sl12 : Array (Option Value)} {oc12 kV12 dc12 pm12 ct12 : Value} {cd12 : Value}
    {f15 : Addr} {od15 an15 : Option Addr} {sl15 : Array (Option Value)} {oc15 kV15 dc15 pm15 ct15 : Value} {cd15 : Value}
    {f21 : Addr} {od21 an21 : Option Addr} {sl21 : Array (Option Value)} {oc21 kV21 dc21 pm21 ct21 : Value} {cd21 : Value}
    {f22 : Addr} {od22 an22 : Option Addr} {sl22 : Array (Option Value)} {oc22 kV22 dc22 pm22 ct22 : Value} {cd22 : Value}
    {f23 : Addr} {od23 an23 : Option Addr} {sl23 : Array (Option Value)} {oc23 kV23 dc23 pm23 ct23 : Value} {cd23 : Value}
    {f24 : Addr} {od24 an24 : Option Addr} {sl24 : Array (Option Value)} {oc24 kV24 dc24 pm24 ct24 : Value} {cd24 : Value}
    {f25 : Addr} {od25 an25 : Option Addr} {sl25 : Array (Option Value)} {oc25 kV25 dc25 pm25 ct25 : Value} {cd25 : Value}
    {f26 : Addr} {od26 an26 : Option Addr} {sl26 : Array (Option Value)} {oc26 kV26 dc26 pm26 ct26 : Value} {cd26 : Value}
    {f28 : Addr} {od28 an28 : Option Addr} {sl28 : Array (Option Value)} {oc28 kV28 dc28 pm28 ct28 : Value} {cd28 : Value}
    {f29 : Addr} {od29 an29 : Option Addr} {sl29 : Array (Option Value)} {oc29 kV29 dc29 pm29 ct29 : Value} {cd29 : Value}
    {f30 : Addr} {od30 an30 : Option Addr} {sl30 : Array (Option Value)} {oc30 kV30 dc30 pm30 ct30 : Value} {cd30 : Value}
    {f31 : Addr} {od31 an31 : Option Addr} {sl31 : Array (Option Value)} {oc31 kV31 dc31 pm31 ct31 : Value} {cd31 : Value}
    {f32 : Addr} {od32 an32 : Option Addr} {sl32 : Array (Option Value)} {oc32 kV32 dc32 pm32 ct32 : Value} {cd32 : Value}
    {f34 : Addr} {od34 an34 : Option Addr} {sl34 : Array (Option Value)} {oc34 kV34 dc34 pm34 ct34 : Value} {cd34 : Value}
    {f35 : Addr} {od35 an35 : Option Addr} {sl35 : Array (Option Value)} {oc35 kV35 dc35 pm35 ct35 : Value} {cd35 : Value}
    {f36 : Addr} {od36 an36 : Option Addr} {sl36 : Array (Option Value)} {oc36 kV36 dc36 pm36 ct36 : Value} {cd36 : Value}
    {f37 : Addr} {od37 an37 : Option Addr} {sl37 : Array (Option Value)} {oc37 kV37 dc37 pm37 ct37 : Value} {cd37 : Value}
    {f38 : Addr} {od38 an38 : Option Addr} {sl38 : Array (Option Value)} {oc38 kV38 dc38 pm38 ct38 : Value} {cd38 : Value}
    {f39 : Addr} {od39 an39 : Option Addr} {sl39 : Array (Option Value)} {oc39 kV39 dc39 pm39 ct39 : Value} {cd39 : Value}
    {f40 : Addr} {od40 an40 : Option Addr} {sl40 : Array (Option Value)} {oc40 kV40 dc40 pm40 ct40 : Value} {cd40 : Value}
    {f41 : Addr} {od41 an41 : Option Addr} {sl41 : Array (Option Value)} {oc41 kV41 dc41 pm41 ct41 : Value} {cd41 : Value}
    {f42 : Addr} {od42 an42 : Option Addr} {sl42 : Array (Option Value)} {oc42 kV42 dc42 pm42 ct42 : Value} {cd42 : Value}
    {f43 : Addr} {od43 an43 : Option Addr} {sl43 : Array (Option Value)} {oc43 kV43 dc43 pm43 ct43 : Value} {cd43 : Value}
    {f44 : Addr} {od44 an44 : Option Addr} {sl44 : Array (Option Value)} {oc44 kV44 dc44 pm44 ct44 : Value} {cd44 : Value}
    {f45 : Addr} {od45 an45 : Option Addr} {sl45 : Array (Option Value)} {oc45 kV45 dc45 pm45 ct45 : Value} {cd45 : Value}
    {f46 : Addr} {od46 an46 : Option Addr} {sl46 : Array (Option Value)} {oc46 kV46 dc46 pm46 ct46 : Value} {cd46 : Value}
    {f47 : Addr} {od47 an47 : Option Addr} {sl47 : Array (Option Value)} {oc47 kV47 dc47 pm47 ct47 : Value} {cd47 : Value}
    {f48 : Addr} {od48 an48 : Option Addr} {sl48 : Array (Option Value)} {oc48 kV48 dc48 pm48 ct48 : Value} {cd48 : Value}
    {f49 : Addr} {od49 an49 : Option Addr} {sl49 : Array (Option Value)} {oc49 kV49 dc49 pm49 ct49 : Value} {cd49 : Value}
    {f50 : Addr} {od50 an50 : Option Addr} {sl50 : Array (Option Value)} {oc50 kV50 dc50 pm50 ct50 : Value} {cd50 : Value}
    {f51 : Addr} {od51 an51 : Option Addr} {sl51 : Array (Option Value)} {oc51 kV51 dc51 pm51 ct51 : Value} {cd51 : Value}
    {f52 : Addr} {od52 an52 : Option Addr} {sl52 : Array (Option Value)} {oc52 kV52 dc52 pm52 ct52 : Value} {cc52 T52 : Addr} {ec52 : Value} {ed52 : Option Addr} {ev52 : Array Value} {es52 : Array (Option Value)}
    {f53 : Addr} {od53 an53 : Option Addr} {sl53 : Array (Option Value)} {oc53 kV53 dc53 pm53 ct53 : Value} {cd53 : Value}
    {f54 : Addr} {od54 an54 : Option Addr} {sl54 : Array (Option Value)} {oc54 kV54 dc54 pm54 ct54 : Value} {cd54 : Value}
    {f55 : Addr} {od55 an55 : Option Addr} {sl55 : Array (Option Value)} {oc55 kV55 dc55 pm55 ct55 : Value} {cd55 : Value}
    {C2 N2 : Addr} {nm2 q2 : Str} {bs2 sub2 : List Value} {sn2 : List Str} {ab2 : Bool} {col2 : Option Bool} {dd2 : Option Addr} {m02 m12 m22 m32 m52 : Option Value}
    {C3 N3 : Addr} {nm3 q3 : Str} {bs3 sub3 : List Value} {sn3 : List Str} {ab3 : Bool} {col3 : Option Bool} {dd3 : Option Addr} {m03 m13 m23 m33 m53 : Option Value}
    {g3 : Addr} {god3 gan3 : Option Addr} {gsl3 : Array (Option Value)} {goc3 gkV3 gdc3 gpm3 gcd3 gct3 : Value}
    {C4 N4 : Addr} {nm4 q4 : Str} {bs4 sub4 : List Value} {sn4 : List Str} {ab4 : Bool} {col4 : Option Bool} {dd4 : Option Addr} {m04 m14 m24 m34 m54 : Option Value}
    {g4 : Addr} {god4 gan4 : Option Addr} {gsl4 : Array (Option Value)} {goc4 gkV4 gdc4 gpm4 gcd4 gct4 : Value}
    {C5 N5 : Addr} {nm5 q5 : Str} {bs5 sub5 : List Value} {sn5 : List Str} {ab5 : Bool} {col5 : Option Bool} {dd5 : Option Addr} {m05 m15 m25 m35 m55 : Option Value}
    {g5 : Addr} {god5 gan5 : Option Addr} {gsl5 : Array (Option Value)} {goc5 gkV5 gdc5 gpm5 gcd5 gct5 : Value}
    {C6 N6 : Addr} {nm6 q6 : Str} {bs6 sub6 : List Value} {sn6 : List Str} {ab6 : Bool} {col6 : Option Bool} {dd6 : Option Addr} {m06 m16 m26 m36 m56 : Option Value}
    {g6 : Addr} {god6 gan6 : Option Addr} {gsl6 : Array (Option Value)} {goc6 gkV6 gdc6 gpm6 gcd6 gct6 : Value}
    {CN : Addr}
    {f100 : Addr} {od100 an100 : Option Addr} {sl100 : Array (Option Value)} {oc100 kV100 dc100 pm100 ct100 cd100 : Value}
    {f101 : Addr} {od101 an101 : Option Addr} {sl101 : Array (Option Value)} {oc101 kV101 dc101 pm101 ct101 cd101 : Value}
    {pp101 : Addr} {pr101 : List Value}
    {f102 : Addr} {od102 an102 : Option Addr} {sl102 : Array (Option Value)} {oc102 kV102 dc102 pm102 ct102 cd102 : Value}
    {pp102 : Addr} {pr102 : List Value}
    {f103 : Addr} {od103 an103 : Option Addr} {sl103 : Array (Option Value)} {oc103 kV103 dc103 pm103 ct103 cd103 : Value}
    {f104 : Addr} {od104 an104 : Option Addr} {sl104 : Array (Option Value)} {oc104 kV104 dc104 pm104 ct104 cd104 : Value}
    {f105 : Addr} {od105 an105 : Option Addr} {sl105 : Array (Option Value)} {oc105 kV105 dc105 pm105 ct105 cd105 : Value}
    {f106 : Addr} {od106 an106 : Option Addr} {sl106 : Array (Option Value)} {oc106 kV106 dc106 pm106 ct106 cd106 : Value}
    {f107 : Addr} {od107 an107 : Option Addr} {sl107 : Array (Option Value)} {oc107 kV107 dc107 pm107 ct107 cd107 : Value}
    {tLONGEST_NAME : Tok}
    {tMOST_DIGITS : Tok}
    {tFEWEST_ROUTERS : Tok}
    {tMOST_ROUTERS : Tok}
    {tMOST_LINKS : Tok}
    (a0 : PySem.W.nsIn K mainGlobals "_wall" = some (some (.ref f0)))
    (l0 : K.lookup f0 = some ⟨oc0, od0, .func (PySem.W.fnOf "_wall" "_wall" (defArgs s__wall) (defBody s__wall) (defScope s__wall) .none kV0 dc0 pm0 an0 cd0 ct0), sl0⟩)
    (c0 : PySem.W.codeIn K cd0 "_wall" = true)
    (k0 : PySem.W.keepIn K (.ref f0) = true)
    (a9 : PySem.W.nsIn K mainGlobals "is_integer" = some (some (.ref f9)))
    (l9 : K.lookup f9 = some ⟨oc9, od9, .func (PySem.W.fnOf "is_integer" "is_integer" (defArgs s_is_integer) (defBody s_is_integer) (defScope s_is_integer) .none kV9 dc9 pm9 an9 cd9 ct9), sl9⟩)
    (c9 : PySem.W.codeIn K cd9 "is_integer" = true)
    (k9 : PySem.W.keepIn K (.ref f9) = true)
    (a10 : PySem.W.nsIn K mainGlobals "is_integer_from" = some (some (.ref f10)))
    (l10 : K.lookup f10 = some ⟨oc10, od10, .func (PySem.W.fnOf "is_integer_from" "is_integer_from" (defArgs s_is_integer_from) (defBody s_is_integer_from) (defScope s_is_integer_from) .none kV10 dc10 pm10 an10 cd10 ct10), sl10⟩)
    (c10 : PySem.W.codeIn K cd10 "is_integer_from" = true)
    (k10 : PySem.W.keepIn K (.ref f10) = true)
    (a11 : PySem.W.nsIn K mainGlobals "is_name" = some (some (.ref f11)))
    (l11 : K.lookup f11 = some ⟨oc11, od11, .func (PySem.W.fnOf "is_name" "is_name" (defArgs s_is_name) (defBody s_is_name) (defScope s_is_name) .none kV11 dc11 pm11 an11 cd11 ct11), sl11⟩)
    (c11 : PySem.W.codeIn K cd11 "is_name" = true)
    (k11 : PySem.W.keepIn K (.ref f11) = true)
    (a12 : PySem.W.nsIn K mainGlobals "is_rising" = some (some (.ref f12)))
    (l12 : K.lookup f12 = some ⟨oc12, od12, .func (PySem.W.fnOf "is_rising" "is_rising" (defArgs s_is_rising) (defBody s_is_rising) (defScope s_is_rising) .none kV12 dc12 pm12 an12 cd12 ct12), sl12⟩)
    (c12 : PySem.W.codeIn K cd12 "is_rising" = true)
    (k12 : PySem.W.keepIn K (.ref f12) = true)
    (a15 : PySem.W.nsIn K mainGlobals "number_of" = some (some (.ref f15)))
    (l15 : K.lookup f15 = some ⟨oc15, od15, .func (PySem.W.fnOf "number_of" "number_of" (defArgs s_number_of) (defBody s_number_of) (defScope s_number_of) .none kV15 dc15 pm15 an15 cd15 ct15), sl15⟩)
    (c15 : PySem.W.codeIn K cd15 "number_of" = true)
    (k15 : PySem.W.keepIn K (.ref f15) = true)
    (a21 : PySem.W.nsIn K mainGlobals "need_routers" = some (some (.ref f21)))
    (l21 : K.lookup f21 = some ⟨oc21, od21, .func (PySem.W.fnOf "need_routers" "need_routers" (defArgs s_need_routers) (defBody s_need_routers) (defScope s_need_routers) .none kV21 dc21 pm21 an21 cd21 ct21), sl21⟩)
    (c21 : PySem.W.codeIn K cd21 "need_routers" = true)
    (k21 : PySem.W.keepIn K (.ref f21) = true)
    (a22 : PySem.W.nsIn K mainGlobals "need_router" = some (some (.ref f22)))
    (l22 : K.lookup f22 = some ⟨oc22, od22, .func (PySem.W.fnOf "need_router" "need_router" (defArgs s_need_router) (defBody s_need_router) (defScope s_need_router) .none kV22 dc22 pm22 an22 cd22 ct22), sl22⟩)
    (c22 : PySem.W.codeIn K cd22 "need_router" = true)
    (k22 : PySem.W.keepIn K (.ref f22) = true)
    (a23 : PySem.W.nsIn K mainGlobals "is_length" = some (some (.ref f23)))
    (l23 : K.lookup f23 = some ⟨oc23, od23, .func (PySem.W.fnOf "is_length" "is_length" (defArgs s_is_length) (defBody s_is_length) (defScope s_is_length) .none kV23 dc23 pm23 an23 cd23 ct23), sl23⟩)
    (c23 : PySem.W.codeIn K cd23 "is_length" = true)
    (k23 : PySem.W.keepIn K (.ref f23) = true)
    (a24 : PySem.W.nsIn K mainGlobals "are_routers" = some (some (.ref f24)))
    (l24 : K.lookup f24 = some ⟨oc24, od24, .func (PySem.W.fnOf "are_routers" "are_routers" (defArgs s_are_routers) (defBody s_are_routers) (defScope s_are_routers) .none kV24 dc24 pm24 an24 cd24 ct24), sl24⟩)
    (c24 : PySem.W.codeIn K cd24 "are_routers" = true)
    (k24 : PySem.W.keepIn K (.ref f24) = true)
    (a25 : PySem.W.nsIn K mainGlobals "are_links" = some (some (.ref f25)))
    (l25 : K.lookup f25 = some ⟨oc25, od25, .func (PySem.W.fnOf "are_links" "are_links" (defArgs s_are_links) (defBody s_are_links) (defScope s_are_links) .none kV25 dc25 pm25 an25 cd25 ct25), sl25⟩)
    (c25 : PySem.W.codeIn K cd25 "are_links" = true)
    (k25 : PySem.W.keepIn K (.ref f25) = true)
    (a26 : PySem.W.nsIn K mainGlobals "is_link" = some (some (.ref f26)))
    (l26 : K.lookup f26 = some ⟨oc26, od26, .func (PySem.W.fnOf "is_link" "is_link" (defArgs s_is_link) (defBody s_is_link) (defScope s_is_link) .none kV26 dc26 pm26 an26 cd26 ct26), sl26⟩)
    (c26 : PySem.W.codeIn K cd26 "is_link" = true)
    (k26 : PySem.W.keepIn K (.ref f26) = true)
    (a28 : PySem.W.nsIn K mainGlobals "read_net" = some (some (.ref f28)))
    (l28 : K.lookup f28 = some ⟨oc28, od28, .func (PySem.W.fnOf "read_net" "read_net" (defArgs s_read_net) (defBody s_read_net) (defScope s_read_net) .none kV28 dc28 pm28 an28 cd28 ct28), sl28⟩)
    (c28 : PySem.W.codeIn K cd28 "read_net" = true)
    (k28 : PySem.W.keepIn K (.ref f28) = true)
    (a29 : PySem.W.nsIn K mainGlobals "rows_of" = some (some (.ref f29)))
    (l29 : K.lookup f29 = some ⟨oc29, od29, .func (PySem.W.fnOf "rows_of" "rows_of" (defArgs s_rows_of) (defBody s_rows_of) (defScope s_rows_of) .none kV29 dc29 pm29 an29 cd29 ct29), sl29⟩)
    (c29 : PySem.W.codeIn K cd29 "rows_of" = true)
    (k29 : PySem.W.keepIn K (.ref f29) = true)
    (a30 : PySem.W.nsIn K mainGlobals "net_parts" = some (some (.ref f30)))
    (l30 : K.lookup f30 = some ⟨oc30, od30, .func (PySem.W.fnOf "net_parts" "net_parts" (defArgs s_net_parts) (defBody s_net_parts) (defScope s_net_parts) .none kV30 dc30 pm30 an30 cd30 ct30), sl30⟩)
    (c30 : PySem.W.codeIn K cd30 "net_parts" = true)
    (k30 : PySem.W.keepIn K (.ref f30) = true)
    (a31 : PySem.W.nsIn K mainGlobals "routers_of" = some (some (.ref f31)))
    (l31 : K.lookup f31 = some ⟨oc31, od31, .func (PySem.W.fnOf "routers_of" "routers_of" (defArgs s_routers_of) (defBody s_routers_of) (defScope s_routers_of) .none kV31 dc31 pm31 an31 cd31 ct31), sl31⟩)
    (c31 : PySem.W.codeIn K cd31 "routers_of" = true)
    (k31 : PySem.W.keepIn K (.ref f31) = true)
    (a32 : PySem.W.nsIn K mainGlobals "link_of" = some (some (.ref f32)))
    (l32 : K.lookup f32 = some ⟨oc32, od32, .func (PySem.W.fnOf "link_of" "link_of" (defArgs s_link_of) (defBody s_link_of) (defScope s_link_of) .none kV32 dc32 pm32 an32 cd32 ct32), sl32⟩)
    (c32 : PySem.W.codeIn K cd32 "link_of" = true)
    (k32 : PySem.W.keepIn K (.ref f32) = true)
    (a34 : PySem.W.nsIn K mainGlobals "_law_pot" = some (some (.ref f34)))
    (l34 : K.lookup f34 = some ⟨oc34, od34, .func (PySem.W.fnOf "_law_pot" "_law_pot" (defArgs s_l_pot) (defBody s_l_pot) (defScope s_l_pot) .none kV34 dc34 pm34 an34 cd34 ct34), sl34⟩)
    (c34 : PySem.W.codeIn K cd34 "_law_pot" = true)
    (k34 : PySem.W.keepIn K (.ref f34) = true)
    (a35 : PySem.W.nsIn K mainGlobals "_law_take" = some (some (.ref f35)))
    (l35 : K.lookup f35 = some ⟨oc35, od35, .func (PySem.W.fnOf "_law_take" "_law_take" (defArgs s_l_take) (defBody s_l_take) (defScope s_l_take) .none kV35 dc35 pm35 an35 cd35 ct35), sl35⟩)
    (c35 : PySem.W.codeIn K cd35 "_law_take" = true)
    (k35 : PySem.W.keepIn K (.ref f35) = true)
    (a36 : PySem.W.nsIn K mainGlobals "_law_pots" = some (some (.ref f36)))
    (l36 : K.lookup f36 = some ⟨oc36, od36, .func (PySem.W.fnOf "_law_pots" "_law_pots" (defArgs s_l_pots) (defBody s_l_pots) (defScope s_l_pots) .none kV36 dc36 pm36 an36 cd36 ct36), sl36⟩)
    (c36 : PySem.W.codeIn K cd36 "_law_pots" = true)
    (k36 : PySem.W.keepIn K (.ref f36) = true)
    (a37 : PySem.W.nsIn K mainGlobals "_law_of" = some (some (.ref f37)))
    (l37 : K.lookup f37 = some ⟨oc37, od37, .func (PySem.W.fnOf "_law_of" "_law_of" (defArgs s_l_of) (defBody s_l_of) (defScope s_l_of) .none kV37 dc37 pm37 an37 cd37 ct37), sl37⟩)
    (c37 : PySem.W.codeIn K cd37 "_law_of" = true)
    (k37 : PySem.W.keepIn K (.ref f37) = true)
    (a38 : PySem.W.nsIn K mainGlobals "_law_turned" = some (some (.ref f38)))
    (l38 : K.lookup f38 = some ⟨oc38, od38, .func (PySem.W.fnOf "_law_turned" "_law_turned" (defArgs s_l_turned) (defBody s_l_turned) (defScope s_l_turned) .none kV38 dc38 pm38 an38 cd38 ct38), sl38⟩)
    (c38 : PySem.W.codeIn K cd38 "_law_turned" = true)
    (k38 : PySem.W.keepIn K (.ref f38) = true)
    (a39 : PySem.W.nsIn K mainGlobals "_law_names" = some (some (.ref f39)))
    (l39 : K.lookup f39 = some ⟨oc39, od39, .func (PySem.W.fnOf "_law_names" "_law_names" (defArgs s_l_names) (defBody s_l_names) (defScope s_l_names) .none kV39 dc39 pm39 an39 cd39 ct39), sl39⟩)
    (c39 : PySem.W.codeIn K cd39 "_law_names" = true)
    (k39 : PySem.W.keepIn K (.ref f39) = true)
    (a40 : PySem.W.nsIn K mainGlobals "_law_far" = some (some (.ref f40)))
    (l40 : K.lookup f40 = some ⟨oc40, od40, .func (PySem.W.fnOf "_law_far" "_law_far" (defArgs s_l_far) (defBody s_l_far) (defScope s_l_far) .none kV40 dc40 pm40 an40 cd40 ct40), sl40⟩)
    (c40 : PySem.W.codeIn K cd40 "_law_far" = true)
    (k40 : PySem.W.keepIn K (.ref f40) = true)
    (a41 : PySem.W.nsIn K mainGlobals "_law_pairs" = some (some (.ref f41)))
    (l41 : K.lookup f41 = some ⟨oc41, od41, .func (PySem.W.fnOf "_law_pairs" "_law_pairs" (defArgs s_l_pairs) (defBody s_l_pairs) (defScope s_l_pairs) .none kV41 dc41 pm41 an41 cd41 ct41), sl41⟩)
    (c41 : PySem.W.codeIn K cd41 "_law_pairs" = true)
    (k41 : PySem.W.keepIn K (.ref f41) = true)
    (a42 : PySem.W.nsIn K mainGlobals "_law_world" = some (some (.ref f42)))
    (l42 : K.lookup f42 = some ⟨oc42, od42, .func (PySem.W.fnOf "_law_world" "_law_world" (defArgs s_l_world) (defBody s_l_world) (defScope s_l_world) .none kV42 dc42 pm42 an42 cd42 ct42), sl42⟩)
    (c42 : PySem.W.codeIn K cd42 "_law_world" = true)
    (k42 : PySem.W.keepIn K (.ref f42) = true)
    (a43 : PySem.W.nsIn K mainGlobals "_law_odd" = some (some (.ref f43)))
    (l43 : K.lookup f43 = some ⟨oc43, od43, .func (PySem.W.fnOf "_law_odd" "_law_odd" (defArgs s_l_odd) (defBody s_l_odd) (defScope s_l_odd) .none kV43 dc43 pm43 an43 cd43 ct43), sl43⟩)
    (c43 : PySem.W.codeIn K cd43 "_law_odd" = true)
    (k43 : PySem.W.keepIn K (.ref f43) = true)
    (a44 : PySem.W.nsIn K mainGlobals "_law_caught" = some (some (.ref f44)))
    (l44 : K.lookup f44 = some ⟨oc44, od44, .func (PySem.W.fnOf "_law_caught" "_law_caught" (defArgs s_l_caught) (defBody s_l_caught) (defScope s_l_caught) .none kV44 dc44 pm44 an44 cd44 ct44), sl44⟩)
    (c44 : PySem.W.codeIn K cd44 "_law_caught" = true)
    (k44 : PySem.W.keepIn K (.ref f44) = true)
    (a45 : PySem.W.nsIn K mainGlobals "_law_is_name" = some (some (.ref f45)))
    (l45 : K.lookup f45 = some ⟨oc45, od45, .func (PySem.W.fnOf "_law_is_name" "_law_is_name" (defArgs s_l_is_name) (defBody s_l_is_name) (defScope s_l_is_name) .none kV45 dc45 pm45 an45 cd45 ct45), sl45⟩)
    (c45 : PySem.W.codeIn K cd45 "_law_is_name" = true)
    (k45 : PySem.W.keepIn K (.ref f45) = true)
    (a46 : PySem.W.nsIn K mainGlobals "_law_net_page" = some (some (.ref f46)))
    (l46 : K.lookup f46 = some ⟨oc46, od46, .func (PySem.W.fnOf "_law_net_page" "_law_net_page" (defArgs s_l_net_page) (defBody s_l_net_page) (defScope s_l_net_page) .none kV46 dc46 pm46 an46 cd46 ct46), sl46⟩)
    (c46 : PySem.W.codeIn K cd46 "_law_net_page" = true)
    (k46 : PySem.W.keepIn K (.ref f46) = true)
    (a47 : PySem.W.nsIn K mainGlobals "_law_is_number" = some (some (.ref f47)))
    (l47 : K.lookup f47 = some ⟨oc47, od47, .func (PySem.W.fnOf "_law_is_number" "_law_is_number" (defArgs s_l_is_number) (defBody s_l_is_number) (defScope s_l_is_number) .none kV47 dc47 pm47 an47 cd47 ct47), sl47⟩)
    (c47 : PySem.W.codeIn K cd47 "_law_is_number" = true)
    (k47 : PySem.W.keepIn K (.ref f47) = true)
    (a48 : PySem.W.nsIn K mainGlobals "_law_link_read" = some (some (.ref f48)))
    (l48 : K.lookup f48 = some ⟨oc48, od48, .func (PySem.W.fnOf "_law_link_read" "_law_link_read" (defArgs s_l_link_read) (defBody s_l_link_read) (defScope s_l_link_read) .none kV48 dc48 pm48 an48 cd48 ct48), sl48⟩)
    (c48 : PySem.W.codeIn K cd48 "_law_link_read" = true)
    (k48 : PySem.W.keepIn K (.ref f48) = true)
    (a49 : PySem.W.nsIn K mainGlobals "_law_net_read" = some (some (.ref f49)))
    (l49 : K.lookup f49 = some ⟨oc49, od49, .func (PySem.W.fnOf "_law_net_read" "_law_net_read" (defArgs s_l_net_read) (defBody s_l_net_read) (defScope s_l_net_read) .none kV49 dc49 pm49 an49 cd49 ct49), sl49⟩)
    (c49 : PySem.W.codeIn K cd49 "_law_net_read" = true)
    (k49 : PySem.W.keepIn K (.ref f49) = true)
    (a50 : PySem.W.nsIn K mainGlobals "_law_is_world" = some (some (.ref f50)))
    (l50 : K.lookup f50 = some ⟨oc50, od50, .func (PySem.W.fnOf "_law_is_world" "_law_is_world" (defArgs s_l_is_world) (defBody s_l_is_world) (defScope s_l_is_world) .none kV50 dc50 pm50 an50 cd50 ct50), sl50⟩)
    (c50 : PySem.W.codeIn K cd50 "_law_is_world" = true)
    (k50 : PySem.W.keepIn K (.ref f50) = true)
    (a51 : PySem.W.nsIn K mainGlobals "_law_bent_page" = some (some (.ref f51)))
    (l51 : K.lookup f51 = some ⟨oc51, od51, .func (PySem.W.fnOf "_law_bent_page" "_law_bent_page" (defArgs s_l_bent_page) (defBody s_l_bent_page) (defScope s_l_bent_page) .none kV51 dc51 pm51 an51 cd51 ct51), sl51⟩)
    (c51 : PySem.W.codeIn K cd51 "_law_bent_page" = true)
    (k51 : PySem.W.keepIn K (.ref f51) = true)
    (a52 : PySem.W.nsIn K mainGlobals "_law_heard" = some (some (.ref f52)))
    (l52 : K.lookup f52 = some ⟨oc52, od52, .func (PySem.W.fnOf "_law_heard" "_law_heard" (defArgs s_l_heard) (defBody s_l_heard) (defScope s_l_heard) .none kV52 dc52 pm52 an52 (.ref cc52) ct52), sl52⟩)
    (c52 : PySem.W.codeIn K (.ref cc52) "_law_heard" = true)
    (k52 : PySem.W.keepIn K (.ref f52) = true)
    (kc52 : K.lookup cc52 = some ⟨ec52, ed52, .fields ev52, es52⟩)
    (ke52 : ev52[11]? = some (.ref T52))
    (ch52 : PySem.W.codeHdIn K cc52 T52 = true)
    (nt52 : K.lookup T52 = none)
    (a53 : PySem.W.nsIn K mainGlobals "_law_due" = some (some (.ref f53)))
    (l53 : K.lookup f53 = some ⟨oc53, od53, .func (PySem.W.fnOf "_law_due" "_law_due" (defArgs s_l_due) (defBody s_l_due) (defScope s_l_due) .none kV53 dc53 pm53 an53 cd53 ct53), sl53⟩)
    (c53 : PySem.W.codeIn K cd53 "_law_due" = true)
    (k53 : PySem.W.keepIn K (.ref f53) = true)
    (a54 : PySem.W.nsIn K mainGlobals "_law_fine" = some (some (.ref f54)))
    (l54 : K.lookup f54 = some ⟨oc54, od54, .func (PySem.W.fnOf "_law_fine" "_law_fine" (defArgs s_l_fine) (defBody s_l_fine) (defScope s_l_fine) .none kV54 dc54 pm54 an54 cd54 ct54), sl54⟩)
    (c54 : PySem.W.codeIn K cd54 "_law_fine" = true)
    (k54 : PySem.W.keepIn K (.ref f54) = true)
    (a55 : PySem.W.nsIn K mainGlobals "law" = some (some (.ref f55)))
    (l55 : K.lookup f55 = some ⟨oc55, od55, .func (PySem.W.fnOf "law" "law" (defArgs s_law) (defBody s_law) (defScope s_law) .none kV55 dc55 pm55 an55 cd55 ct55), sl55⟩)
    (c55 : PySem.W.codeIn K cd55 "law" = true)
    (k55 : PySem.W.keepIn K (.ref f55) = true)
    (aC2 : PySem.W.nsIn K mainGlobals "NetError" = some (some (.ref C2)))
    (xL2 : K.lookup C2 = some (excClassObj nm2 q2 C2 N2 bs2 [.type "ValueError", .type "Exception", .type "BaseException", .type "object"] true sn2 sub2 ab2 col2 dd2 m02 m12 m22 m32 m52 "ValueError.__new__"))
    (aC3 : PySem.W.nsIn K mainGlobals "BadNet" = some (some (.ref C3)))
    (xL3 : K.lookup C3 = some (excClassObj nm3 q3 C3 N3 bs3 [.ref C2, .type "ValueError", .type "Exception", .type "BaseException", .type "object"] true sn3 sub3 ab3 col3 dd3 m03 m13 m23 m33 m53 "ValueError.__new__"))
    (sa3 : PySem.W.findIn K (.ref C3) "__setattr__" = some (some (.builtin "object.__setattr__")))
    (ga3 : PySem.W.findIn K (.ref C3) "__getattribute__" = some (some (.builtin "BaseException.__getattribute__")))
    (gg3 : PySem.W.findIn K (.ref C3) "__getattr__" = some none)
    (hc3 : PySem.W.findIn K (.ref C3) "__class__" = some (some (.builtin "object.__class__")))
    (kC3 : PySem.W.keepIn K (.ref C3) = true)
    (ii3 : PySem.W.findIn K (.ref C3) "__init__" = some (some (.ref g3)))
    (gl3 : K.lookup g3 = some ⟨goc3, god3, .func (PySem.W.fnOf "__init__" "BadNet.__init__" (defArgs (inClass (topS 3) 0)) (defBody (inClass (topS 3) 0)) (defScope (inClass (topS 3) 0)) .none gkV3 gdc3 gpm3 gan3 gcd3 gct3), gsl3⟩)
    (gc3 : PySem.W.codeIn K gcd3 "BadNet.__init__" = true)
    (gk3 : PySem.W.keepIn K (.ref g3) = true)
    (gt3 : PySem.W.typeIn K (.ref g3) = some (.type "function"))
    (no3value : PySem.W.findIn K (.ref C3) "value" = some none)
    (aC4 : PySem.W.nsIn K mainGlobals "NoRouter" = some (some (.ref C4)))
    (xL4 : K.lookup C4 = some (excClassObj nm4 q4 C4 N4 bs4 [.ref C2, .type "ValueError", .type "Exception", .type "BaseException", .type "object"] true sn4 sub4 ab4 col4 dd4 m04 m14 m24 m34 m54 "ValueError.__new__"))
    (sa4 : PySem.W.findIn K (.ref C4) "__setattr__" = some (some (.builtin "object.__setattr__")))
    (ga4 : PySem.W.findIn K (.ref C4) "__getattribute__" = some (some (.builtin "BaseException.__getattribute__")))
    (gg4 : PySem.W.findIn K (.ref C4) "__getattr__" = some none)
    (hc4 : PySem.W.findIn K (.ref C4) "__class__" = some (some (.builtin "object.__class__")))
    (kC4 : PySem.W.keepIn K (.ref C4) = true)
    (ii4 : PySem.W.findIn K (.ref C4) "__init__" = some (some (.ref g4)))
    (gl4 : K.lookup g4 = some ⟨goc4, god4, .func (PySem.W.fnOf "__init__" "NoRouter.__init__" (defArgs (inClass (topS 4) 0)) (defBody (inClass (topS 4) 0)) (defScope (inClass (topS 4) 0)) .none gkV4 gdc4 gpm4 gan4 gcd4 gct4), gsl4⟩)
    (gc4 : PySem.W.codeIn K gcd4 "NoRouter.__init__" = true)
    (gk4 : PySem.W.keepIn K (.ref g4) = true)
    (gt4 : PySem.W.typeIn K (.ref g4) = some (.type "function"))
    (no4value : PySem.W.findIn K (.ref C4) "value" = some none)
    (aC5 : PySem.W.nsIn K mainGlobals "NoLink" = some (some (.ref C5)))
    (xL5 : K.lookup C5 = some (excClassObj nm5 q5 C5 N5 bs5 [.ref C2, .type "ValueError", .type "Exception", .type "BaseException", .type "object"] true sn5 sub5 ab5 col5 dd5 m05 m15 m25 m35 m55 "ValueError.__new__"))
    (sa5 : PySem.W.findIn K (.ref C5) "__setattr__" = some (some (.builtin "object.__setattr__")))
    (ga5 : PySem.W.findIn K (.ref C5) "__getattribute__" = some (some (.builtin "BaseException.__getattribute__")))
    (gg5 : PySem.W.findIn K (.ref C5) "__getattr__" = some none)
    (hc5 : PySem.W.findIn K (.ref C5) "__class__" = some (some (.builtin "object.__class__")))
    (kC5 : PySem.W.keepIn K (.ref C5) = true)
    (ii5 : PySem.W.findIn K (.ref C5) "__init__" = some (some (.ref g5)))
    (gl5 : K.lookup g5 = some ⟨goc5, god5, .func (PySem.W.fnOf "__init__" "NoLink.__init__" (defArgs (inClass (topS 5) 0)) (defBody (inClass (topS 5) 0)) (defScope (inClass (topS 5) 0)) .none gkV5 gdc5 gpm5 gan5 gcd5 gct5), gsl5⟩)
    (gc5 : PySem.W.codeIn K gcd5 "NoLink.__init__" = true)
    (gk5 : PySem.W.keepIn K (.ref g5) = true)
    (gt5 : PySem.W.typeIn K (.ref g5) = some (.type "function"))
    (no5value : PySem.W.findIn K (.ref C5) "value" = some none)
    (aC6 : PySem.W.nsIn K mainGlobals "BadText" = some (some (.ref C6)))
    (xL6 : K.lookup C6 = some (excClassObj nm6 q6 C6 N6 bs6 [.ref C2, .type "ValueError", .type "Exception", .type "BaseException", .type "object"] true sn6 sub6 ab6 col6 dd6 m06 m16 m26 m36 m56 "ValueError.__new__"))
    (sa6 : PySem.W.findIn K (.ref C6) "__setattr__" = some (some (.builtin "object.__setattr__")))
    (ga6 : PySem.W.findIn K (.ref C6) "__getattribute__" = some (some (.builtin "BaseException.__getattribute__")))
    (gg6 : PySem.W.findIn K (.ref C6) "__getattr__" = some none)
    (hc6 : PySem.W.findIn K (.ref C6) "__class__" = some (some (.builtin "object.__class__")))
    (kC6 : PySem.W.keepIn K (.ref C6) = true)
    (ii6 : PySem.W.findIn K (.ref C6) "__init__" = some (some (.ref g6)))
    (gl6 : K.lookup g6 = some ⟨goc6, god6, .func (PySem.W.fnOf "__init__" "BadText.__init__" (defArgs (inClass (topS 6) 0)) (defBody (inClass (topS 6) 0)) (defScope (inClass (topS 6) 0)) .none gkV6 gdc6 gpm6 gan6 gcd6 gct6), gsl6⟩)
    (gc6 : PySem.W.codeIn K gcd6 "BadText.__init__" = true)
    (gk6 : PySem.W.keepIn K (.ref g6) = true)
    (gt6 : PySem.W.typeIn K (.ref g6) = some (.type "function"))
    (no6value : PySem.W.findIn K (.ref C6) "value" = some none)
    (aN : PySem.W.nsIn K mainGlobals "Net" = some (some (.ref CN)))
    (pg : PySem.W.plainGet K CN Str.empty = true)
    (hd : PySem.W.hasDictIn K CN = true)
    (po : PySem.W.plainOver K CN = true)
    (sN : PySem.W.findIn K (.ref CN) "__setattr__" = some (some (.builtin "object.__setattr__")))
    (mk : PySem.W.makesIn K CN = true)
    (kN : PySem.W.keepIn K (.ref CN) = true)
    (nf_routers : PySem.W.findIn K (.ref CN) "_routers" = some none)
    (nf_links : PySem.W.findIn K (.ref CN) "_links" = some none)
    (a100 : PySem.W.findIn K (.ref CN) "__init__" = some (some (.ref f100)))
    (i100 : PySem.W.isFn K (.ref f100) = true)
    (l100 : K.lookup f100 = some ⟨oc100, od100, .func (PySem.W.fnOf "__init__" "Net.__init__" (defArgs s_m_init) (defBody s_m_init) (defScope s_m_init) .none kV100 dc100 pm100 an100 cd100 ct100), sl100⟩)
    (c100 : PySem.W.codeIn K cd100 "Net.__init__" = true)
    (k100 : PySem.W.keepIn K (.ref f100) = true)
    (pa101 : PySem.W.findIn K (.ref CN) "routers" = some (some (.ref pp101)))
    (pb101 : PySem.W.specialIn K (.ref pp101) "__get__" = some (some (.builtin "property.__get__")))
    (pc101 : PySem.W.takesIn K (.ref pp101) = some true)
    (pd101 : PySem.W.recIn K pp101 "property" = some (.ref f101 :: pr101))
    (l101 : K.lookup f101 = some ⟨oc101, od101, .func (PySem.W.fnOf "routers" "Net.routers" (defArgs s_m_routers) (defBody s_m_routers) (defScope s_m_routers) .none kV101 dc101 pm101 an101 cd101 ct101), sl101⟩)
    (c101 : PySem.W.codeIn K cd101 "Net.routers" = true)
    (k101 : PySem.W.keepIn K (.ref f101) = true)
    (pa102 : PySem.W.findIn K (.ref CN) "links" = some (some (.ref pp102)))
    (pb102 : PySem.W.specialIn K (.ref pp102) "__get__" = some (some (.builtin "property.__get__")))
    (pc102 : PySem.W.takesIn K (.ref pp102) = some true)
    (pd102 : PySem.W.recIn K pp102 "property" = some (.ref f102 :: pr102))
    (l102 : K.lookup f102 = some ⟨oc102, od102, .func (PySem.W.fnOf "links" "Net.links" (defArgs s_m_links) (defBody s_m_links) (defScope s_m_links) .none kV102 dc102 pm102 an102 cd102 ct102), sl102⟩)
    (c102 : PySem.W.codeIn K cd102 "Net.links" = true)
    (k102 : PySem.W.keepIn K (.ref f102) = true)
    (a103 : PySem.W.findIn K (.ref CN) "__eq__" = some (some (.ref f103)))
    (i103 : PySem.W.isFn K (.ref f103) = true)
    (l103 : K.lookup f103 = some ⟨oc103, od103, .func (PySem.W.fnOf "__eq__" "Net.__eq__" (defArgs s_m_u_eq_) (defBody s_m_u_eq_) (defScope s_m_u_eq_) .none kV103 dc103 pm103 an103 cd103 ct103), sl103⟩)
    (c103 : PySem.W.codeIn K cd103 "Net.__eq__" = true)
    (k103 : PySem.W.keepIn K (.ref f103) = true)
    (eN : PySem.W.findIn K (.ref CN) "__ne__" = some (some (.builtin "object.__ne__")))
    (eO : PySem.W.mroIn K CN (.type "object") = some true)
    (eH : PySem.W.findIn K (.ref CN) "__class__" = some (some (.builtin "object.__class__")))
    (eJ : PySem.W.typeIn K (.ref CN) = some (.type "type"))
    (a104 : PySem.W.findIn K (.ref CN) "length" = some (some (.ref f104)))
    (i104 : PySem.W.isFn K (.ref f104) = true)
    (l104 : K.lookup f104 = some ⟨oc104, od104, .func (PySem.W.fnOf "length" "Net.length" (defArgs s_m_length) (defBody s_m_length) (defScope s_m_length) .none kV104 dc104 pm104 an104 cd104 ct104), sl104⟩)
    (c104 : PySem.W.codeIn K cd104 "Net.length" = true)
    (k104 : PySem.W.keepIn K (.ref f104) = true)
    (a105 : PySem.W.findIn K (.ref CN) "with_link" = some (some (.ref f105)))
    (i105 : PySem.W.isFn K (.ref f105) = true)
    (l105 : K.lookup f105 = some ⟨oc105, od105, .func (PySem.W.fnOf "with_link" "Net.with_link" (defArgs s_m_with_link) (defBody s_m_with_link) (defScope s_m_with_link) .none kV105 dc105 pm105 an105 cd105 ct105), sl105⟩)
    (c105 : PySem.W.codeIn K cd105 "Net.with_link" = true)
    (k105 : PySem.W.keepIn K (.ref f105) = true)
    (a106 : PySem.W.findIn K (.ref CN) "without" = some (some (.ref f106)))
    (i106 : PySem.W.isFn K (.ref f106) = true)
    (l106 : K.lookup f106 = some ⟨oc106, od106, .func (PySem.W.fnOf "without" "Net.without" (defArgs s_m_without) (defBody s_m_without) (defScope s_m_without) .none kV106 dc106 pm106 an106 cd106 ct106), sl106⟩)
    (c106 : PySem.W.codeIn K cd106 "Net.without" = true)
    (k106 : PySem.W.keepIn K (.ref f106) = true)
    (a107 : PySem.W.findIn K (.ref CN) "_links_without" = some (some (.ref f107)))
    (i107 : PySem.W.isFn K (.ref f107) = true)
    (l107 : K.lookup f107 = some ⟨oc107, od107, .func (PySem.W.fnOf "_links_without" "Net._links_without" (defArgs s_m_u_links_without) (defBody s_m_u_links_without) (defScope s_m_u_links_without) .none kV107 dc107 pm107 an107 cd107 ct107), sl107⟩)
    (c107 : PySem.W.codeIn K cd107 "Net._links_without" = true)
    (k107 : PySem.W.keepIn K (.ref f107) = true)
    (zabs : PySem.W.nsIn K mainGlobals "abs" = some none)
    (zall : PySem.W.nsIn K mainGlobals "all" = some none)
    (zany : PySem.W.nsIn K mainGlobals "any" = some none)
    (zbool : PySem.W.nsIn K mainGlobals "bool" = some none)
    (zenumerate : PySem.W.nsIn K mainGlobals "enumerate" = some none)
    (zint : PySem.W.nsIn K mainGlobals "int" = some none)
    (zisinstance : PySem.W.nsIn K mainGlobals "isinstance" = some none)
    (zlen : PySem.W.nsIn K mainGlobals "len" = some none)
    (zlist : PySem.W.nsIn K mainGlobals "list" = some none)
    (zmax : PySem.W.nsIn K mainGlobals "max" = some none)
    (zmin : PySem.W.nsIn K mainGlobals "min" = some none)
    (zrange : PySem.W.nsIn K mainGlobals "range" = some none)
    (zrepr : PySem.W.nsIn K mainGlobals "repr" = some none)
    (zset : PySem.W.nsIn K mainGlobals "set" = some none)
    (zsorted : PySem.W.nsIn K mainGlobals "sorted" = some none)
    (zstr : PySem.W.nsIn K mainGlobals "str" = some none)
    (ztuple : PySem.W.nsIn K mainGlobals "tuple" = some none)
    (zzip : PySem.W.nsIn K mainGlobals "zip" = some none)
    (vLONGEST_NAME : PySem.W.nsIn K mainGlobals "LONGEST_NAME" = some (some (.int 8 tLONGEST_NAME)))
    (vMOST_DIGITS : PySem.W.nsIn K mainGlobals "MOST_DIGITS" = some (some (.int 9 tMOST_DIGITS)))
    (vFEWEST_ROUTERS : PySem.W.nsIn K mainGlobals "FEWEST_ROUTERS" = some (some (.int 2 tFEWEST_ROUTERS)))
    (vMOST_ROUTERS : PySem.W.nsIn K mainGlobals "MOST_ROUTERS" = some (some (.int 8 tMOST_ROUTERS)))
    (vMOST_LINKS : PySem.W.nsIn K mainGlobals "MOST_LINKS" = some (some (.int 16 tMOST_LINKS)))
    (inj : ([C2, C3, C4, C5, C6] : List Addr).Nodup)
    (hn : PySem.W.specialIn K (.builtin "object.__class__") "__get__" = some (some (.builtin "getset_descriptor.__get__")))
    (ht : PySem.W.takesIn K (.builtin "object.__class__") = some true) :
    ∃ (fd : FuncData) (c1 P1 c2 P2 : Addr), OneTab K mg "_law_heard" c1 P1 ∧ OneTab K mg "_law_heard" c2 P2 ∧ (∀ (s : Shared) (v : Value), BindsTo s fd ⟨[v], []⟩ [("_law_script", v)]) ∧
      ∀ base : Heap, K.In base → base.Ns mainGlobals mg → LamX.TabB base mg c1 P1 → LamX.TabB base mg c2 P2 → FnG P w K mg base CX0 17 fl fd ["_law_script"] (spLaw P1 P2 K) := by
  have e := hfl.symm.trans (PySem.W.mg_of X G a55)
  obtain rfl : f55 = fl := by
    injection e with e
    injection e with e
    exact e.symm
  let dF : FuncData := (PySem.W.fnOf "law" "law" (defArgs s_law) (defBody s_law) (defScope s_law) .none kV55 dc55 pm55 an55 cd55 ct55)
  have T : Txt K mg (fun i => ([0, 0, C2, C3, C4, C5, C6, 0, 0, 0, 0, 0, 0, 0, 0, 0, 0, 0, 0, 0, CN] : List Addr).getD i 0) (fun i => ([0, 0, 0, g3, g4, g5, g6, 0, 0, 0, 0, 0, 0, 0, 0, 0, 0, 0, 0, 0, 0, 0, 0, 0, 0, 0, 0, 0, 0, 0, 0, 0, 0, 0, 0, 0, 0, 0, 0, 0, 0, 0, 0, 0, 0, 0, 0, 0, 0, 0, 0, 0, 0, 0, 0, 0, 0, 0, 0, 0, 0, 0, 0, 0, 0, 0, 0, 0, 0, 0, 0, 0, 0, 0, 0, 0, 0, 0, 0, 0, 0, 0, 0, 0, 0, 0, 0, 0, 0, 0, 0, 0, 0, 0, 0, 0, 0, 0, 0, 0, f100, f101, f102, f103, f104, f105, f106, f107] : List Addr).getD i 0) (fun i => ([f0, 0, 0, 0, 0, 0, 0, 0, 0, f9, f10, f11, f12, 0, 0, f15, 0, 0, 0, 0, 0, f21, f22, f23, f24, f25, f26, 0, f28, f29, f30, f31, f32, 0, f34, f35, f36, f37, f38, f39, f40, f41, f42, f43, f44, f45, f46, f47, f48, f49, f50, f51, f52, f53, f54, f55] : List Addr).getD i 0) (fun i => ([(PySem.W.fnOf "_wall" "_wall" (defArgs s__wall) (defBody s__wall) (defScope s__wall) .none kV0 dc0 pm0 an0 cd0 ct0), (PySem.W.fnOf "law" "law" (defArgs s_law) (defBody s_law) (defScope s_law) .none kV55 dc55 pm55 an55 cd55 ct55), (PySem.W.fnOf "law" "law" (defArgs s_law) (defBody s_law) (defScope s_law) .none kV55 dc55 pm55 an55 cd55 ct55), (PySem.W.fnOf "law" "law" (defArgs s_law) (defBody s_law) (defScope s_law) .none kV55 dc55 pm55 an55 cd55 ct55), (PySem.W.fnOf "law" "law" (defArgs s_law) (defBody s_law) (defScope s_law) .none kV55 dc55 pm55 an55 cd55 ct55), (PySem.W.fnOf "law" "law" (defArgs s_law) (defBody s_law) (defScope s_law) .none kV55 dc55 pm55 an55 cd55 ct55), (PySem.W.fnOf "law" "law" (defArgs s_law) (defBody s_law) (defScope s_law) .none kV55 dc55 pm55 an55 cd55 ct55), (PySem.W.fnOf "law" "law" (defArgs s_law) (defBody s_law) (defScope s_law) .none kV55 dc55 pm55 an55 cd55 ct55), (PySem.W.fnOf "law" "law" (defArgs s_law) (defBody s_law) (defScope s_law) .none kV55 dc55 pm55 an55 cd55 ct55), (PySem.W.fnOf "is_integer" "is_integer" (defArgs s_is_integer) (defBody s_is_integer) (defScope s_is_integer) .none kV9 dc9 pm9 an9 cd9 ct9), (PySem.W.fnOf "is_integer_from" "is_integer_from" (defArgs s_is_integer_from) (defBody s_is_integer_from) (defScope s_is_integer_from) .none kV10 dc10 pm10 an10 cd10 ct10), (PySem.W.fnOf "is_name" "is_name" (defArgs s_is_name) (defBody s_is_name) (defScope s_is_name) .none kV11 dc11 pm11 an11 cd11 ct11), (PySem.W.fnOf "is_rising" "is_rising" (defArgs s_is_rising) (defBody s_is_rising) (defScope s_is_rising) .none kV12 dc12 pm12 an12 cd12 ct12), (PySem.W.fnOf "law" "law" (defArgs s_law) (defBody s_law) (defScope s_law) .none kV55 dc55 pm55 an55 cd55 ct55), (PySem.W.fnOf "law" "law" (defArgs s_law) (defBody s_law) (defScope s_law) .none kV55 dc55 pm55 an55 cd55 ct55), (PySem.W.fnOf "number_of" "number_of" (defArgs s_number_of) (defBody s_number_of) (defScope s_number_of) .none kV15 dc15 pm15 an15 cd15 ct15), (PySem.W.fnOf "law" "law" (defArgs s_law) (defBody s_law) (defScope s_law) .none kV55 dc55 pm55 an55 cd55 ct55), (PySem.W.fnOf "law" "law" (defArgs s_law) (defBody s_law) (defScope s_law) .none kV55 dc55 pm55 an55 cd55 ct55), (PySem.W.fnOf "law" "law" (defArgs s_law) (defBody s_law) (defScope s_law) .none kV55 dc55 pm55 an55 cd55 ct55), (PySem.W.fnOf "law" "law" (defArgs s_law) (defBody s_law) (defScope s_law) .none kV55 dc55 pm55 an55 cd55 ct55), (PySem.W.fnOf "law" "law" (defArgs s_law) (defBody s_law) (defScope s_law) .none kV55 dc55 pm55 an55 cd55 ct55), (PySem.W.fnOf "need_routers" "need_routers" (defArgs s_need_routers) (defBody s_need_routers) (defScope s_need_routers) .none kV21 dc21 pm21 an21 cd21 ct21), (PySem.W.fnOf "need_router" "need_router" (defArgs s_need_router) (defBody s_need_router) (defScope s_need_router) .none kV22 dc22 pm22 an22 cd22 ct22), (PySem.W.fnOf "is_length" "is_length" (defArgs s_is_length) (defBody s_is_length) (defScope s_is_length) .none kV23 dc23 pm23 an23 cd23 ct23), (PySem.W.fnOf "are_routers" "are_routers" (defArgs s_are_routers) (defBody s_are_routers) (defScope s_are_routers) .none kV24 dc24 pm24 an24 cd24 ct24), (PySem.W.fnOf "are_links" "are_links" (defArgs s_are_links) (defBody s_are_links) (defScope s_are_links) .none kV25 dc25 pm25 an25 cd25 ct25), (PySem.W.fnOf "is_link" "is_link" (defArgs s_is_link) (defBody s_is_link) (defScope s_is_link) .none kV26 dc26 pm26 an26 cd26 ct26), (PySem.W.fnOf "law" "law" (defArgs s_law) (defBody s_law) (defScope s_law) .none kV55 dc55 pm55 an55 cd55 ct55), (PySem.W.fnOf "read_net" "read_net" (defArgs s_read_net) (defBody s_read_net) (defScope s_read_net) .none kV28 dc28 pm28 an28 cd28 ct28), (PySem.W.fnOf "rows_of" "rows_of" (defArgs s_rows_of) (defBody s_rows_of) (defScope s_rows_of) .none kV29 dc29 pm29 an29 cd29 ct29), (PySem.W.fnOf "net_parts" "net_parts" (defArgs s_net_parts) (defBody s_net_parts) (defScope s_net_parts) .none kV30 dc30 pm30 an30 cd30 ct30), (PySem.W.fnOf "routers_of" "routers_of" (defArgs s_routers_of) (defBody s_routers_of) (defScope s_routers_of) .none kV31 dc31 pm31 an31 cd31 ct31), (PySem.W.fnOf "link_of" "link_of" (defArgs s_link_of) (defBody s_link_of) (defScope s_link_of) .none kV32 dc32 pm32 an32 cd32 ct32), (PySem.W.fnOf "law" "law" (defArgs s_law) (defBody s_law) (defScope s_law) .none kV55 dc55 pm55 an55 cd55 ct55), (PySem.W.fnOf "_law_pot" "_law_pot" (defArgs s_l_pot) (defBody s_l_pot) (defScope s_l_pot) .none kV34 dc34 pm34 an34 cd34 ct34), (PySem.W.fnOf "_law_take" "_law_take" (defArgs s_l_take) (defBody s_l_take) (defScope s_l_take) .none kV35 dc35 pm35 an35 cd35 ct35), (PySem.W.fnOf "_law_pots" "_law_pots" (defArgs s_l_pots) (defBody s_l_pots) (defScope s_l_pots) .none kV36 dc36 pm36 an36 cd36 ct36), (PySem.W.fnOf "_law_of" "_law_of" (defArgs s_l_of) (defBody s_l_of) (defScope s_l_of) .none kV37 dc37 pm37 an37 cd37 ct37), (PySem.W.fnOf "_law_turned" "_law_turned" (defArgs s_l_turned) (defBody s_l_turned) (defScope s_l_turned) .none kV38 dc38 pm38 an38 cd38 ct38), (PySem.W.fnOf "_law_names" "_law_names" (defArgs s_l_names) (defBody s_l_names) (defScope s_l_names) .none kV39 dc39 pm39 an39 cd39 ct39), (PySem.W.fnOf "_law_far" "_law_far" (defArgs s_l_far) (defBody s_l_far) (defScope s_l_far) .none kV40 dc40 pm40 an40 cd40 ct40), (PySem.W.fnOf "_law_pairs" "_law_pairs" (defArgs s_l_pairs) (defBody s_l_pairs) (defScope s_l_pairs) .none kV41 dc41 pm41 an41 cd41 ct41), (PySem.W.fnOf "_law_world" "_law_world" (defArgs s_l_world) (defBody s_l_world) (defScope s_l_world) .none kV42 dc42 pm42 an42 cd42 ct42), (PySem.W.fnOf "_law_odd" "_law_odd" (defArgs s_l_odd) (defBody s_l_odd) (defScope s_l_odd) .none kV43 dc43 pm43 an43 cd43 ct43), (PySem.W.fnOf "_law_caught" "_law_caught" (defArgs s_l_caught) (defBody s_l_caught) (defScope s_l_caught) .none kV44 dc44 pm44 an44 cd44 ct44), (PySem.W.fnOf "_law_is_name" "_law_is_name" (defArgs s_l_is_name) (defBody s_l_is_name) (defScope s_l_is_name) .none kV45 dc45 pm45 an45 cd45 ct45), (PySem.W.fnOf "_law_net_page" "_law_net_page" (defArgs s_l_net_page) (defBody s_l_net_page) (defScope s_l_net_page) .none kV46 dc46 pm46 an46 cd46 ct46), (PySem.W.fnOf "_law_is_number" "_law_is_number" (defArgs s_l_is_number) (defBody s_l_is_number) (defScope s_l_is_number) .none kV47 dc47 pm47 an47 cd47 ct47), (PySem.W.fnOf "_law_link_read" "_law_link_read" (defArgs s_l_link_read) (defBody s_l_link_read) (defScope s_l_link_read) .none kV48 dc48 pm48 an48 cd48 ct48), (PySem.W.fnOf "_law_net_read" "_law_net_read" (defArgs s_l_net_read) (defBody s_l_net_read) (defScope s_l_net_read) .none kV49 dc49 pm49 an49 cd49 ct49), (PySem.W.fnOf "_law_is_world" "_law_is_world" (defArgs s_l_is_world) (defBody s_l_is_world) (defScope s_l_is_world) .none kV50 dc50 pm50 an50 cd50 ct50), (PySem.W.fnOf "_law_bent_page" "_law_bent_page" (defArgs s_l_bent_page) (defBody s_l_bent_page) (defScope s_l_bent_page) .none kV51 dc51 pm51 an51 cd51 ct51), (PySem.W.fnOf "_law_heard" "_law_heard" (defArgs s_l_heard) (defBody s_l_heard) (defScope s_l_heard) .none kV52 dc52 pm52 an52 (.ref cc52) ct52), (PySem.W.fnOf "_law_due" "_law_due" (defArgs s_l_due) (defBody s_l_due) (defScope s_l_due) .none kV53 dc53 pm53 an53 cd53 ct53), (PySem.W.fnOf "_law_fine" "_law_fine" (defArgs s_l_fine) (defBody s_l_fine) (defScope s_l_fine) .none kV54 dc54 pm54 an54 cd54 ct54), (PySem.W.fnOf "law" "law" (defArgs s_law) (defBody s_law) (defScope s_law) .none kV55 dc55 pm55 an55 cd55 ct55)] : List FuncData).getD i (PySem.W.fnOf "law" "law" (defArgs s_law) (defBody s_law) (defScope s_law) .none kV55 dc55 pm55 an55 cd55 ct55)) (fun i => ([dF, dF, dF, (PySem.W.fnOf "__init__" "BadNet.__init__" (defArgs (inClass (topS 3) 0)) (defBody (inClass (topS 3) 0)) (defScope (inClass (topS 3) 0)) .none gkV3 gdc3 gpm3 gan3 gcd3 gct3), (PySem.W.fnOf "__init__" "NoRouter.__init__" (defArgs (inClass (topS 4) 0)) (defBody (inClass (topS 4) 0)) (defScope (inClass (topS 4) 0)) .none gkV4 gdc4 gpm4 gan4 gcd4 gct4), (PySem.W.fnOf "__init__" "NoLink.__init__" (defArgs (inClass (topS 5) 0)) (defBody (inClass (topS 5) 0)) (defScope (inClass (topS 5) 0)) .none gkV5 gdc5 gpm5 gan5 gcd5 gct5), (PySem.W.fnOf "__init__" "BadText.__init__" (defArgs (inClass (topS 6) 0)) (defBody (inClass (topS 6) 0)) (defScope (inClass (topS 6) 0)) .none gkV6 gdc6 gpm6 gan6 gcd6 gct6), dF, dF, dF, dF, dF, dF, dF, dF, dF, dF, dF, dF, dF, dF, dF, dF, dF, dF, dF, dF, dF, dF, dF, dF, dF, dF, dF, dF, dF, dF, dF, dF, dF, dF, dF, dF, dF, dF, dF, dF, dF, dF, dF, dF, dF, dF, dF, dF, dF, dF, dF, dF, dF, dF, dF, dF, dF, dF, dF, dF, dF, dF, dF, dF, dF, dF, dF, dF, dF, dF, dF, dF, dF, dF, dF, dF, dF, dF, dF, dF, dF, dF, dF, dF, dF, dF, dF, dF, dF, dF, dF, dF, dF, (PySem.W.fnOf "__init__" "Net.__init__" (defArgs s_m_init) (defBody s_m_init) (defScope s_m_init) .none kV100 dc100 pm100 an100 cd100 ct100), (PySem.W.fnOf "routers" "Net.routers" (defArgs s_m_routers) (defBody s_m_routers) (defScope s_m_routers) .none kV101 dc101 pm101 an101 cd101 ct101), (PySem.W.fnOf "links" "Net.links" (defArgs s_m_links) (defBody s_m_links) (defScope s_m_links) .none kV102 dc102 pm102 an102 cd102 ct102), (PySem.W.fnOf "__eq__" "Net.__eq__" (defArgs s_m_u_eq_) (defBody s_m_u_eq_) (defScope s_m_u_eq_) .none kV103 dc103 pm103 an103 cd103 ct103), (PySem.W.fnOf "length" "Net.length" (defArgs s_m_length) (defBody s_m_length) (defScope s_m_length) .none kV104 dc104 pm104 an104 cd104 ct104), (PySem.W.fnOf "with_link" "Net.with_link" (defArgs s_m_with_link) (defBody s_m_with_link) (defScope s_m_with_link) .none kV105 dc105 pm105 an105 cd105 ct105), (PySem.W.fnOf "without" "Net.without" (defArgs s_m_without) (defBody s_m_without) (defScope s_m_without) .none kV106 dc106 pm106 an106 cd106 ct106), (PySem.W.fnOf "_links_without" "Net._links_without" (defArgs s_m_u_links_without) (defBody s_m_u_links_without) (defScope s_m_u_links_without) .none kV107 dc107 pm107 an107 cd107 ct107)] : List FuncData).getD i dF) :=
    { F__wall := fun_mk (st := s__wall) l0 c0 k0
      g__wall := PySem.W.mg_of X G a0
      F_is_integer := fun_mk (st := s_is_integer) l9 c9 k9
      g_is_integer := PySem.W.mg_of X G a9
      F_is_integer_from := fun_mk (st := s_is_integer_from) l10 c10 k10
      g_is_integer_from := PySem.W.mg_of X G a10
      F_is_name := fun_mk (st := s_is_name) l11 c11 k11
      g_is_name := PySem.W.mg_of X G a11
      F_is_rising := fun_mk (st := s_is_rising) l12 c12 k12
      g_is_rising := PySem.W.mg_of X G a12
      F_number_of := fun_mk (st := s_number_of) l15 c15 k15
      g_number_of := PySem.W.mg_of X G a15
      F_need_routers := fun_mk (st := s_need_routers) l21 c21 k21
      g_need_routers := PySem.W.mg_of X G a21
      F_need_router := fun_mk (st := s_need_router) l22 c22 k22
      g_need_router := PySem.W.mg_of X G a22
      F_is_length := fun_mk (st := s_is_length) l23 c23 k23
      g_is_length := PySem.W.mg_of X G a23
      F_are_routers := fun_mk (st := s_are_routers) l24 c24 k24
      g_are_routers := PySem.W.mg_of X G a24
      F_are_links := fun_mk (st := s_are_links) l25 c25 k25
      g_are_links := PySem.W.mg_of X G a25
      F_is_link := fun_mk (st := s_is_link) l26 c26 k26
      g_is_link := PySem.W.mg_of X G a26
      F_read_net := fun_mk (st := s_read_net) l28 c28 k28
      g_read_net := PySem.W.mg_of X G a28
      F_rows_of := fun_mk (st := s_rows_of) l29 c29 k29
      g_rows_of := PySem.W.mg_of X G a29
      F_net_parts := fun_mk (st := s_net_parts) l30 c30 k30
      g_net_parts := PySem.W.mg_of X G a30
      F_routers_of := fun_mk (st := s_routers_of) l31 c31 k31
      g_routers_of := PySem.W.mg_of X G a31
      F_link_of := fun_mk (st := s_link_of) l32 c32 k32
      g_link_of := PySem.W.mg_of X G a32
      F_l_pot := fun_mk (st := s_l_pot) l34 c34 k34
      g_l_pot := PySem.W.mg_of X G a34
      F_l_take := fun_mk (st := s_l_take) l35 c35 k35
      g_l_take := PySem.W.mg_of X G a35
      F_l_pots := fun_mk (st := s_l_pots) l36 c36 k36
      g_l_pots := PySem.W.mg_of X G a36
      F_l_of := fun_mk (st := s_l_of) l37 c37 k37
      g_l_of := PySem.W.mg_of X G a37
      F_l_turned := fun_mk (st := s_l_turned) l38 c38 k38
      g_l_turned := PySem.W.mg_of X G a38
      F_l_names := fun_mk (st := s_l_names) l39 c39 k39
      g_l_names := PySem.W.mg_of X G a39
      F_l_far := fun_mk (st := s_l_far) l40 c40 k40
      g_l_far := PySem.W.mg_of X G a40
      F_l_pairs := fun_mk (st := s_l_pairs) l41 c41 k41
      g_l_pairs := PySem.W.mg_of X G a41
      F_l_world := fun_mk (st := s_l_world) l42 c42 k42
      g_l_world := PySem.W.mg_of X G a42
      F_l_odd := fun_mk (st := s_l_odd) l43 c43 k43
      g_l_odd := PySem.W.mg_of X G a43
      F_l_caught := fun_mk (st := s_l_caught) l44 c44 k44
      g_l_caught := PySem.W.mg_of X G a44
      F_l_is_name := fun_mk (st := s_l_is_name) l45 c45 k45
      g_l_is_name := PySem.W.mg_of X G a45
      F_l_net_page := fun_mk (st := s_l_net_page) l46 c46 k46
      g_l_net_page := PySem.W.mg_of X G a46
      F_l_is_number := fun_mk (st := s_l_is_number) l47 c47 k47
      g_l_is_number := PySem.W.mg_of X G a47
      F_l_link_read := fun_mk (st := s_l_link_read) l48 c48 k48
      g_l_link_read := PySem.W.mg_of X G a48
      F_l_net_read := fun_mk (st := s_l_net_read) l49 c49 k49
      g_l_net_read := PySem.W.mg_of X G a49
      F_l_is_world := fun_mk (st := s_l_is_world) l50 c50 k50
      g_l_is_world := PySem.W.mg_of X G a50
      F_l_bent_page := fun_mk (st := s_l_bent_page) l51 c51 k51
      g_l_bent_page := PySem.W.mg_of X G a51
      F_l_heard := fun_mk (st := s_l_heard) l52 c52 k52
      g_l_heard := PySem.W.mg_of X G a52
      F_l_due := fun_mk (st := s_l_due) l53 c53 k53
      g_l_due := PySem.W.mg_of X G a53
      F_l_fine := fun_mk (st := s_l_fine) l54 c54 k54
      g_l_fine := PySem.W.mg_of X G a54
      F_law := fun_mk (st := s_law) l55 c55 k55
      g_law := PySem.W.mg_of X G a55
      cN := ⟨PySem.W.mg_of X G aC2, ⟨_, _, _, _, _, _, _, _, _, _, _, _, _, _, xL2⟩⟩
      c_BadNet := ⟨PySem.W.mg_of X G aC3, ⟨_, _, _, _, _, _, _, _, _, _, _, _, _, _, xL3⟩, sa3, ga3, gg3, hc3, kC3⟩
      FI_BadNet := fun_mk (st := inClass (topS 3) 0) gl3 gc3 gk3
      iC_BadNet := ii3
      tI_BadNet := gt3
      no_BadNet_value := no3value
      c_NoRouter := ⟨PySem.W.mg_of X G aC4, ⟨_, _, _, _, _, _, _, _, _, _, _, _, _, _, xL4⟩, sa4, ga4, gg4, hc4, kC4⟩
      FI_NoRouter := fun_mk (st := inClass (topS 4) 0) gl4 gc4 gk4
      iC_NoRouter := ii4
      tI_NoRouter := gt4
      no_NoRouter_value := no4value
      c_NoLink := ⟨PySem.W.mg_of X G aC5, ⟨_, _, _, _, _, _, _, _, _, _, _, _, _, _, xL5⟩, sa5, ga5, gg5, hc5, kC5⟩
      FI_NoLink := fun_mk (st := inClass (topS 5) 0) gl5 gc5 gk5
      iC_NoLink := ii5
      tI_NoLink := gt5
      no_NoLink_value := no5value
      c_BadText := ⟨PySem.W.mg_of X G aC6, ⟨_, _, _, _, _, _, _, _, _, _, _, _, _, _, xL6⟩, sa6, ga6, gg6, hc6, kC6⟩
      FI_BadText := fun_mk (st := inClass (topS 6) 0) gl6 gc6 gk6
      iC_BadText := ii6
      tI_BadText := gt6
      no_BadText_value := no6value
      g_Net := PySem.W.mg_of X G aN
      cl_Net := ⟨pg, hd, po, sN⟩
      no_Net_routers := nf_routers
      no_Net_links := nf_links
      F_m_init := fun_mk (st := s_m_init) l100 c100 k100
      M_Net := ⟨mk, a100, i100, kN⟩
      P_routers := ⟨pp101, pa101, pb101, pc101, pr101, pd101⟩
      F_m_routers := fun_mk (st := s_m_routers) l101 c101 k101
      P_links := ⟨pp102, pa102, pb102, pc102, pr102, pd102⟩
      F_m_links := fun_mk (st := s_m_links) l102 c102 k102
      F_m_u_eq_ := fun_mk (st := s_m_u_eq_) l103 c103 k103
      E_Net := ⟨a103, i103⟩
      N_Net := eN
      O_Net := eO
      H_Net := eH
      I_Net := eJ
      F_m_length := fun_mk (st := s_m_length) l104 c104 k104
      Me_m_length := ⟨a104, i104, k104⟩
      F_m_with_link := fun_mk (st := s_m_with_link) l105 c105 k105
      F_m_without := fun_mk (st := s_m_without) l106 c106 k106
      Me_m_without := ⟨a106, i106, k106⟩
      F_m_u_links_without := fun_mk (st := s_m_u_links_without) l107 c107 k107
      Me_m_u_links_without := ⟨a107, i107, k107⟩
      n_abs := PySem.W.mg_none_of X G zabs
      n_all := PySem.W.mg_none_of X G zall
      n_any := PySem.W.mg_none_of X G zany
      n_bool := PySem.W.mg_none_of X G zbool
      n_enumerate := PySem.W.mg_none_of X G zenumerate
      n_int := PySem.W.mg_none_of X G zint
      n_isinstance := PySem.W.mg_none_of X G zisinstance
      n_len := PySem.W.mg_none_of X G zlen
      n_list := PySem.W.mg_none_of X G zlist
      n_max := PySem.W.mg_none_of X G zmax
      n_min := PySem.W.mg_none_of X G zmin
      n_range := PySem.W.mg_none_of X G zrange
      n_repr := PySem.W.mg_none_of X G zrepr
      n_set := PySem.W.mg_none_of X G zset
      n_sorted := PySem.W.mg_none_of X G zsorted
      n_str := PySem.W.mg_none_of X G zstr
      n_tuple := PySem.W.mg_none_of X G ztuple
      n_zip := PySem.W.mg_none_of X G zzip
      v_LONGEST_NAME := ⟨tLONGEST_NAME, PySem.W.mg_of X G vLONGEST_NAME⟩
      v_MOST_DIGITS := ⟨tMOST_DIGITS, PySem.W.mg_of X G vMOST_DIGITS⟩
      v_FEWEST_ROUTERS := ⟨tFEWEST_ROUTERS, PySem.W.mg_of X G vFEWEST_ROUTERS⟩
      v_MOST_ROUTERS := ⟨tMOST_ROUTERS, PySem.W.mg_of X G vMOST_ROUTERS⟩
      v_MOST_LINKS := ⟨tMOST_LINKS, PySem.W.mg_of X G vMOST_LINKS⟩
      nd := inj
      hn := hn
      ht := ht }
  exact ⟨(PySem.W.fnOf "law" "law" (defArgs s_law) (defBody s_law) (defScope s_law) .none kV55 dc55 pm55 an55 cd55 ct55), cc52, T52, cc52, T52, ⟨f52, _, _, PySem.W.mg_of X G a52, l52, rfl, rfl, ch52, nt52⟩, ⟨f52, _, _, PySem.W.mg_of X G a52, l52, rfl, rfl, ch52, nt52⟩, fun s v => .of_eq rfl,
    fun base _ _ t1 _ => ok_law T ⟨⟨_, _, _, _, _, _, _, _, rfl, l52, c52⟩⟩ ⟨t1⟩⟩

end Toy
set_option Elab.async false
open PySem PySem.W PyProof.Rows in
set_option maxRecDepth 100000 in
set_option maxHeartbeats 0 in
theorem PySem.Challenge.cw_quietturns_k64_texts_of_no_net_holds : PySem.Challenge.rw_quietturns_k64_texts_of_no_net.Holds := by
  w_on; o_law; k_head; (case hw => w_witness2)
  k_fill
  refine Q.walkTG (l := PySem.Challenge.rw_quietturns_k64_texts_of_no_net) (n := 63) (k := 17) (x := "_law_script") (n1 := "_law_heard") (n2 := "_law_heard") (sp := Toy.spLaw) rfl (by decide) rfl ⟨rfl, by decide, by decide⟩ (by decide +kernel) (by decide +kernel) (fun w h Y => PySem.W.km_in_of Y) ?F
    (fun P1 P2 K H a ns hn h1 h2 hS => ⟨a, ns, rfl, hS, hn, fun p hp => ?_, fun _ => rfl⟩)
  case F =>
    intro w mg fa h KX G hmg
    refine' Toy.all_mk KX G hmg ?a0 ?l0 ?c0 ?k0 ?a9 ?l9 ?c9 ?k9 ?a10 ?l10 ?c10 ?k10 ?a11 ?l11 ?c11 ?k11 ?a12 ?l12 ?c12 ?k12 ?a15 ?l15 ?c15 ?k15 ?a21 ?l21 ?c21 ?k21 ?a22 ?l22 ?c22 ?k22 ?a23 ?l23 ?c23 ?k23 ?a24 ?l24 ?c24 ?k24 ?a25 ?l25 ?c25 ?k25 ?a26 ?l26 ?c26 ?k26 ?a28 ?l28 ?c28 ?k28 ?a29 ?l29 ?c29 ?k29 ?a30 ?l30 ?c30 ?k30 ?a31 ?l31 ?c31 ?k31 ?a32 ?l32 ?c32 ?k32 ?a34 ?l34 ?c34 ?k34 ?a35 ?l35 ?c35 ?k35 ?a36 ?l36 ?c36 ?k36 ?a37 ?l37 ?c37 ?k37 ?a38 ?l38 ?c38 ?k38 ?a39 ?l39 ?c39 ?k39 ?a40 ?l40 ?c40 ?k40 ?a41 ?l41 ?c41 ?k41 ?a42 ?l42 ?c42 ?k42 ?a43 ?l43 ?c43 ?k43 ?a44 ?l44 ?c44 ?k44 ?a45 ?l45 ?c45 ?k45 ?a46 ?l46 ?c46 ?k46 ?a47 ?l47 ?c47 ?k47 ?a48 ?l48 ?c48 ?k48 ?a49 ?l49 ?c49 ?k49 ?a50 ?l50 ?c50 ?k50 ?a51 ?l51 ?c51 ?k51 ?a52 ?l52 ?c52 ?k52 ?kc52 ?ke52 ?ch52 ?nt52 ?a53 ?l53 ?c53 ?k53 ?a54 ?l54 ?c54 ?k54 ?a55 ?l55 ?c55 ?k55 ?aC2 ?xL2 ?aC3 ?xL3 ?sa3 ?ga3 ?gg3 ?hc3 ?kC3 ?ii3 ?gl3 ?gc3 ?gk3 ?gt3 ?no3value ?aC4 ?xL4 ?sa4 ?ga4 ?gg4 ?hc4 ?kC4 ?ii4 ?gl4 ?gc4 ?gk4 ?gt4 ?no4value ?aC5 ?xL5 ?sa5 ?ga5 ?gg5 ?hc5 ?kC5 ?ii5 ?gl5 ?gc5 ?gk5 ?gt5 ?no5value ?aC6 ?xL6 ?sa6 ?ga6 ?gg6 ?hc6 ?kC6 ?ii6 ?gl6 ?gc6 ?gk6 ?gt6 ?no6value ?aN ?pg ?hd ?po ?sN ?mk ?kN ?nf_routers ?nf_links ?a100 ?i100 ?l100 ?c100 ?k100 ?pa101 ?pb101 ?pc101 ?pd101 ?l101 ?c101 ?k101 ?pa102 ?pb102 ?pc102 ?pd102 ?l102 ?c102 ?k102 ?a103 ?i103 ?l103 ?c103 ?k103 ?eN ?eO ?eH ?eJ ?a104 ?i104 ?l104 ?c104 ?k104 ?a105 ?i105 ?l105 ?c105 ?k105 ?a106 ?i106 ?l106 ?c106 ?k106 ?a107 ?i107 ?l107 ?c107 ?k107 ?zabs ?zall ?zany ?zbool ?zenumerate ?zint ?zisinstance ?zlen ?zlist ?zmax ?zmin ?zrange ?zrepr ?zset ?zsorted ?zstr ?ztuple ?zzip ?vLONGEST_NAME ?vMOST_DIGITS ?vFEWEST_ROUTERS ?vMOST_ROUTERS ?vMOST_LINKS ?inj ?hn ?ht
    (case a0 => k_is)
    (case l0 => k_is)
    (case c0 => k_is)
    (case k0 => k_is)
    (case a9 => k_is)
    (case l9 => k_is)
    (case c9 => k_is)
    (case k9 => k_is)
    (case a10 => k_is)
    (case l10 => k_is)
    (case c10 => k_is)
    (case k10 => k_is)
    (case a11 => k_is)
    (case l11 => k_is)
    (case c11 => k_is)
    (case k11 => k_is)
    (case a12 => k_is)
    (case l12 => k_is)
    (case c12 => k_is)
    (case k12 => k_is)
    (case a15 => k_is)
    (case l15 => k_is)
    (case c15 => k_is)
    (case k15 => k_is)
    (case a21 => k_is)
    (case l21 => k_is)
    (case c21 => k_is)
    (case k21 => k_is)
    (case a22 => k_is)
    (case l22 => k_is)
    (case c22 => k_is)
    (case k22 => k_is)
    (case a23 => k_is)
    (case l23 => k_is)
    (case c23 => k_is)
    (case k23 => k_is)
    (case a24 => k_is)
    (case l24 => k_is)
    (case c24 => k_is)
    (case k24 => k_is)
    (case a25 => k_is)
    (case l25 => k_is)
    (case c25 => k_is)
    (case k25 => k_is)
    (case a26 => k_is)
    (case l26 => k_is)
    (case c26 => k_is)
    (case k26 => k_is)
    (case a28 => k_is)
    (case l28 => k_is)
    (case c28 => k_is)
    (case k28 => k_is)
    (case a29 => k_is)
    (case l29 => k_is)
    (case c29 => k_is)
    (case k29 => k_is)
    (case a30 => k_is)
    (case l30 => k_is)
    (case c30 => k_is)
    (case k30 => k_is)
    (case a31 => k_is)
    (case l31 => k_is)
    (case c31 => k_is)
    (case k31 => k_is)
    (case a32 => k_is)
    (case l32 => k_is)
    (case c32 => k_is)
    (case k32 => k_is)
    (case a34 => k_is)
    (case l34 => k_is)
    (case c34 => k_is)
    (case k34 => k_is)
    (case a35 => k_is)
    (case l35 => k_is)
    (case c35 => k_is)
    (case k35 => k_is)
    (case a36 => k_is)
    (case l36 => k_is)
    (case c36 => k_is)
    (case k36 => k_is)
    (case a37 => k_is)
    (case l37 => k_is)
    (case c37 => k_is)
    (case k37 => k_is)
    (case a38 => k_is)
    (case l38 => k_is)
    (case c38 => k_is)
    (case k38 => k_is)
    (case a39 => k_is)
    (case l39 => k_is)
    (case c39 => k_is)
    (case k39 => k_is)
    (case a40 => k_is)
    (case l40 => k_is)
    (case c40 => k_is)
    (case k40 => k_is)
    (case a41 => k_is)
    (case l41 => k_is)
    (case c41 => k_is)
    (case k41 => k_is)
    (case a42 => k_is)
    (case l42 => k_is)
    (case c42 => k_is)
    (case k42 => k_is)
    (case a43 => k_is)
    (case l43 => k_is)
    (case c43 => k_is)
    (case k43 => k_is)
    (case a44 => k_is)
    (case l44 => k_is)
    (case c44 => k_is)
    (case k44 => k_is)
    (case a45 => k_is)
    (case l45 => k_is)
    (case c45 => k_is)
    (case k45 => k_is)
    (case a46 => k_is)
    (case l46 => k_is)
    (case c46 => k_is)
    (case k46 => k_is)
    (case a47 => k_is)
    (case l47 => k_is)
    (case c47 => k_is)
    (case k47 => k_is)
    (case a48 => k_is)
    (case l48 => k_is)
    (case c48 => k_is)
    (case k48 => k_is)
    (case a49 => k_is)
    (case l49 => k_is)
    (case c49 => k_is)
    (case k49 => k_is)
    (case a50 => k_is)
    (case l50 => k_is)
    (case c50 => k_is)
    (case k50 => k_is)
    (case a51 => k_is)
    (case l51 => k_is)
    (case c51 => k_is)
    (case k51 => k_is)
    (case a52 => k_is)
    (case l52 => k_is)
    (case c52 => k_is)
    (case k52 => k_is)
    (case kc52 => k_is)
    (case ke52 => first | rfl | k_is)
    (case ch52 => first | kernel_rfl | decide +kernel | rfl)
    (case nt52 => first | rfl | k_is)
    (case a53 => k_is)
    (case l53 => k_is)
    (case c53 => k_is)
    (case k53 => k_is)
    (case a54 => k_is)
    (case l54 => k_is)
    (case c54 => k_is)
    (case k54 => k_is)
    (case a55 => k_is)
    (case l55 => k_is)
    (case c55 => k_is)
    (case k55 => k_is)
    (case aC2 => k_is)
    (case xL2 => k_is)
    (case aC3 => k_is)
    (case xL3 => k_is)
    (case sa3 => k_is)
    (case ga3 => k_is)
    (case gg3 => k_is)
    (case hc3 => k_is)
    (case kC3 => k_is)
    (case ii3 => k_is)
    (case gl3 => k_is)
    (case gc3 => k_is)
    (case gk3 => k_is)
    (case gt3 => k_is)
    (case no3value => k_is)
    (case aC4 => k_is)
    (case xL4 => k_is)
    (case sa4 => k_is)
    (case ga4 => k_is)
    (case gg4 => k_is)
    (case hc4 => k_is)
    (case kC4 => k_is)
    (case ii4 => k_is)
    (case gl4 => k_is)
    (case gc4 => k_is)
    (case gk4 => k_is)
    (case gt4 => k_is)
    (case no4value => k_is)
    (case aC5 => k_is)
    (case xL5 => k_is)
    (case sa5 => k_is)
    (case ga5 => k_is)
    (case gg5 => k_is)
    (case hc5 => k_is)
    (case kC5 => k_is)
    (case ii5 => k_is)
    (case gl5 => k_is)
    (case gc5 => k_is)
    (case gk5 => k_is)
    (case gt5 => k_is)
    (case no5value => k_is)
    (case aC6 => k_is)
    (case xL6 => k_is)
    (case sa6 => k_is)
    (case ga6 => k_is)
    (case gg6 => k_is)
    (case hc6 => k_is)
    (case kC6 => k_is)
    (case ii6 => k_is)
    (case gl6 => k_is)
    (case gc6 => k_is)
    (case gk6 => k_is)
    (case gt6 => k_is)
    (case no6value => k_is)
    (case aN => k_is)
    (case pg => k_is)
    (case hd => k_is)
    (case po => k_is)
    (case sN => k_is)
    (case mk => k_is)
    (case kN => k_is)
    (case nf_routers => k_is)
    (case nf_links => k_is)
    (case a100 => k_is)
    (case i100 => k_is)
    (case l100 => k_is)
    (case c100 => k_is)
    (case k100 => k_is)
    (case pa101 => k_is)
    (case pb101 => k_is)
    (case pc101 => k_is)
    (case pd101 => k_is)
    (case l101 => k_is)
    (case c101 => k_is)
    (case k101 => k_is)
    (case pa102 => k_is)
    (case pb102 => k_is)
    (case pc102 => k_is)
    (case pd102 => k_is)
    (case l102 => k_is)
    (case c102 => k_is)
    (case k102 => k_is)
    (case a103 => k_is)
    (case i103 => k_is)
    (case l103 => k_is)
    (case c103 => k_is)
    (case k103 => k_is)
    (case eN => k_is)
    (case eO => k_is)
    (case eH => k_is)
    (case eJ => k_is)
    (case a104 => k_is)
    (case i104 => k_is)
    (case l104 => k_is)
    (case c104 => k_is)
    (case k104 => k_is)
    (case a105 => k_is)
    (case i105 => k_is)
    (case l105 => k_is)
    (case c105 => k_is)
    (case k105 => k_is)
    (case a106 => k_is)
    (case i106 => k_is)
    (case l106 => k_is)
    (case c106 => k_is)
    (case k106 => k_is)
    (case a107 => k_is)
    (case i107 => k_is)
    (case l107 => k_is)
    (case c107 => k_is)
    (case k107 => k_is)
    (case zabs => k_is)
    (case zall => k_is)
    (case zany => k_is)
    (case zbool => k_is)
    (case zenumerate => k_is)
    (case zint => k_is)
    (case zisinstance => k_is)
    (case zlen => k_is)
    (case zlist => k_is)
    (case zmax => k_is)
    (case zmin => k_is)
    (case zrange => k_is)
    (case zrepr => k_is)
    (case zset => k_is)
    (case zsorted => k_is)
    (case zstr => k_is)
    (case ztuple => k_is)
    (case zzip => k_is)
    (case vLONGEST_NAME => k_is)
    (case vMOST_DIGITS => k_is)
    (case vFEWEST_ROUTERS => k_is)
    (case vMOST_ROUTERS => k_is)
    (case vMOST_LINKS => k_is)
    (case inj => decide)
    (case hn => k_is)
    (case ht => k_is)
  · rw [List.mem_singleton.mp hp]; exact LamX.TabS.nil h1
