import PyProof.Rows.All
import Wide.All
import OpenK.AllK
import Wide.FinOn
import PyProof.EqAt
import PyProof.EqKinds
import PyProof.TupleCall
import PyProof.ReprRoads
import HandS.ForMost
import HandS.ForExc
import HandS.ExcInit
import HandS.ExcValue
import HandS.ExcIs
import HandS.IsInst
import HandS.Wide
import HandS.Ends
import HandS.TupSets
import HandS.SetFor
import HandS.SetTxt0
import KE.SortData
import HandS.Strs
import KE.GoesEnum
import KE.GoesMore
import HandS.Iter
import KE.DataCmp
import HandS.WordsExc
import HandS.Property
import HandS.Lambda
import HandS.RaiseMore
import HandS.EndTab
import HandS.NestedK
import PyProof.NeKinds
import HandS.Nested
import HandS.DictComp
import HandS.More
import HandS.Style
import HandS.TupAny
import HandS.OwnEq
import PyProof.InstNe
import KE.KUnpackStar
import KE.GoesEnumKw
import HandS.TryOnly
import HandS.Walk
import HandS.Text
import HandS.Conv
import HandS.Deep
import HandS.Zip
import HandS.FStr
import HandS.FStrTup
import PyProof.StrLawsRepr
import PyProof.ReprLen
import PySem.Challenge.RW_quietturns_k63_nets_as_texts
set_option Elab.async false
set_option linter.all false
set_option maxRecDepth 100000
set_option maxHeartbeats 4000000
/-! Rules of our own over the hand layer: powers, calls where no display is under way, exceptions as values, repr of data. -/
namespace Q
open PySem PySem.Spec PyProof.Rows L2

/-! ### powers of greater numbers -/
def CPw (i j : Int) : Prop :=
  0 ≤ j ∧ ∃ m : Nat, i.natAbs < 2 ^ m ∧ (m : Int) * j ≤ 134217728
theorem op_pw {X : Cx} : OpR X (binaryOp .Pow) (rI CPw fun i j => .int (i ^ j.toNat)) :=
  opI fun i j _ _ _ _ _ hc q => by
    obtain ⟨h0, m, hm, hj⟩ := hc
    refine pow_int h0 ?_ q
    have b : Builtin.Int.intBits i ≤ m := PyProof.Rows.intBits_le hm
    have c : (Builtin.Int.intBits i : Int) * j ≤ (m : Int) * j :=
      Int.mul_le_mul_of_nonneg_right (by omega) h0
    exact Int.le_trans c hj

/-! ### defs that are called while no display is under way -/
structure FnG (P : Program) (w : World) (K : PySem.W.Frag) (mg : Str → Option Value)
    (base : Heap) (CX : CXT) (k : Nat) (f : Addr) (fd : FuncData) (ps : List Str) (sp : Sp) : Prop where
  len : ∀ vs H Q E, sp vs H Q E → vs.length = ps.length
  go : ∀ (A : Around) (outer : List Env) (s : Shared) (H : Hp) (args : Args) (us : List Value)
    (vs : List V) (Q : VK) (E : XK), A.guards = some [] → Room k A →
    Env0 P w K mg base A outer s H → BindsTo s fd args (ps.zip us) → Vals vs us → sp vs H Q E →
    codeAny (model P w) A (.call (.ref f) args) (CR CX outer P w H s Q E) s
section
variable {P : Program} {w : World} {K : PySem.W.Frag} {mg : Str → Option Value}
  {base : Heap} {CX : CXT} {k : Nat} {f : Addr} {fd : FuncData} {ps : List Str} {sp : Sp}
theorem FnG.of (F : FnOk P w K mg base CX k f fd ps sp) : FnG P w K mg base CX k f fd ps sp :=
  ⟨F.len, fun A o s H a us vs Q E _ => F.run A o s H a us vs Q E⟩
theorem FnG.mono {j : Nat} (F : FnG P w K mg base CX j f fd ps sp) (h : j ≤ k) :
    FnG P w K mg base CX k f fd ps sp :=
  ⟨F.len, fun A o s H a us vs Q E hg hr => F.go A o s H a us vs Q E hg (hr.mono h)⟩

/-- the rule for a def by its body, as fn_of, with the guards known -/
theorem fng_of {name qual : Str} {params : Arguments} {body : List Stmt} {scope : Scope}
    {dV kV doc pm cdv ct oc : Value} {an od : Option Addr} {osl : Array (Option Value)} {N : List Str}
    (lk : K.lookup f = some ⟨oc, od,
      .func (PySem.W.fnOf name qual params body scope dV kV doc pm an cdv ct), osl⟩)
    (hcd : PySem.W.codeIn K cdv qual = true) (S : FnScope N ps scope)
    (len : ∀ vs H Q E, sp vs H Q E → vs.length = ps.length)
    (hbody : ∀ (A : Around) (outer : List Env) (s : Shared) (H : Hp) (vs : List V) (Q : VK) (E : XK),
      A.guards = some [] → Room k (A.deeper (envOfC qual scope s.heap.objs.size f cdv)) → sp vs H Q E →
      ∃ t, PSs (cxOf CX P w K mg base N qual scope f cdv A outer s H E) body t ∧
        t { nx := fun _ H' => Q .non H', rt := Q } (start N vs) H) :
    FnG P w K mg base CX (k + 1) f
      (PySem.W.fnOf name qual params body scope dV kV doc pm an cdv ct) ps sp := by
  refine ⟨len, ?_⟩
  intro A outer s H args us vs Q E hgd hr e0 hb rv hsp
  have hlen := len _ _ _ _ hsp
  have inB : ∀ b o, base.get? b = some o → s.heap.get? b = some o := fun b o e => (e0.bs b o e).1
  have KX : K.In s.heap := e0.mod.kin.keeps inB
  have kinds : ∀ y ∈ ps.zip us, scope.names.lookup y.1 = some .local ∨
      (scope.names.lookup y.1 = some .cell ∧
        ((cellsFrom (s.heap.objs.size + 1) scope.names []).lookup y.1).isSome = true) := by
    rintro ⟨n, v⟩ hy
    cases S.par n (List.of_mem_zip hy).1 with
    | inl q => exact .inl q
    | inr q => exact .inr ⟨q, PySem.W.cellsFrom_some _ _ _ (.inl q)⟩
  refine codeAny_call_function hr.depth (KX _ _ lk) rfl S.co S.gen rfl
    (PySem.W.codeRec_of KX hcd) (hb _ _ _ _ ?_)
  refine wpAny_newFunctionEnv_cells S.kind kinds ?_
  intro env he s1 x
  subst he
  refine ⟨(e0.mod.nolimit.keeps inB).keeps x.toInCall.keep, codeAny_func ?_⟩
  obtain ⟨t, ht, hq⟩ := hbody A outer s H vs Q E hgd (hr.deeper _) hsp
  have I := inv_start (CX := CX) (E := E) S hr.hd e0 hlen rv x
  refine wpAny_mono (ht.run [] s1 (start N vs) H _ I hq) ?_ (fun _ _ z => z)
  intro fl s' hs
  cases fl with
  | ret u =>
    obtain ⟨v, σ', H', J, r', q⟩ := hs
    exact ⟨v, H', J.os, J.bare, J.base, J.hok, r', q⟩
  | next =>
    obtain ⟨σ', H', J, q⟩ := hs
    exact ⟨.non, H', J.os, J.bare, J.base, J.hok, rfl, q⟩
  | brk => exact hs.elim fun _ z => z.elim fun _ z => z.2.elim
  | cont => exact hs.elim fun _ z => z.elim fun _ z => z.2.elim

/-- as Fun.ok -/
theorem okG {x qual : Str} {st : Stmt} {N : List Str} (F : Fun K x qual st f fd)
    (S : FnScope N ps (defScope st)) (len : ∀ vs H Q E, sp vs H Q E → vs.length = ps.length)
    (hbody : ∀ (cdv : Value) (A : Around) (outer : List Env) (s : Shared) (H : Hp) (vs : List V)
      (Q : VK) (E : XK), A.guards = some [] →
      Room k (A.deeper (envOfC qual (defScope st) s.heap.objs.size f cdv)) → sp vs H Q E →
      ∃ t, PSs (cxOf CX0 P w K mg base N qual (defScope st) f cdv A outer s H E).nox (defBody st) t ∧
        t { nx := fun _ H' => Q .non H', rt := Q } (start N vs) H) :
    FnG P w K mg base CX0 (k + 1) f fd ps sp := by
  obtain ⟨oc, od, kV, doc, pm, an, cdv, ct, osl, rfl, lk, hcd⟩ := F.ex
  refine fng_of lk hcd S len ?_
  intro A outer s H vs Q E hgd hr hsp
  obtain ⟨t, h, q⟩ := hbody cdv A outer s H vs Q E hgd hr hsp
  exact ⟨t, h.nox, q⟩
end

section
variable {X : Cx} {CX : CXT} {k : Nat} {f : Addr} {fd : FuncData} {ps : List Str} {sp : Sp}
  {dvs : List V} {ds : List Value} {E : XK} {x : Str} {p pos : Pos} {e : Expr} {es : List Expr} {t : TA}
theorem run_g {pins : List (Addr × Obj)} {σ : L2.St} {H : Hp} {s : Shared} {Q : VK} {us : List Value}
    {vs : List V} (F : FnG X.prog X.w X.K X.mg X.base CX k f fd ps sp) (hgd : X.A.guards = some [])
    (hr : Room k X.A) (hb : Binds X.K fd ps ds) (hd : Vals dvs ds) (hx : Passes CX X E)
    (I : Inv X pins σ H s) (r : Vals vs us) (h : sp (vs ++ dvs) H Q E) :
    wpAny (model X.prog X.w) X.A (call (.ref f) us) (EP X pins σ Q) X.xe s := by
  have r2 := r.append hd
  have hl : (us ++ ds).length = ps.length := r2.length.symm.trans (F.len _ _ _ _ h)
  have c := F.go X.A X.stack s H ⟨us, []⟩ (us ++ ds) (vs ++ dvs) Q E hgd hr I.env0 (hb s us I.kIn hl) r2 h
  refine wpAny_call (codeAny_mono c ?_)
  intro r s' hq
  match r, hq with
  | .error er, hq => exact hx pins σ H s er s' I hq
  | .ok (.ret u), hq => exact I.after hq
/-- f(e, ..) -/
theorem pe_callG (F : FnG X.prog X.w X.K X.mg X.base CX k f fd ps sp) (hgd : X.A.guards = some [])
    (hr : Room k X.A) (hg : Gl X x) (hm : X.mg x = some (.ref f))
    (hk : PySem.W.keepIn X.K (.ref f) = true) (hb : Binds X.K fd ps ds) (hd : Vals dvs ds)
    (hx : Passes CX X E) (ha : PA X (e :: es) t) (hdb : (x == ("__debug__" : Str)) = false := by decide)
    (he : starEach (e :: es) X.env = (false, eval e X.env) :: starEach es X.env := by rfl)
    (hpl : (backTo pos (starEach es X.env)).any (·.1) = false := by rfl) :
    PE X (.Call (.Name x p) (e :: es) [] pos) (tCall sp dvs E t) := by
  constructor
  intro pins s σ H Q I h
  refine wpAny_Call_Name_kw (ld_glob I hg hm ?_ hdb)
  refine PySem.W.callWith_K (h₀ := X.base) I.ok.mod.kin hk ?_ he hpl
  refine thn (ha.run pos pins s σ H _ I h) ?_
  rintro us s1 ⟨vs, H1, I1, r, q⟩
  exact ⟨I1.kIn, run_g F hgd hr hb hd hx I1 r q⟩
end
end Q
set_option Elab.async false
set_option linter.all false
set_option maxRecDepth 100000
set_option maxHeartbeats 4000000
namespace Q
open PySem PySem.Spec PyProof.Rows L2

/-! ### the law's call, its promise under known guards -/
section
variable {P : Program} {w : World} {K : PySem.W.Frag} {mg mb : Str → Option Value} {k : Nat}
  {fa a : Addr} {fd : FuncData} {x : Str} {sp : Sp} {s₁ : Shared} {vs : List Value} {ns : List Int}
abbrev LawEnd (s₁ : Shared) : Result → Shared → Prop := fun r s' =>
  r = .ok (.ret (.bool true)) ∧ OldK s₁.heap s'.heap ∧ s'.os = s₁.os ∧ AllBare s'.gens
theorem law_core (KX : K.In s₁.heap) (hns : s₁.heap.Ns mainGlobals mg) (hb : s₁.heap.Ns builtinsNs mb)
    (hbb : ∀ x : Str, x ≠ "__name__" → mb x = bootBuiltins x) (hlim : s₁.heap.NoLimit)
    (hg : s₁.gens = #[])
    (ha : s₁.heap.get? a = some { cls := .type "list", data := .seq vs.toArray }) (hr : Room k callerA)
    (F : ∀ base : Heap, K.In base → base.Ns mainGlobals mg → FnG P w K mg base CX0 k fa fd [x] sp)
    (hbind : ∀ (s : Shared) (u : Value), BindsTo s fd ⟨[u], []⟩ [(x, u)])
    (H : Hp) (hO : Only H) (hS : sp [.ref a] H (fun v _ => v = .bl true) fun _ _ _ => False)
    (hok : HOk P w H s₁.heap) (hA : ∀ b, H b ≠ none → b = a) (hK : H a ≠ none → K.lookup a = none) :
    codeAny (model P w) callerA (.call (.ref fa) ⟨[.ref a], []⟩) (LawEnd s₁) s₁ := by
  have only_a : ∀ {b : Addr}, b ≠ a → H b = none := fun {b} ne => by
    cases q : H b with
    | none => rfl
    | some u => exact absurd (hA b (by rw [q]; exact nofun)) ne
  have dict_free : ∀ {b o es ep}, s₁.heap.get? b = some o → o.data = Data.dict es ep → H b = none := by
    intro b o es ep e d
    refine only_a ?_
    rintro rfl
    rw [ha] at e
    cases e
    cases d
  have ns_free : ∀ {b m}, s₁.heap.Ns b m → (hidT s₁.heap H).Ns b m := by
    rintro b m ⟨o, es, ep, e, d, r⟩
    exact ⟨o, es, ep, hidT_get e (dict_free e d), d, r⟩
  have k_free : ∀ {b o}, K.lookup b = some o → H b = none := by
    intro b o e
    cases q : H b with
    | none => rfl
    | some u =>
      have nn : H b ≠ none := by rw [q]; exact nofun
      cases hA b nn
      rw [hK nn] at e
      cases e
  have kin : K.In (hidT s₁.heap H) := fun b o e => hidT_get (KX b o e) (k_free e)
  obtain ⟨mc, l1, l2⟩ := hlim
  have md : Mod K mg (hidT s₁.heap H) :=
    { kin := kin, glob := ns_free hns, blt := ⟨mb, ns_free hb, hbb⟩, nolimit := ⟨mc, ns_free l1, l2⟩ }
  have e0 : Env0 P w K mg (hidT s₁.heap H) callerA [] s₁ H :=
    ⟨rfl, md, fun b o e => of_hidT e, Nat.le_of_eq (hidT_size _ _), trivial,
      fun b z => absurd (show b ∈ ([] : List Addr) from z) List.not_mem_nil, hok, .of_eq hg⟩
  have run := (F _ kin (ns_free hns)).go callerA [] s₁ H ⟨[.ref a], []⟩ [.ref a] [.ref a] _ _ rfl hr e0
    (hbind s₁ (.ref a)) (.cons rfl .nil) hS
  refine codeAny_mono run ?_
  intro r s' h
  match r, h with
  | .error e, h => exact False.elim h
  | .ok (.ret u), ⟨v, H', os, bare, un, hok', r', q⟩ =>
    subst q
    obtain rfl : u = Value.bool true := r'
    refine ⟨rfl, OldK.of_keep ?_, os, bare⟩
    intro b o e
    cases q : H b with
    | none =>
      refine un.keep b o e q (fun z => ?_) List.not_mem_nil
      exact absurd (show b ∈ ([] : List Addr) from z) List.not_mem_nil
    | some u =>
      cases hO b with
      | inl z => rw [q] at z; cases z
      | inr z =>
        obtain ⟨ob, xs, z⟩ := z
        have e2 := (hok' b _ (un.frzs b ob _ z)).1
        have e1 := (hok b _ z).1
        rw [e] at e1
        cases e1
        exact e2

theorem law_callG (KX : K.In s₁.heap) (hns : s₁.heap.Ns mainGlobals mg) (hb : s₁.heap.Ns builtinsNs mb)
    (hbb : ∀ x : Str, x ≠ "__name__" → mb x = bootBuiltins x) (hlim : s₁.heap.NoLimit)
    (hg : s₁.gens = #[])
    (ha : s₁.heap.get? a = some { cls := .type "list", data := .seq vs.toArray }) (hi : IntsAre vs ns)
    (hl : ns.length ≤ sizeLine) (hr : Room k callerA)
    (F : ∀ base : Heap, K.In base → base.Ns mainGlobals mg → FnG P w K mg base CX0 k fa fd [x] sp)
    (hbind : ∀ (s : Shared) (u : Value), BindsTo s fd ⟨[u], []⟩ [(x, u)])
    (hsp : ∀ H : Hp, Only H → SqL K H a (ns.map V.int) →
      sp [.ref a] H (fun v _ => v = .bl true) fun _ _ _ => False) :
    codeAny (model P w) callerA (.call (.ref fa) ⟨[.ref a], []⟩) (LawEnd s₁) s₁ := by
  have rv := vals_ints hi
  have lenV := hi.length
  cases hk : K.lookup a with
  | some o =>
    have e := KX a o hk
    rw [ha] at e
    cases e
    have hN : Only (fun _ => none) := fun _ => .inl rfl
    have hS : SqL K (fun _ => none) a (ns.map V.int) := by
      refine .inr ⟨_, vs.toArray, _, hk, rfl, rfl, rfl, ?_, by simpa using rv⟩
      rw [List.size_toArray, lenV]
      exact hl
    exact law_core KX hns hb hbb hlim hg ha hr F hbind _ hN (hsp _ hN hS) (fun _ _ z => nomatch z)
      (fun _ z => absurd rfl z) (fun z => absurd rfl z)
  | none =>
    let ob : Obj := { cls := .type "list", data := .seq vs.toArray }
    let H : Hp := fun b => if b = a then some (.frz ob (.lst (ns.map V.int))) else none
    have at_a : H a = some (.frz ob (.lst (ns.map V.int))) := if_pos rfl
    have off : ∀ b, b ≠ a → H b = none := fun b z => if_neg z
    have hN : Only H := fun b => by
      by_cases z : b = a
      · rw [z]; exact .inr ⟨_, _, at_a⟩
      · exact .inl (off b z)
    have hok : HOk P w H s₁.heap := fun b u e => by
      by_cases z : b = a
      · rw [z, at_a] at e
        cases e
        rw [z]
        exact ⟨ha, by rw [List.length_map]; exact hl, vs, _, rv, ha⟩
      · rw [off b z] at e
        cases e
    refine law_core KX hns hb hbb hlim hg ha hr F hbind H hN (hsp H hN (.inl (.inr ⟨ob, at_a⟩))) hok ?_ ?_
    · intro b z
      by_cases q : b = a
      · exact q
      · exact absurd (off b q) z
    · exact fun _ => hk
end

/-- the goal that the head leaves, from the law's promise -/
theorem walkG {l : PySem.W.OpenLaw} {n k : Nat} {q : Program} {loose : List Str}
    {XP : (Str → Option Value) → Heap → Prop} {YP : World → Heap → Prop} {d : DefRec}
    {K : Params → PySem.W.Frag} {sp : PySem.W.Frag → Sp} {x : Str} (hn : l.most = some n)
    (hn2 : n ≤ sizeLine) (hdf : d.params.defaults = []) (hr : Room k callerA)
    (hY : ∀ (w : World) (h : Heap), YP w h → (K w.params).In h)
    (F : ∀ (w : World) (mg : Str → Option Value) (fa : Addr) (h : Heap), (K w.params).In h →
      h.Ns mainGlobals mg → mg d.name = some (.ref fa) →
      ∃ fd : FuncData, (∀ (s : Shared) (u : Value), BindsTo s fd ⟨[u], []⟩ [(x, u)]) ∧
        ∀ base : Heap, (K w.params).In base → base.Ns mainGlobals mg →
          FnG l.prog w (K w.params) mg base CX0 k fa fd [x] (sp (K w.params)))
    (hsp : ∀ (K : PySem.W.Frag) (H : Hp) (a : Addr) (ns : List Int), ns.length ≤ n → Only H →
      SqL K H a (ns.map V.int) → sp K [.ref a] H (fun v _ => v = .bl true) fun _ _ _ => False) :
    PySem.W.WalkO q loose XP YP l.row.toRowW d [] (fun f vs => PySem.call f vs) := by
  refine Att.attach_call hn hdf ?_
  intro w s₀ s₁ mg mb fa o pm cd doc a vs ns G Y ho hd hcd hmg hobj hints hlen hg
  have KX := hY w _ Y
  obtain ⟨fd, hb, hF⟩ := F w mg fa _ KX G.T.g hmg
  exact law_callG KX G.T.g G.T.b G.T.builtins G.T.nolimit hg hobj hints (Nat.le_trans hlen hn2) hr hF hb
    (fun H hO hS => hsp _ H a ns hlen hO hS)
end Q
set_option Elab.async false
set_option linter.all false
set_option maxRecDepth 100000
set_option maxHeartbeats 4000000
namespace Q
open PySem PySem.Spec PyProof.Rows L2

/-! ### exceptions as values -/
/-- an exception of the class C at a, its own dict at d; raised or not -/
def exv (a C : Addr) (d : Option Addr) : HO :=
  .ext fun h => ∃ oe : Obj, h.get? a = some oe ∧ Zc (.ref C) d oe ∧ ∃ vs, oe.data = .fields vs
theorem exv_ok {P : Program} {w : World} {H : Hp} {h : Heap} {a C : Addr} {d : Option Addr} {oe : Obj}
    (e : h.get? a = some oe) (z : Zc (.ref C) d oe) (f : ∃ vs, oe.data = .fields vs) :
    ObjOk P w H h a (exv a C d) :=
  ⟨⟨oe, e, z, f⟩, ⟨oe, e⟩, fun _ _ ⟨o, q, r⟩ k => ⟨o, k o q, r⟩⟩
/-- the object -/
def ErrO (H : Hp) (a C : Addr) (d : Option Addr) : Prop := H a = some (exo a C d) ∨ H a = some (exv a C d)
/-- its dict -/
def ErrD (H : Hp) (d : Addr) (fs : List (Str × V)) : Prop := H d = some (exd d fs) ∨ H d = some (.xd fs)
/-- an exception of C with these attributes -/
def ErrAt (H : Hp) (a C : Addr) (fs : List (Str × V)) : Prop := ∃ d, ErrO H a C (some d) ∧ ErrD H d fs

section
variable {X : Cx} {pins : List (Addr × Obj)} {σ : L2.St} {H : Hp} {s : Shared} {a C d : Addr}
theorem ErrO.get {d : Option Addr} (I : Inv X pins σ H s) (e : ErrO H a C d) :
    ∃ oe : Obj, s.heap.get? a = some oe ∧ Zc (.ref C) d oe ∧ ∃ vs, oe.data = .fields vs := by
  rcases e with e | e
  · obtain ⟨t1, q⟩ := exo_at I.hok e
    exact ⟨_, q, ⟨rfl, rfl⟩, _, rfl⟩
  · exact (I.hok a _ e).1
theorem ErrD.get {fs : List (Str × V)} (I : Inv X pins σ H s) (e : ErrD H d fs) :
    ∃ mA, s.heap.Ns1 d mA ∧ ∀ f, RelO (fs.lookup f) (mA f) := by
  rcases e with e | e
  · exact exd_at I.hok e
  · exact I.hok d _ e
end

/-- isinstance asks an exception's class rightly, whatever its own dict -/
theorem kitx_err {K : PySem.W.Frag} {x D : Addr} {ox : Obj} {od : Option Obj} (c : ExcC K D) :
    PySem.W.KitX K (.ref x) (.ref D) (fun h => PySem.W.InstAt h x ox D od) := by
  have c1 := PySem.W.handS_kitx_exc (x := x) (ox := ox) c.hg c.hk c.hs c.hd c.ha c.hn c.ht c.hm
  refine ⟨fun _ _ _ I => I.type, ?_, ?_, ?_⟩
  · intro M h KX _
    obtain ⟨cdD, hcD, _⟩ := PySem.W.any_some c.hd
    unfold PySem.W.clsIn at hcD
    split at hcD
    · rename_i ho
      intro A' Q' E' s' k q
      unfold isType loadHead
      exact wpAny_bind (wpAny_loadPart (k _ _ (KX _ _ ho)) (wpAny_pure q))
    · cases hcD
  · intro h tp dd its n sl KX htp
    refine beq_eq_false_iff_ne.mpr fun q => ?_
    cases q
    obtain ⟨cdD, hcD, _⟩ := PySem.W.any_some c.hd
    unfold PySem.W.clsIn at hcD
    split at hcD
    · rename_i ho
      cases (KX _ _ ho).symm.trans htp
    · cases hcD
  · intro prog w A E Q s KX I h
    have isC : (PySem.W.clsIn K D).isSome = true := by
      obtain ⟨cd, hc, _⟩ := PySem.W.any_some c.hd
      rw [hc]
      rfl
    have hf : PySem.W.findObj K D od "__class__" =
        some (.bind (.builtin "getset_descriptor.__get__") (.builtin "object.__class__")) := by
      cases od with
      | none => exact PySem.W.findObj_dataN isC c.ha c.hn c.ht
      | some od => exact PySem.W.findObj_data isC c.ha c.hn c.ht
    obtain ⟨hp, g, d, t, os⟩ := s
    have L0 := I.type (M := model prog w)
    have LA := PySem.W.looks_findIn (M := model prog w) KX c.hg
    have LB := PySem.W.looks_findIn (M := model prog w) KX c.hk
    have LC := PySem.W.looks_find (M := model prog w) KX I hf
    have sub : PySem.W.Looks (model prog w) hp (isInstance (.ref x) (.type "BaseException")) true :=
      L0.andThen (PySem.W.looks_subIn KX c.hs)
    have hx0 : (false && onTheHeap (Value.builtin "BaseException.__getattribute__")) = false := rfl
    have hx2 : (Value.builtin "BaseException.__getattribute__" ==
        Value.builtin "object.__getattribute__") = false := by decide +kernel
    unfold getAttr? getAttrBy? getAttrBy
    refine wpAny_bind (wpAny_mkText (wpAny_bind (wpAny_attempt (wpAny_holding (wpAny_bind
      (L0.at (wpAny_bind (LA.at ?_))))))))
    refine PySem.W.KFB.if_not (by rw [hx2]; exact Bool.and_false _) ?_
    unfold getAttrByItsOwn hookBefore
    refine wpAny_bind ?_
    rw [if_pos (show onTheHeap (Value.ref D) = true from rfl)]
    refine LB.at (wpAny_bind (wpAny_attempt (wpAny_holding ?_)))
    unfold callGetattribute
    rw [hx0, if_neg Bool.false_ne_true]
    unfold boundAndCalled
    rw [PySem.F.excAttr_ValueError.ga.bind (.ref x)]
    refine wpAny_bind (wpAny_pure (wpAny_call (codeAny_call_builtin PySem.F.excAttr_ValueError.ga.plain
      PySem.F.entry_bexc_ga ?_)))
    refine @PySem.W.check_slot (model prog w) _ _ ⟨hp, g, d, t + 1, os⟩
      "BaseException.__getattribute__" "BaseException" "__getattribute__" (.ref x)
      [.str "__class__" t] [] _ (by decide +kernel) (by decide +kernel) sub
      (PySem.F.args_bexc_ga (.ref x) (.str "__class__" t)) ?_
    unfold Builtin.«object.__getattribute__»
    refine wpAny_bind (wpAny_of_eq (a := ((Value.ref x : Value), [Value.str "__class__" t]))
      (by first | rfl | (simp only [slotArgs]; rfl)) ?_)
    refine wpAny_bind (wpAny_pure (wpAny_bind (L0.at (wpAny_bind (LC.at (wpAny_bind (wpAny_holding
      (wpAny_call (PySem.W.class_get (s := ⟨hp, g, d, t + 1, os⟩) (ox := ox) (od := od) KX I c.hm ?_)))))))))
    refine wpAny_pure ?_
    show wpAny _ _ (handedOut (.ref D)) _ _ _
    rw [PySem.W.handedOut_of (v := .ref D) rfl]
    first
      | exact wpAny_pure (wpAny_pure h)
      | exact wpAny_pure h
      | exact wpAny_pure (wpAny_bind (wpAny_pure (wpAny_pure h)))
end Q
set_option Elab.async false
set_option linter.all false
set_option maxRecDepth 100000
set_option maxHeartbeats 4000000
namespace Q
open PySem PySem.Spec PyProof.Rows L2

/-- an exception of C, with a dict of its own or none -/
def ErrI (H : Hp) (a C : Addr) : Prop := ErrO H a C none ∨ ∃ fs, ErrAt H a C fs
theorem ErrAt.i {H : Hp} {a C : Addr} {fs : List (Str × V)} (e : ErrAt H a C fs) : ErrI H a C := .inr ⟨_, e⟩
theorem ErrO.mono {H H' : Hp} {a C : Addr} {d : Option Addr} (s : Same H H') (e : ErrO H a C d) : ErrO H' a C d :=
  e.imp (s _ _) (s _ _)
theorem ErrD.mono {H H' : Hp} {d : Addr} {fs : List (Str × V)} (s : Same H H') (e : ErrD H d fs) : ErrD H' d fs :=
  e.imp (s _ _) (s _ _)
theorem ErrAt.mono {H H' : Hp} {a C : Addr} {fs : List (Str × V)} (s : Same H H') (e : ErrAt H a C fs) :
    ErrAt H' a C fs := let ⟨d, o, q⟩ := e; ⟨d, o.mono s, q.mono s⟩
theorem ErrI.mono {H H' : Hp} {a C : Addr} (s : Same H H') (e : ErrI H a C) : ErrI H' a C :=
  e.imp (fun z => z.mono s) fun ⟨fs, z⟩ => ⟨fs, z.mono s⟩

section
variable {X : Cx} {pins : List (Addr × Obj)} {σ : L2.St} {H : Hp} {s : Shared} {a C : Addr}
theorem ErrI.inst (I : Inv X pins σ H s) (e : ErrI H a C) : ∃ oe od, PySem.W.InstAt s.heap a oe C od := by
  have nc : ∀ oe : Obj, (∃ vs, oe.data = .fields vs) → PySem.W.notCls oe = true := fun oe ⟨vs, hv⟩ => by
    unfold PySem.W.notCls
    rw [hv]
  rcases e with e | ⟨fs, d, e, ed⟩
  · obtain ⟨oe, ho, hz, hv⟩ := e.get I
    exact ⟨oe, none, ho, hz.1, nc oe hv, by rw [hz.2]; trivial⟩
  · obtain ⟨oe, ho, hz, hv⟩ := e.get I
    obtain ⟨mA, hn, _⟩ := ed.get I
    obtain ⟨od, hd, _⟩ := lookIn_ns hn
    exact ⟨oe, some od, ho, hz.1, nc oe hv, by rw [hz.2]; exact hd⟩
end

section
variable {X : Cx}
/-- isinstance of an exception -/
def rIsE (K : PySem.W.Frag) : List V → Hp → VK → Prop := fun xs H Q =>
  ∃ (a C : Addr) (c : V) (u : Value) (b : Bool), xs = [.ref a, c] ∧ ClsV c u ∧
    ErrI H a C ∧ ExcC K C ∧ PySem.W.kitOne K (.ref C) u = some b ∧ Q (.bl b) H
theorem call_isE : CallR X (.builtin "isinstance") (rIsE X.K) := by
  intro pins s σ H xs us Q I r h
  obtain ⟨a, C, c, u, b, rfl, k, eo, ec, e, q⟩ := h
  obtain ⟨u1, u2, rfl, r1, r2⟩ := vals2 r
  cases k.eq r2
  obtain rfl : u1 = Value.ref a := r1
  obtain ⟨oe, od, J⟩ := eo.inst I
  exact PySem.W.kia_one (kitx_err (ox := oe) (od := od) ec) I.kIn J e (fun z => nomatch z)
    (fun tk => ⟨.bl b, H, I.tok tk, rfl, q⟩)
/-- of any value -/
def rIsA (K : PySem.W.Frag) : List V → Hp → VK → Prop := fun xs H Q => rIsi K xs H Q ∨ rIsE K xs H Q
theorem call_isA : CallR X (.builtin "isinstance") (rIsA X.K) := by
  intro pins s σ H xs us Q I r h
  cases h with
  | inl h => exact call_isi pins s σ H xs us Q I r h
  | inr h => exact call_isE pins s σ H xs us Q I r h

/-- e.f of an exception -/
def tErrF (K : PySem.W.Frag) (f : Str) (te : TE) : TE := fun σ H Q => te σ H fun x H1 =>
  ∃ (a C : Addr) (fs : List (Str × V)) (v : V), x = .ref a ∧ ErrAt H1 a C fs ∧ ExcC K C ∧
    PySem.W.findIn K (.ref C) f = some none ∧ fs.lookup f = some v ∧ Q v H1
theorem pe_errf {e : Expr} {te : TE} {f : Str} {pos : Pos} (he : PE X e te)
    (hb : attributeBase e f X.env (eval e X.env) = eval e X.env := by rfl) :
    PE X (.Attribute e f pos) (tErrF X.K f te) := by
  constructor
  intro pins s σ H Q I h
  refine attr_of hb (thn (he.run pins s σ H _ I h) ?_)
  rintro u s1 ⟨x, H1, I1, rx, a, C, fs, v, rfl, ⟨d, eo, ed⟩, ec, hno, l, q⟩
  obtain rfl : u = Value.ref a := rx
  obtain ⟨oe, ho, hz, vs, hv⟩ := eo.get I1
  obtain ⟨mA, hns, hr⟩ := ed.get I1
  obtain ⟨od, hod, hl⟩ := lookIn_ns hns
  have hrf := hr f
  rw [l] at hrf
  obtain ⟨u, hu, ru⟩ := RelO.some_of hrf
  have J : PySem.W.InstAt s1.heap a oe C (some od) :=
    ⟨ho, hz.1, by unfold PySem.W.notCls; rw [hv], by rw [hz.2]; exact hod⟩
  have hf : PySem.W.findObj X.K C (some od) f = some (.value u) :=
    PySem.W.findObj_own ec.hd hno rfl (by rw [hl, hu])
  exact HandSPX.exc_get I1.kIn J ec.hg ec.hk ec.hs hf (handed_of ru) ⟨v, H1, I1.tok _, ru, q⟩

/-- C(e, ..), an own exception class with its own __init__, as a value -/
def tMkV (C : Addr) (sp : Sp) (dvs : List V) (ta : TA) : TE := fun σ H Q => ta σ H fun vs H1 =>
  vs.length ≤ 1000 ∧ ∀ a, H1 a = none → sp (.ref a :: (vs ++ dvs)) (upd H1 a (exo a C none))
    (fun v H2 => v = .non ∧ Q (.ref a) H2) (fun _ _ _ => False)
theorem pe_mkv {CX : CXT} {x : Str} {C fI : Addr} {k : Nat} {fd : FuncData} {ps : List Str} {sp : Sp}
    {ds : List Value} {dvs : List V} {e : Expr} {es : List Expr} {ta : TA} {p pos : Pos}
    (T : OexC X.K C) (iC : PySem.W.findIn X.K (.ref C) "__init__" = some (some (.ref fI)))
    (tI : PySem.W.typeIn X.K (.ref fI) = some (.type "function"))
    (F : FnOk X.prog X.w X.K X.mg X.base CX k fI fd ps sp) (hr : Room (k + 1) X.A)
    (hb : Binds X.K fd ps ds) (hd : Vals dvs ds) (hx : Passes CX X (fun _ _ _ => False))
    (hg : Gl X x) (hm : X.mg x = some (.ref C)) (ha : PA X (e :: es) ta)
    (hdb : (x == ("__debug__" : Str)) = false := by decide)
    (he : starEach (e :: es) X.env = (false, eval e X.env) :: starEach es X.env := by rfl)
    (hpl : (backTo pos (starEach es X.env)).any (·.1) = false := by rfl) :
    PE X (.Call (.Name x p) (e :: es) [] pos) (tMkV C sp dvs ta) := by
  constructor
  intro pins s σ H Q I h
  obtain ⟨nm, q, N, bs, bm, sn, sub, ab, col, dd, k0, k1, k2, k3, k5, hC, hbm⟩ := T.cls
  refine wpAny_Call_Name_kw (ld_glob I hg hm ?_ hdb)
  refine PySem.W.callWith_K (h₀ := X.base) I.ok.mod.kin T.kC ?_ he hpl
  refine thn (ha.run pos pins s σ H _ I h) ?_
  rintro us s1 ⟨vs, H1, I1, r1, hz, q1⟩
  refine ⟨I1.kIn, ?_⟩
  show wpAny _ _ (call (.ref C) us) _ _ _
  obtain ⟨hp, g, dr, tk, os⟩ := s1
  let a := hp.objs.size + 1
  let h2 : Heap := (hp.push (PySem.W.kdv_tup us)).push (PySem.HandSPX.excO C hp.objs.size)
  have hn : H1 a = none := I1.hok.fresh (Nat.le_succ _)
  have kk : ∀ b o, hp.get? b = some o → h2.get? b = some o := fun b o e =>
    Heap.get?_push_of_some _ (Heap.get?_push_of_some _ e)
  have hget : h2.get? a = some (PySem.HandSPX.excO C hp.objs.size) := by
    show ((hp.push _).push _).get? (hp.objs.size + 1) = _
    heap_get
  have I2 : Inv X pins σ (upd H1 a (exo a C none)) ⟨h2, g, dr, tk, os⟩ :=
    I1.laid (t' := tk) (a := a) (o := exo a C none) (h' := h2) kk (Nat.le_succ _) (exo_ok hget)
  have r2 : Vals (V.ref a :: (vs ++ dvs)) (Value.ref a :: (us ++ ds)) := .cons rfl (r1.append hd)
  have hq := q1 a hn
  have hl : (Value.ref a :: us ++ ds).length = ps.length := r2.length.symm.trans (F.len _ _ _ _ hq)
  have hus : us.length ≤ sizeLine := by
    rw [← Paired.length r1, sizeLine_eq]
    omega
  have run := F.run _ X.stack _ _ ⟨Value.ref a :: us, []⟩ (Value.ref a :: (us ++ ds)) _ _
    (fun _ _ _ => False) (hr.make C us []) (I2.env0.make C us [])
    (hb _ (Value.ref a :: us) I2.kIn hl) r2 hq
  refine wpAny_call (PySem.HandSPX.call_own PySem.F.excBase_ValueError
    (fun Y => PySem.HandSPX.refsVE_contains Y bm hbm) (I1.kIn _ _ hC)
    (PySem.W.looks_findIn I1.kIn iC) (fun self => PySem.W.bind_fn I1.kIn self tI) hus
    (codeAny_mono run ?_))
  intro r s' hq'
  match r, hq' with
  | .error er, hq' => exact hx pins σ _ _ er s' I2 hq'
  | .ok (.ret u), hq' =>
    obtain ⟨v, H2, J, rv, ev, q2⟩ := I2.after hq'
    subst ev
    exact ⟨rv, .ref a, H2, J, rfl, q2⟩
/-- C(), a class without its own __init__ -/
def tMk0 (C : Addr) : TE := fun _ H Q => ∀ a, H a = none → Q (.ref a) (upd H a (exv a C none))
theorem pe_mk0 {C : Addr} {bmB : List Value} {B newId initId : String} {x : Str} {p pos : Pos}
    (F : ExcBaseFacts B newId initId bmB) (q : PySem.W.excIn X.K C bmB newId = true)
    (gC : X.mg x = some (.ref C)) (kC : PySem.W.keepIn X.K (.ref C) = true) (hg : Gl X x)
    (hdb : (x == ("__debug__" : Str)) = false := by decide) :
    PE X (.Call (.Name x p) [] [] pos) (tMk0 C) := by
  constructor
  intro pins s σ H Q I h
  refine wpAny_Call_Name_kw (ld_glob I hg gC ?_ hdb)
  refine PySem.W.callWith_K0 I.kIn kC ?_
  show wpAny _ _ (call (.ref C) []) _ _ _
  obtain ⟨bm, N, nm, qn, bs, hdct, sn, sub, ab, col, dd, k0, k1, k2, k3, k5, mN, hC, hN, hni, T⟩ :=
    exc_obj I.kIn q
  refine wpAny_call_exc_subT F T hC hN hni ?_ (Nat.zero_le _)
  intro h' a hm
  have hn : H a = none := I.hok.gone hm.new
  obtain ⟨t, ht, _, _⟩ := hm.there
  exact ⟨.ref a, upd H a (exv a C none), I.laidN hm.keeps hm.new hn
    (exv_ok ht ⟨rfl, rfl⟩ ⟨_, rfl⟩), rfl, h a hn⟩
end
end Q
set_option Elab.async false
set_option linter.all false
set_option maxRecDepth 100000
set_option maxHeartbeats 4000000
namespace Q
open PySem PySem.Spec PyProof.Rows L2

/-! ### data in the heap, with dicts, and how repr writes it -/
mutual
inductive Rk (h : Heap) : Value → PyData → Prop
  | none : Rk h .none .none
  | bool (b : Bool) : Rk h (.bool b) (.bool b)
  | int (i : Int) (t : Tok) : Rk h (.int i t) (.int i)
  | str (x : Str) (t : Tok) : Rk h (.str x t) (.str x)
  | list {a : Addr} {o : Obj} {vs : Array Value} {n : Nat} {xs : List PyData} : h.get? a = some o →
      o.cls = .type "list" → o.data = .seq vs n → RkAll h vs.toList xs → Rk h (.ref a) (.list xs)
  | tuple {a : Addr} {o : Obj} {vs : Array Value} {n : Nat} {xs : List PyData} : h.get? a = some o →
      o.cls = .type "tuple" → o.data = .seq vs n → RkAll h vs.toList xs → Rk h (.ref a) (.tuple xs)
  | dict {a : Addr} {o : Obj} {es : Array DictEntry} {n : Nat} {kvs : List (PyData × PyData)} :
      h.get? a = some o → o.cls = .type "dict" → o.data = .dict es n → (a == sysModules) = false →
      RkAll h (es.toList.map (·.key)) (kvs.map (·.1)) → RkAll h (es.toList.map (·.val)) (kvs.map (·.2)) →
      Rk h (.ref a) (.dict kvs)
inductive RkAll (h : Heap) : List Value → List PyData → Prop
  | nil : RkAll h [] []
  | cons {v : Value} {vs : List Value} {d : PyData} {ds : List PyData} : Rk h v d → RkAll h vs ds →
      RkAll h (v :: vs) (d :: ds)
end
mutual
theorem Rk.reads {h : Heap} : ∀ {v : Value} {d : PyData}, Rk h v d → ∃ as, Reads h v d as
  | _, _, .none => ⟨_, .none⟩
  | _, _, .bool b => ⟨_, .bool b⟩
  | _, _, .int i t => ⟨_, .int i t⟩
  | _, _, .str x t => ⟨_, .str x t⟩
  | _, _, .list h1 h2 h3 h4 => let ⟨_, r⟩ := RkAll.reads h4; ⟨_, .list h1 h2 h3 r⟩
  | _, _, .tuple h1 h2 h3 h4 => let ⟨_, r⟩ := RkAll.reads h4; ⟨_, .tuple h1 h2 h3 r⟩
  | _, _, .dict h1 h2 h3 _ h4 h5 =>
    let ⟨_, r⟩ := RkAll.reads h4
    let ⟨_, q⟩ := RkAll.reads h5
    ⟨_, .dict h1 h2 h3 r q⟩
theorem RkAll.reads {h : Heap} : ∀ {v : List Value} {d : List PyData}, RkAll h v d → ∃ as, ReadsAll h v d as
  | _, _, .nil => ⟨_, .nil⟩
  | _, _, .cons a b =>
    let ⟨_, r⟩ := Rk.reads a
    let ⟨_, q⟩ := RkAll.reads b
    ⟨_, .cons r q⟩
end

section
variable {prog : Program} {w : World} {h₀ : Heap}
abbrev LenOk (x : Str) : Prop := x.length ≤ sizeLine
theorem lt_depth {n m : Nat} (e : m = n + 1) : n < m := by omega
mutual
theorem rk_shown : ∀ {v : Value} {d : PyData}, Rk h₀ v d → d.showable = true → LenOk d.shown →
    ∃ bs, ReadAtMost h₀ d.depth bs ∧ ReprK prog w bs h₀ d.depth v d.shown
  | _, _, .none, _, _ => ⟨[], nofun, by simp only [PyData.shown]; exact .of_is ReprIs.none _ _ _⟩
  | _, _, .bool b, _, _ => ⟨[], nofun, by simp only [PyData.shown]; exact .of_is (ReprIs.bool b) _ _ _⟩
  | _, _, .int i t, hs, _ => by
    have z : i.natAbs.log2 < 1920 := by simpa [PyData.showable] using hs
    exact ⟨[], nofun, by simp only [PyData.shown]; exact .of_is (ReprIs.int t z) _ _ _⟩
  | _, _, .str x t, _, hz => by
    simp only [PyData.shown] at hz ⊢
    exact ⟨[], nofun, .of_is (ReprIs.str x t hz) _ _ _⟩
  | _, _, .list (a := a) (vs := vs) (xs := xs) h1 h2 h3 h4, hs, hz => by
    have r : Rk h₀ (.ref a) (.list xs) := .list h1 h2 h3 h4
    obtain ⟨as, r⟩ := r.reads
    simp only [PyData.shown, PyData.showable] at hz hs
    obtain ⟨bs, hb, hk⟩ := rk_all h4 hs (fun t m => Nat.le_trans (listText_mem_le m) hz)
    have hna : a ∉ bs := not_mem_of_deeper r (lt_depth (by simp only [PyData.depth])) hb
    refine ⟨a :: bs, ReadAtMost.cons r (by simp only [PyData.depth]; omega) hb, ?_⟩
    simp only [PyData.depth, PyData.shown]
    obtain ⟨l⟩ := vs
    match l, h3, h4, hk with
    | [], h3, h4, _ =>
      cases (show RkAll h₀ [] xs from h4)
      simp only [PyData.shownAll, listText_nil]
      exact ReprK.listEmpty h1 h2 h3
    | x :: l, h3, h4, hk =>
      exact ReprK.list h1 h2 h3 hna (by simpa using hk.length_eq) (fun i y e => hk.item i y (by simpa using e))
  | _, _, .tuple (a := a) (xs := xs) h1 h2 h3 h4, hs, hz => by
    have r : Rk h₀ (.ref a) (.tuple xs) := .tuple h1 h2 h3 h4
    obtain ⟨as, r⟩ := r.reads
    simp only [PyData.shown, PyData.showable] at hz hs
    obtain ⟨bs, hb, hk⟩ := rk_all h4 hs (fun t m => Nat.le_trans (tupleText_mem_le m) hz)
    have hna : a ∉ bs := not_mem_of_deeper r (lt_depth (by simp only [PyData.depth])) hb
    refine ⟨a :: bs, ReadAtMost.cons r (by simp only [PyData.depth]; omega) hb, ?_⟩
    simp only [PyData.depth, PyData.shown]
    exact ReprK.tuple h1 h2 h3 hna hk
  | _, _, .dict (a := a) (es := es) (kvs := kvs) h1 h2 h3 hm h4 h5, hs, hz => by
    have r : Rk h₀ (.ref a) (.dict kvs) := .dict h1 h2 h3 hm h4 h5
    obtain ⟨as, r⟩ := r.reads
    simp only [PyData.shown, PyData.showable] at hz hs
    obtain ⟨s1, s2⟩ := PyData.showableKv_split kvs hs
    have le : ∀ p ∈ PyData.shownKv kvs, p.length ≤ sizeLine := fun p m => Nat.le_trans (dictText_mem_le m) hz
    obtain ⟨b1, hb1, k1⟩ := rk_all h4 s1 (fun t m =>
      let ⟨p, hp, hl⟩ := PyData.shownKv_key_le kvs t m; Nat.le_trans hl (le p hp))
    obtain ⟨b2, hb2, k2⟩ := rk_all h5 s2 (fun t m =>
      let ⟨p, hp, hl⟩ := PyData.shownKv_val_le kvs t m; Nat.le_trans hl (le p hp))
    have hb := (hb1.mono (PyData.depthAll_keys_le kvs)).append (hb2.mono (PyData.depthAll_vals_le kvs))
    have hna : a ∉ b1 ++ b2 := not_mem_of_deeper r (lt_depth (by simp only [PyData.depth])) hb
    refine ⟨a :: (b1 ++ b2), ReadAtMost.cons r (by simp only [PyData.depth]; omega) hb, ?_⟩
    simp only [PyData.depth, PyData.shown, PyData.shownKv_eq]
    have e1 := k1.more_le (fun b hb => List.mem_append_left b2 hb) (PyData.depthAll_keys_le kvs)
    have e2 := k2.more_le (fun b hb => List.mem_append_right b1 hb) (PyData.depthAll_vals_le kvs)
    exact ReprK.dict h1 h2 h3 hm hna (ReprEntriesK.of_two es.toList _ _ e1 e2)
theorem rk_all : ∀ {vs : List Value} {ds : List PyData}, RkAll h₀ vs ds → PyData.showableAll ds = true →
    (∀ t ∈ PyData.shownAll ds, LenOk t) → ∃ bs, ReadAtMost h₀ (PyData.depthAll ds) bs ∧
      ReprAllK prog w bs h₀ (PyData.depthAll ds) vs (PyData.shownAll ds)
  | _, _, .nil, _, _ => ⟨[], nofun, by simp only [PyData.shownAll]; exact .nil⟩
  | _, _, .cons (d := d) (ds := ds) r rs, hs, hz => by
    simp only [PyData.showableAll, Bool.and_eq_true] at hs
    simp only [PyData.shownAll] at hz ⊢
    obtain ⟨b1, hb1, k1⟩ := rk_shown r hs.1 (hz _ (List.mem_cons_self ..))
    obtain ⟨b2, hb2, k2⟩ := rk_all rs hs.2 (fun t m => hz t (List.mem_cons_of_mem _ m))
    simp only [PyData.depthAll]
    refine ⟨b1 ++ b2, (hb1.mono (Nat.le_max_left _ _)).append (hb2.mono (Nat.le_max_right _ _)), ?_⟩
    have e1 := (k1.more fun b hb => List.mem_append_left b2 hb).level_le (Nat.le_max_left d.depth (PyData.depthAll ds))
    exact .cons e1 (k2.more_le (fun b hb => List.mem_append_right b1 hb) (Nat.le_max_right _ _))
end

/-- repr(v) of data, no display under way -/
theorem repr_rk {A : Around} {E : Value → Shared → Prop} {s : Shared} {Q : Value → Shared → Prop} {v : Value}
    {d : PyData} (r : Rk s.heap v d) (hs : d.showable = true) (hz : LenOk d.shown) (hg : A.guards = some [])
    (hu : A.units + (d.depth + 1) < cLine)
    (hQ : ∀ h' u tk, (∀ b o, s.heap.get? b = some o → h'.get? b = some o) →
      Q (.str d.shown u) { s with heap := h', toks := tk }) :
    wpAny (model prog w) A (call (.builtin "repr") [v]) Q E s := by
  have same : ∀ u tk, Q (.str d.shown u) { s with toks := tk } := fun u tk => hQ s.heap u tk fun _ _ e => e
  have in1 : A.in1.guards = some [] := hg
  have un1 : ∀ n, A.units + (n + 1 + 1) < cLine → A.in1.units + (n + 1) < cLine := fun n z => by
    show A.units + 1 + (n + 1) < cLine
    omega
  cases r with
  | none =>
    simp only [PyData.shown] at same
    exact PySem.P.repr_of_none (same _ _)
  | bool b =>
    simp only [PyData.shown] at same
    exact PySem.P.repr_of_bool (same _ _)
  | int i t =>
    simp only [PyData.shown] at same
    exact PySem.P.repr_of_int (by simpa [PyData.showable] using hs) (same _ _)
  | str x t =>
    simp only [PyData.shown] at same hz
    exact PySem.P.repr_of_str (same _ _) hz
  | list h1 h2 h3 h4 =>
    rename_i a o vs n xs
    simp only [PyData.shown, PyData.showable, PyData.depth] at hz hs hu hQ same
    obtain ⟨as, rr⟩ := (Rk.list h1 h2 h3 h4).reads
    obtain ⟨bs, hb, hk⟩ := rk_all (prog := prog) (w := w) h4 hs (fun t m => Nat.le_trans (listText_mem_le m) hz)
    have hna : a ∉ bs := not_mem_of_deeper rr (lt_depth (by simp only [PyData.depth])) hb
    refine call_repr_slot (by omega) ⟨o, h1, h2⟩ PySem.F.slot_list_repr.toG ?_
    obtain ⟨l⟩ := vs
    match l, h3, h4, hk with
    | [], h3, h4, _ =>
      cases (show RkAll s.heap [] xs from h4)
      simp only [PyData.shownAll, listText_nil] at same
      exact call_list_repr_empty ⟨o, h1, h2⟩ h1 h3 ⟨_, _, rfl, same _ _⟩
    | x :: l, h3, h4, hk =>
      exact call_list_reprK h1 h2 h3 hna (by simpa using hk.length_eq)
        (fun i y e => hk.item i y (by simpa using e)) in1 (fun b _ => Clear.nil b) (un1 _ hu) (fun _ _ e => e)
        (fun h' u tk k => ⟨_, _, rfl, hQ h' u tk k⟩) hz
  | tuple h1 h2 h3 h4 =>
    rename_i a o vs n xs
    simp only [PyData.shown, PyData.showable, PyData.depth] at hz hs hu hQ same
    obtain ⟨as, rr⟩ := (Rk.tuple h1 h2 h3 h4).reads
    obtain ⟨bs, hb, hk⟩ := rk_all (prog := prog) (w := w) h4 hs (fun t m => Nat.le_trans (tupleText_mem_le m) hz)
    have hna : a ∉ bs := not_mem_of_deeper rr (lt_depth (by simp only [PyData.depth])) hb
    refine call_repr_slot (by omega) ⟨o, h1, h2⟩ PySem.F.slot_tuple_repr ?_
    exact call_tuple_reprK h1 h2 h3 hna hk in1 (fun b _ => Clear.nil b) (un1 _ hu) (fun _ _ e => e)
      (fun h' u tk k => ⟨_, _, rfl, hQ h' u tk k⟩) hz
  | dict h1 h2 h3 hm h4 h5 =>
    rename_i a o es n kvs
    simp only [PyData.shown, PyData.showable, PyData.depth] at hz hs hu hQ same
    obtain ⟨as, rr⟩ := (Rk.dict h1 h2 h3 hm h4 h5).reads
    obtain ⟨s1, s2⟩ := PyData.showableKv_split kvs hs
    have le : ∀ p ∈ PyData.shownKv kvs, p.length ≤ sizeLine := fun p m => Nat.le_trans (dictText_mem_le m) hz
    obtain ⟨b1, hb1, k1⟩ := rk_all (prog := prog) (w := w) h4 s1 (fun t m =>
      let ⟨p, hp, hl⟩ := PyData.shownKv_key_le kvs t m; Nat.le_trans hl (le p hp))
    obtain ⟨b2, hb2, k2⟩ := rk_all (prog := prog) (w := w) h5 s2 (fun t m =>
      let ⟨p, hp, hl⟩ := PyData.shownKv_val_le kvs t m; Nat.le_trans hl (le p hp))
    have hb := (hb1.mono (PyData.depthAll_keys_le kvs)).append (hb2.mono (PyData.depthAll_vals_le kvs))
    have hna : a ∉ b1 ++ b2 := not_mem_of_deeper rr (lt_depth (by simp only [PyData.depth])) hb
    have e1 := k1.more_le (fun b hb => List.mem_append_left b2 hb) (PyData.depthAll_keys_le kvs)
    have e2 := k2.more_le (fun b hb => List.mem_append_right b1 hb) (PyData.depthAll_vals_le kvs)
    refine call_repr_slot (by omega) ⟨o, h1, h2⟩ PySem.F.slot_dict_repr ?_
    rw [PyData.shownKv_eq] at hz
    simp only [PyData.shownKv_eq] at hQ
    exact call_dict_reprK h1 h2 h3 hm hna (ReprEntriesK.of_two es.toList _ _ e1 e2) in1
      (fun b _ => Clear.nil b) (un1 _ hu) (fun _ _ e => e) (fun h' u tk k => ⟨_, _, rfl, hQ h' u tk k⟩) hz
end

/-! ### the same over the abstract heap -/
def keyD : Key → PyData
  | .inl i => .int i
  | .inr x => .str x
mutual
inductive Dd (K : PySem.W.Frag) (H : Hp) : V → PyData → Prop
  | non : Dd K H .non .none
  | bl (b : Bool) : Dd K H (.bl b) (.bool b)
  | int (i : Int) : Dd K H (.int i) (.int i)
  | str (x : Str) : Dd K H (.str x) (.str x)
  | lst {a : Addr} {xs : List V} {ds : List PyData} : SqL K H a xs → DdAll K H xs ds → Dd K H (.ref a) (.list ds)
  | tup {a : Addr} {xs : List V} {ds : List PyData} : SqT K H a xs → DdAll K H xs ds → Dd K H (.ref a) (.tuple ds)
  | dic {a : Addr} {kvs : List (Key × V)} {ps : List (PyData × PyData)} : H a = some (.dK kvs) →
      ps.map (·.1) = kvs.map (fun p => keyD p.1) → DdAll K H (kvs.map (·.2)) (ps.map (·.2)) → Dd K H (.ref a) (.dict ps)
inductive DdAll (K : PySem.W.Frag) (H : Hp) : List V → List PyData → Prop
  | nil : DdAll K H [] []
  | cons {v : V} {vs : List V} {d : PyData} {ds : List PyData} : Dd K H v d → DdAll K H vs ds →
      DdAll K H (v :: vs) (d :: ds)
end
section
variable {X : Cx} {pins : List (Addr × Obj)} {σ : L2.St} {H : Hp} {s : Shared}
theorem keys_rk {h : Heap} : ∀ {kvs : List (Key × V)} {vs : List (Key × Value)} {es : List DictEntry},
    KV kvs vs → Pairs (mixKind X.prog X.w) es vs → RkAll h (es.map (·.key)) (kvs.map fun p => keyD p.1)
  | _, _, _, .nil, .nil => .nil
  | (k, _) :: _, (k', _) :: _, e :: _, .cons hk r, .cons he _ q => by
    obtain ⟨e1, _⟩ := hk
    dsimp only at e1
    subst e1
    refine .cons ?_ (keys_rk r q)
    rcases keyIs_shape he with ⟨i, t, rfl, e2⟩ | ⟨x, t, rfl, e2⟩
    · show Rk h e.key (.int i)
      rw [e2]; exact .int i t
    · show Rk h e.key (.str x)
      rw [e2]; exact .str x t
theorem vals_of {kvs : List (Key × V)} : ∀ {vs : List (Key × Value)} {es : List DictEntry},
    KV kvs vs → Pairs (mixKind X.prog X.w) es vs → Vals (kvs.map (·.2)) (es.map (·.val)) := by
  induction kvs with
  | nil =>
    intro vs es r q
    cases r
    cases q
    exact .nil
  | cons p kvs ih =>
    intro vs es r q
    cases r with
    | cons hk r =>
      cases q with
      | cons _ hv q => exact .cons (by dsimp only; rw [hv]; exact hk.2) (ih r q)
mutual
theorem Dd.rk (I : Inv X pins σ H s) : ∀ {d : PyData} {v : V} {u : Value}, Dd X.K H v d → RelV v u → Rk s.heap u d
  | .none, _, _, .non, r => by cases r; exact .none
  | .bool b, _, _, .bl _, r => by cases r; exact .bool b
  | .int i, _, _, .int _, r => by obtain ⟨t, rfl⟩ := r; exact .int i t
  | .str x, _, _, .str _, r => by obtain ⟨t, rfl⟩ := r; exact .str x t
  | .list ds, _, _, .lst hs ha, r => by
    cases r
    obtain ⟨its, rv, ⟨o, n, ho, hc, _, hd⟩, _⟩ := I.list hs
    exact .list ho hc hd (DdAll.rk I ha rv)
  | .tuple ds, _, _, .tup hs ha, r => by
    cases r
    obtain ⟨its, rv, ⟨o, ho, hc, n, hd⟩, _⟩ := I.tuple hs
    exact .tuple ho hc hd (DdAll.rk I ha rv)
  | .dict ps, _, _, .dic hs hk ha, r => by
    cases r
    obtain ⟨_, hm, vs, kv, o, es, ep, ho, hx, hd, _, hp, _⟩ := I.hok _ _ hs
    refine .dict ho hx.1 hd hm ?_ ?_
    · rw [hk]
      exact keys_rk (X := X) kv hp
    · exact DdAll.rk I ha (vals_of (X := X) kv hp)
theorem DdAll.rk (I : Inv X pins σ H s) : ∀ {ds : List PyData} {vs : List V} {us : List Value},
    DdAll X.K H vs ds → Vals vs us → RkAll s.heap us ds
  | [], _, _, .nil, r => by cases r; exact .nil
  | _ :: _, _, _, .cons h1 h2, r => by
    cases r with
    | cons r1 r2 => exact .cons (Dd.rk I h1 r1) (DdAll.rk I h2 r2)
end
/-- data stays where nothing tracked is changed -/
theorem SqT.same {K : PySem.W.Frag} {H H' : Hp} {a : Addr} {xs : List V} (s : Same H H') (h : SqT K H a xs) :
    SqT K H' a xs := by
  rcases h with (h | ⟨o, h⟩) | h
  · exact .inl (.inl (s _ _ h))
  · exact .inl (.inr ⟨o, s _ _ h⟩)
  · exact .inr h
mutual
theorem Dd.same {K : PySem.W.Frag} {H H' : Hp} (s : Same H H') : ∀ {d : PyData} {v : V}, Dd K H v d → Dd K H' v d
  | _, _, .non => .non
  | _, _, .bl b => .bl b
  | _, _, .int i => .int i
  | _, _, .str x => .str x
  | _, _, .lst h a => .lst (s.seq h) (DdAll.same s a)
  | _, _, .tup h a => .tup (SqT.same s h) (DdAll.same s a)
  | _, _, .dic h k a => .dic (s _ _ h) k (DdAll.same s a)
theorem DdAll.same {K : PySem.W.Frag} {H H' : Hp} (s : Same H H') : ∀ {d : List PyData} {v : List V},
    DdAll K H v d → DdAll K H' v d
  | _, _, .nil => .nil
  | _, _, .cons a b => .cons (Dd.same s a) (DdAll.same s b)
end
/-- what repr can write here -/
structure Shows (d : PyData) : Prop where
  ok : d.showable = true
  len : d.shown.length ≤ sizeLine
  dp : d.depth ≤ 100
/-- repr(x), x data -/
def rRepr (K : PySem.W.Frag) : List V → Hp → VK → Prop := fun xs H Q =>
  ∃ (x : V) (d : PyData), xs = [x] ∧ Dd K H x d ∧ Shows d ∧ Q (.str d.shown) H
theorem call_repr {k : Nat} (hg : X.A.guards = some []) (hr : Room k X.A) :
    CallR X (.builtin "repr") (rRepr X.K) := by
  intro pins s σ H xs us Q I r h
  obtain ⟨x, d, rfl, hd, ⟨h1, h2, h3⟩, q⟩ := h
  obtain ⟨u, rfl, ru⟩ := vals1 r
  have hu : X.A.units + (d.depth + 1) < cLine := by
    have := hr.un
    omega
  exact repr_rk (hd.rk I ru) h1 h2 hg hu fun h' u tk k => ⟨.str d.shown, H, I.kept k, ⟨u, rfl⟩, q⟩
end
end Q
set_option Elab.async false
set_option linter.all false
set_option maxRecDepth 100000
set_option maxHeartbeats 4000000
namespace Q
open PySem PySem.Spec PyProof.Rows L2

section
variable {X : Cx} {pins : List (Addr × Obj)} {σ : L2.St} {H : Hp} {s : Shared} {a : Addr} {o : HO}
/-- an object of this def's own making, so far untracked, is tracked from here on -/
theorem Inv.track (I : Inv X pins σ H s) (n : H a = none) (n0 : X.s_0.heap.get? a = none)
    (nL : a ≠ X.env.locals) (nC : ∀ x c, X.env.cells.lookup x = some c → c ≠ a)
    (nP : ∀ p ∈ X.pn ++ pins, p.1 ≠ a) (new : ObjOk X.prog X.w (upd H a o) s.heap a o) :
    Inv X pins σ (upd H a o) s := by
  have ne0 : ∀ {b ob}, X.s_0.heap.get? b = some ob → b ≠ a := fun e z => by rw [z, n0] at e; cases e
  have neH : ∀ {b u}, H b = some u → b ≠ a := fun e => ne_of_none e n
  obtain ⟨k1, k2, k3, k4, k5, k6, k7⟩ := I.base
  refine ⟨I.ok, I.os, I.bare, ⟨k1, k2, ?_, k4, ?_, ?_, ?_⟩, I.loc, I.cell, ?_, ?_, ?_, ?_, I.len⟩
  · intro b ob e z hx
    rw [upd_ne (ne0 e)]
    exact k3 b ob e z hx
  · intro b xs e
    rw [upd_ne (neH (k5 b xs e))]
    exact k5 b xs e
  · intro b ob u e
    rw [upd_ne (neH (k6 b ob u e))]
    exact k6 b ob u e
  · intro b ps e
    obtain ⟨more, q⟩ := k7 b ps e
    exact ⟨more, by rw [upd_ne (neH q)]; exact q⟩
  · rw [upd_ne (Ne.symm nL)]
    exact I.free
  · intro x c e
    rw [upd_ne (nC x c e)]
    exact I.freeC x c e
  · intro p hp
    obtain ⟨q1, q2, q3⟩ := I.pin p hp
    exact ⟨q1, by rw [upd_ne (nP p hp)]; exact q2, q3⟩
  · intro b u e
    by_cases z : b = a
    · subst z
      rw [upd_same] at e
      cases e
      exact new
    · rw [upd_ne z] at e
      refine (I.hok b u e).stay (fun _ _ _ q => q) (fun c q => ?_) (fun c xs q => ?_)
      · rw [upd_ne (neH q)]
        exact q
      · rw [upd_ne (neH q)]
        exact q
end

/-- what 'except x as n: ..' wishes, the exception kept behind the suite -/
def wKeep (K : PySem.W.Frag) (c : Value) (i : Nat) (ts : Addr → Value → Option Addr → TS) (Wout : WX)
    (D : Ends) : WX := fun cls d σ H =>
  ∃ b, PySem.W.exmOne K cls c = some b ∧
    (b = true → ∃ C, cls = .ref C ∧ ∀ a, H a = none → ts a cls d
      { nx := fun σ' H' => D.nx (σ'.set i none) (upd H' a (exv a C d)),
        rt := fun v H' => D.rt v (upd H' a (exv a C d)) } (σ.set i (some (.ref a))) H) ∧
    (b = false → Wout cls d σ H)
section
variable {X : Cx} {x n : Str} {c : Value} {i : Nat} {body suite : List Stmt} {b₀ : Stmt}
  {np pos pos' : Pos} {tb : WX → TS} {ts : Addr → Value → Option Addr → TS} {Wout : WX}
theorem ps_try_keep (hs : X.stack = X.env :: X.outer) (hf : X.env.frame = some X.env.locals)
    (hex : X.ex = []) (hN : X.N.Nodup) (hi : X.N[i]? = some n) (hln : X.env.kindOf n = some .local)
    (hc : Names X x c) (tk : Takes X Wout)
    (hb : ∀ (W : WX) (pn : List (Addr × Obj)) (xe : Value → Shared → Prop), Takes (X.tr pn xe) W →
      PassesOwn (model X.prog X.w) X.A X.env xe → PSs (X.tr pn xe) body (tb W))
    (hsu : ∀ (a : Addr) (oe : Obj) (cls : Value) (d : Option Addr) (pn : List (Addr × Obj)),
      Zc cls d oe → (∃ vs, oe.data = .fields vs) → PSs (X.suite a ((a, oe) :: pn)) (b₀ :: suite) (ts a cls d)) :
    PS X (.Try body [.ExceptHandler (some (.Name x np)) (some n) (b₀ :: suite) pos'] [] [] pos)
      (fun D σ H => tb (wKeep X.K c i ts Wout D) D σ H) := by
  constructor
  intro pins s σ H D I h
  have ok := I.ok
  have hfr : X.A.frames = some (X.env :: X.outer) := ok.frames.trans (by rw [hs])
  refine wpAny_Try_except ?_
  have run := (hb (wKeep X.K c i ts Wout D) (X.pn ++ pins)
    (fun e s₁ => wpAny (model X.prog X.w) X.A (noteFrame e X.env)
      (fun _ s₂ => wpAny (model X.prog X.w) X.A (setFlight e none)
        (fun _ s₃ => wpAny (model X.prog X.w) X.A
          (handleBy e X.env [.ExceptHandler (some (.Name x np)) (some n) (b₀ :: suite) pos'])
          (SP X pins D) X.xe s₃) X.xe s₂) X.xe s₁) ?caught PassesOwn.looking).run [] s σ H D (I.toTry _) h
  case caught =>
    rintro u s' ⟨a, B, sI, pins', σ', H', cls, d, rfl, J', nb, up, sky, na, os, ag, b, hb1, hyes, hno⟩
    have J : Inv X pins σ' H' sI := J'.ofTry ok
    rw [show (X.tr (X.pn ++ pins) _).stack = X.env :: X.outer from hs] at sky
    show wpAny (model X.prog X.w) X.A (noteFrame (.ref a) X.env) _ _ _
    refine Sky.land Zc.steady hfr hf sky ?_
    intro h3 fl3 up3
    have J3 : Inv X pins σ' H' { s' with heap := h3 } := J.landed nb fl3.1 (up.trans up3) os ag
    obtain ⟨oe3, vs3, he3, hz3, hd3⟩ := fl3.there
    have nfr : a ∉ frs (X.env :: X.outer) := by
      intro hm
      obtain ⟨_, ob, e', hnf⟩ := fl3.2.2.1.mem hm
      rw [he3] at e'
      cases e'
      exact hnf _ hd3
    have nL : a ≠ X.env.locals := fun z => nfr (List.mem_filterMap.mpr ⟨X.env, List.mem_cons_self, hf.trans (by rw [z])⟩)
    have nF : a ∉ X.fs := by
      intro hm
      obtain ⟨e, he, q⟩ := List.mem_filterMap.mp hm
      exact nfr (List.mem_filterMap.mpr ⟨e, List.mem_cons_of_mem _ he, q⟩)
    -- the exception was not there before
    have nB : B.get? a = none := by
      have z := fl3
      exact z.2.1
    have inI : ∀ {e ob}, sI.heap.get? e = some ob → e ∉ frs (X.env :: X.outer) → e ≠ a := by
      rintro e ob q nq rfl
      have q2 := nb e ob q (by show e ∉ frs X.stack; rw [hs]; exact nq)
      rw [nB] at q2
      cases q2
    have n0 : X.s_0.heap.get? a = none := by
      cases q : X.s_0.heap.get? a with
      | none => rfl
      | some ob =>
        obtain ⟨ob2, q2⟩ := J.base.there a ob q (by rw [hex]; exact List.not_mem_nil)
        exact absurd rfl (inI q2 nfr)
    have nP : ∀ p ∈ X.pn ++ pins, p.1 ≠ a := by
      intro p hp
      obtain ⟨q1, _, q3, q4, _⟩ := J.pin p hp
      refine inI q1 ?_
      intro hm
      obtain ⟨e, he, q⟩ := List.mem_filterMap.mp hm
      rcases List.mem_cons.mp he with z | z
      · rw [z, hf] at q
        exact q3 (Option.some.inj q).symm
      · exact q4 (List.mem_filterMap.mpr ⟨e, z, q⟩)
    have S3 := J3.suite he3 hd3 na nL nF
    refine wpAny_handleBy_cons (codeAny_handlers_test ?_) nofun
    have LT : PySem.W.Looks (model X.prog X.w) h3 (typeOf (.ref a)) cls :=
      fun A Q E s k q => wpAny_typeOf_ref (k _ _ he3) (by rw [hz3.1]; exact q)
    have LM := PySem.W.exm_one (M := model X.prog X.w) (J3.kIn) LT hb1
    have test : ∀ {Q : Value → Shared → Prop} {E : Value → Shared → Prop}, Q c { s' with heap := h3 } →
        wpAny (model X.prog X.w) (X.A.mark (some (.ref a))) (eval (.Name x np) X.env) Q E { s' with heap := h3 } := by
      intro Q E q
      obtain ⟨hg, hdbg, hm⟩ := hc
      rcases hm with hm | ⟨hm, hv, hnn⟩
      · exact ld_glob (X := X.suite a ((a, oe3) :: (X.pn ++ pins))) S3 hg hm q hdbg
      · exact ld_blt (X := X.suite a ((a, oe3) :: (X.pn ++ pins))) S3 hg hm hv q hnn hdbg
    refine test (LM.here ?_)
    cases b with
    | true =>
      obtain ⟨C, ec, hyes⟩ := hyes rfl
      subst ec
      refine codeAny_handlers_suite_as (HandSPX.lands_againZ fl3 ?_)
      intro h4 fl4 up4
      have J4 : Inv X pins σ' H' { s' with heap := h4 } := J.landed nb fl4.1 ((up.trans up3).trans up4) os ag
      obtain ⟨oe4, vs4, he4, hz4, hd4⟩ := fl4.there
      have S4 := J4.suite he4 hd4 na nL nF
      refine store_ok (X := X.suite a ((a, oe4) :: (X.pn ++ pins))) (v := .ref a) S4 hN hi (.inl hln) rfl ?_ (.inr hln)
      intro s5 S5
      have suiteRun := (hsu a oe4 (.ref C) d (X.pn ++ pins) hz4 ⟨_, hd4⟩).run [] s5 _ H' _ S5 (hyes a na)
      refine wpAny_mono suiteRun ?_ (fun _ _ z => False.elim z)
      intro f s6 hsp
      have fin : ∀ {σ6 : L2.St} {H6 : Hp} {Q : Shared → Prop},
          Inv (X.suite a ((a, oe4) :: (X.pn ++ pins))) [] σ6 H6 s6 →
          (∀ s7, Inv X pins (σ6.set i none) (upd H6 a (exv a C d)) s7 → Q s7) →
          wpAny (model X.prog X.w) X.A (do bindName X.env n .none; unbindBehindTheSuite X.env n pos')
            (fun _ s7 => Q s7) X.xe s6 := by
        intro σ6 H6 Q S6 hq
        obtain ⟨g1, g2, _⟩ := S6.pin (a, oe4) (List.mem_append.mpr (.inl List.mem_cons_self))
        have U := S6.unsuite ok
        have nC : ∀ y e, X.env.cells.lookup y = some e → e ≠ a := by
          rintro y e q rfl
          obtain ⟨v, ob, q1, q2⟩ := U.cell y e q
          have g1' : s6.heap.get? e = some oe4 := g1
          rw [q1] at g1'
          cases g1'
          rw [hd4] at q2
          cases q2
        have V := Inv.track (o := exv a C d) U g2 n0 nL nC nP (exv_ok g1 hz4 ⟨_, hd4⟩)
        exact gone_ok V hN hi hln hq
      match f, hsp with
      | .next, ⟨σ6, H6, S6, q6⟩ => exact fin S6 fun s7 J7 => ⟨_, _, J7, q6⟩
      | .brk, ⟨σ6, H6, S6, q6⟩ => exact False.elim q6
      | .cont, ⟨σ6, H6, S6, q6⟩ => exact False.elim q6
      | .ret u, ⟨v6, σ6, H6, S6, r6, q6⟩ => exact fin S6 fun s7 J7 => ⟨_, _, _, J7, r6, q6⟩
    | false =>
      show wpAny _ X.A (handleBy (.ref a) X.env []) _ _ _
      refine wpAny_handleBy_nil ?_
      obtain ⟨k1, k2, k3, oe, vs, TT, oT, ts', he, hz, hd, h1, hr⟩ := id fl3
      unfold PySem.passOn
      refine wpAny_bind (wpAny_field he hd h1 ?_)
      rw [if_neg (show ¬ ((Value.ref TT == Value.none) = true) from by simp)]
      have out : wpAny (model X.prog X.w) X.A (setFlight (.ref a) X.env.frame)
          (fun _ s4 => wpAny (model X.prog X.w) X.A (throw (.ref a) : Sem Flow) (SP X pins D) X.xe s4)
          X.xe { s' with heap := h3 } := by
        rw [hf]
        refine HandSPX.setFlight_upZ fl3 ?_
        intro h4 hh4 up4
        refine wpAny_throw (tk _ _ ?_)
        have sky4 : Sky B X.stack a (Zc cls d) X.env.locals h4 := .inr (.inr (by rw [hs]; exact hh4))
        exact ⟨a, B, sI, pins, σ', H', cls, d, rfl, J, nb, (up.trans up3).trans up4, sky4, na, os, ag, hno rfl⟩
      first
        | exact wpAny_bind (wpAny_pure (wpAny_bind out))
        | exact wpAny_bind out
  refine wpAny_mono run ?_ (fun e s1 he => he)
  intro f s1 hsp
  match f, hsp with
  | .next, ⟨σ', H', J', q⟩ => exact wpAny_execs_nil ⟨σ', H', J'.ofTry ok, q⟩
  | .brk, ⟨σ', H', J', q⟩ => exact ⟨σ', H', J'.ofTry ok, q⟩
  | .cont, ⟨σ', H', J', q⟩ => exact ⟨σ', H', J'.ofTry ok, q⟩
  | .ret u, ⟨v, σ', H', J', r, q⟩ => exact ⟨v, σ', H', J'.ofTry ok, r, q⟩
end
/-- repr(e) -/
theorem pe_repr {X : Cx} {k : Nat} {e : Expr} {te : TE} {p pos : Pos} (hgd : X.A.guards = some [])
    (hr : Room k X.A) (hm : X.mg "repr" = none) (ha : PE X e te) (hg : Gl X "repr" := by rfl)
    (h1 : starEach [e] X.env = (false, eval e X.env) :: starEach [] X.env := by rfl)
    (h2 : (backTo pos (starEach [] X.env)).any (·.1) = false := by rfl) :
    PE X (.Call (.Name "repr" p) [e] [] pos) (tCB (rRepr X.K) (tCons te tNil)) :=
  pe_callB (call_repr hgd hr) hg hm (by decide +kernel) (pa_cons ha pa_nil h1) (by decide) (by decide) h1 h2
end Q
set_option Elab.async false
set_option linter.all false
set_option maxRecDepth 100000
set_option maxHeartbeats 4000000
namespace Q
open PySem PySem.Spec PyProof.Rows L2

/-! sets made from lists, whatever the items are: the shell -/
def noneYet (w : World) : Obj :=
  { cls := .type "set"
    dict := none
    data := .set #[] 0 (.fresh 0 0 (!w.params.followText "set-order")) }
def walker (l : Addr) : Obj :=
  { cls := .type "list_iterator"
    data := .fields #[.ref l, .int 0 0] }
/-- the heap at which the items begin to come -/
def laidTwo (w : World) (h : Heap) (l : Addr) : Heap := (h.push (noneYet w)).push (walker l)

section
variable {P : Program} {w : World} {A : Around} {E : Value → Shared → Prop} {s : Shared}

theorem laid_set (h : Heap) (l : Addr) : (laidTwo w h l).get? h.objs.size = some (noneYet w) :=
  Heap.get?_push_of_some _ (Heap.get?_push_size _ rfl)
theorem laid_old {h : Heap} {l b : Addr} {o : Obj} (e : h.get? b = some o) : (laidTwo w h l).get? b = some o :=
  Heap.get?_push_of_some _ (Heap.get?_push_of_some _ e)

set_option maxRecDepth 100000 in
set_option maxHeartbeats 3200000 in
theorem set_shell {l : Addr} {items : Array Value} {Q : Value → Shared → Prop} (Post : Heap → Prop) (hl : s.heap.IsList l items)
    (loop : codeAny (model P w) A.in1.in1 (.builtin "set.update.loop" ⟨[.ref s.heap.objs.size, .ref (s.heap.push (noneYet w)).objs.size], []⟩)
      (fun r z => r = .ok (.ret .none) ∧ z.gens = s.gens ∧ z.drawn = s.drawn ∧ z.os = s.os ∧ Post z.heap) { s with heap := laidTwo w s.heap l })
    (next : ∀ (h' : Heap) (tk : Nat), Post h' → Q (.ref s.heap.objs.size) { s with heap := h', toks := tk }) :
    wpAny (model P w) A (call (.type "set") [.ref l]) Q E s := by
  obtain ⟨mroHead, mroTail, ofMro⟩ := F.called_set.mro
  have g1 := F.called_set.made
  have g2 := F.called_set.sub
  refine wpAny_call (codeAny_of_tree ?_)
  show wpAny _ _ (callAny (.type "set") _) _ _ _
  refine wpAny_pure ⟨Code.quiet_builtin _ (by decide +kernel), codeAny_builtin F.entry_type_call ?_⟩
  rw [Around.under_plain (weight_type_call_type "set" [.ref l] []) rfl]
  have g3 := F.called_set.notType
  have g4 := F.called_set.canCreate
  have g5 := F.typeCall_set_1 (.ref l)
  repeat (any_goals (first | assumption | wp_step))
  refine codeAny_mono (code_set_led1 (.ref l) (E := E) (Q₁ := fun v z => v = .ref s.heap.objs.size ∧ z = { s with heap := s.heap.push (noneYet w) }) ⟨rfl, rfl⟩) fun r z hz => ?_
  cases r with
  | error e => exact hz
  | ok fl =>
    cases fl with
    | ret v =>
      obtain ⟨rfl, rfl⟩ := hz
      have at1 : (s.heap.push (noneYet w)).get? s.heap.objs.size = some (noneYet w) := Heap.get?_push_size _ rfl
      have isSet : Shared.TypeIs { s with heap := s.heap.push (noneYet w) } (.ref s.heap.objs.size) "set" := ⟨_, at1, rfl⟩
      have g6 := F.called_set.init.lookup
      have g7 := F.called_set.init.bind (.ref s.heap.objs.size)
      repeat (any_goals (first | assumption | wp_step))
      refine codeAny_mono (codeAny_call_builtin (R := wants (fun r z => r = .none ∧ ∃ h' tk, z = { s with heap := h', toks := tk } ∧ Post h') E)
        F.called_set.init.plain F.entry_set_init (check_set_init_1 isSet ?_)) fun r z hz => ?_
      · obtain ⟨⟨lcls, ldict, ldata, lslots⟩, lat, lc, ln, ld⟩ := hl
        simp only at lc ld
        subst lc
        subst ld
        have lat1 : (s.heap.push (noneYet w)).get? l = some { cls := .type "list", dict := ldict, data := .seq items ln, slots := lslots } := Heap.get?_push_of_some _ lat
        have lis1 : (s.heap.push (noneYet w)).IsList l items := ⟨_, lat1, rfl, ln, rfl⟩
        have g8 := F.sub_list_set
        have g9 := F.sub_list_frozenset
        have g10 : (Value.type "list" == Value.type "dict") = false := by decide
        unfold Builtin.«set.__init__» noKeywords Builtin.Frozenset.updateFrom
        generalize hold : pyIter = PI
        wp_walk
        subst hold
        refine wpAny_pyIter_list lis1 ?_
        refine wpAny_bind (wpAny_runValue ?_)
        refine codeAny_mono loop fun r z hz => ?_
        obtain ⟨rfl, e1, e2, e3, hp⟩ := hz
        obtain ⟨zh, zg, zd, zt, zo⟩ := z
        dsimp only at e1 e2 e3 hp
        subst e1; subst e2; subst e3
        show wpAny _ _ _ _ _ _
        refine wpAny_pure ?_
        show wpAny _ _ (ret Value.none) _ _ _
        exact wpAny_pure ⟨rfl, zh, zt, rfl, hp⟩
      · cases r with
        | error e => exact hz
        | ok fl =>
          cases fl with
          | ret v =>
            obtain ⟨rfl, h', tk, rfl, hp⟩ := hz
            repeat (any_goals (first | assumption | wp_step))
            exact next _ _ hp
          | _ => exact hz.elim
    | _ => exact hz.elim
end
end Q
set_option Elab.async false
set_option linter.all false
set_option maxRecDepth 100000
set_option maxHeartbeats 4000000
namespace Q
open PySem PySem.Spec PyProof.Rows L2 PySem.W

/-! sorted(..) of a set whose members read as data -/
theorem each_perm {β : Type} {R : Value → β → Prop} {us vs : List Value} (p : vs.Perm us) : ∀ {bs : List β}, EachIs R us bs → ∃ cs : List β, cs.Perm bs ∧ EachIs R vs cs := by
  induction p with
  | nil => intro bs e; cases e; exact ⟨[], .nil, .nil⟩
  | cons x _ ih =>
    intro bs e
    cases e with
    | cons h t =>
      obtain ⟨cs, q, r⟩ := ih t
      exact ⟨_ :: cs, .cons _ q, .cons h r⟩
  | swap x y l =>
    intro bs e
    cases e with
    | cons h t =>
      cases t with
      | cons h2 t2 => exact ⟨_, .swap _ _ _, .cons h2 (.cons h t2)⟩
  | trans _ _ ih1 ih2 =>
    intro bs e
    obtain ⟨cs, q, r⟩ := ih2 e
    obtain ⟨ds, q2, r2⟩ := ih1 r
    exact ⟨ds, q2.trans q, r2⟩

/-- the set at a: its members are, in some order, the values us -/
def Members (w : World) (h : Heap) (a : Addr) (us : List Value) : Prop :=
  ∃ es ep t, SetAt h a es ep t ∧ (es.toList.map (·.2)).Perm us ∧ t.fits es.size = true ∧ es.size < scanBound ∧ Ris t.place.toList ∧
    (w.params.followText "set-order" = true ∨ t.led = true)
theorem Members.at {w : World} {h h' : Heap} {a : Addr} {us : List Value} (m : Members w h a us) (k : ∀ o, h.get? a = some o → h'.get? a = some o) : Members w h' a us := by
  obtain ⟨es, ep, t, sa, r⟩ := m
  exact ⟨es, ep, t, sa.at k, r⟩
theorem Members.ob {w : World} {h : Heap} {a : Addr} {us : List Value} (m : Members w h a us) : ∃ o, h.get? a = some o := by
  obtain ⟨es, ep, t, ⟨o, e, _⟩, _⟩ := m
  exact ⟨o, e⟩

section
variable {P : Program} {w : World} {A : Around} {E : Value → Shared → Prop} {s : Shared}
theorem sorted_members {β : Type} {R : Value → β → Prop} {enc : β → PyData} {a : Addr} {us : List Value} {bs : List β} {Q : Value → Shared → Prop}
    (m : Members w s.heap a us) (hh : A.handled = none) (e : EachIs (fun v b => R v b ∧ Reads s.heap v (enc b) []) us bs)
    (hal : ∀ cs : List β, cs.Perm bs → AllAlike (cs.map enc)) (hk : ∀ cs : List β, cs.Perm bs → Sortable (cs.map enc))
    (hu : ∀ b, b ∈ bs → A.units + 2 + (enc b).depth < cLine)
    (next : ∀ z p (out : Array Value) (c : Nat) (cs : List β), (∀ b o, s.heap.get? b = some o → z.heap.get? b = some o) → z.gens = s.gens → z.os = s.os → s.heap.objs.size ≤ p →
      z.heap.get? p = some (seqObj "list" out c) → cs.Perm bs → EachIs R out.toList (cs.mergeSort (dataLe false enc)) → Q (.ref p) z) :
    wpAny (model P w) A (call (.builtin "sorted") [.ref a]) Q E s := by
  obtain ⟨es, ep, t, sa, pm, hf, hb, hr, hl⟩ := m
  have lu : us.length = bs.length := e.length
  have le : us.length < scanBound := by
    rw [← pm.length_eq, List.length_map, Array.length_toList]
    exact hb
  refine Calls.call_function_entry kind_sorted plain_sorted entry_sorted (args_sorted1 _) ?_
  unfold Builtin.«sorted»
  refine wpAny_bind (m := checkCount "sorted" 1 1 _) (wpAny_pure ?_)
  refine wpAny_bind (collect_set (A := A.in1) hh sa hf hb hr hl fun s1 vs k1 hz g1 o1 q1 => ?_)
  have pv : vs.Perm us := q1.trans pm
  obtain ⟨cs, pc, ec⟩ := each_perm pv e
  have lv : vs.length = us.length := pv.length_eq
  have big : scanBound ≤ sizeLine := Nat.le_of_lt_succ (by rw [sizeLine_eq]; decide)
  refine wpAny_bind (wpAny_newList ?_ (by omega))
  have fresh : (s1.heap.push (seqObj "list" vs.toArray 0)).get? s1.heap.objs.size = some (seqObj "list" vs.toArray 0) := Heap.get?_push_size _ rfl
  have kept : ∀ b o, s.heap.get? b = some o → (s1.heap.push (seqObj "list" vs.toArray 0)).get? b = some o := fun b o q => Heap.get?_push_of_some _ (k1 b o q)
  refine wpAny_bind (wpAny_holding (list_sort_data (A := A.in1) (s := { s1 with heap := s1.heap.push (seqObj "list" vs.toArray 0) }) (vs := vs) (bs := cs) (enc := enc) (R := R) fresh
    (ec.mono fun _ _ q => q.1) (ec.mono fun _ _ q => ⟨[], PyProof.Rows.Reads.keeps kept q.2, by simp⟩) (hal cs pc) (hk cs pc) ?_ (fun b hb => ?_) fun out lo eo => ?_))
  · rw [pc.length_eq]
    omega
  · have q := hu b (pc.mem_iff.mp hb)
    show (A.units + 1) + 1 + (enc b).depth < cLine
    omega
  · obtain ⟨c, hc⟩ := sortedHeap_at (vs := vs) (out := out.toArray) fresh
    refine wpAny_pure ⟨_, rfl, next _ s1.heap.objs.size out.toArray c cs (fun b o q => ?_) g1 o1 hz hc pc (by simpa using eo)⟩
    have q2 := k1 b o q
    have lt := Heap.lt_size q2
    show (sortedHeap (s1.heap.push (seqObj "list" vs.toArray 0)) s1.heap.objs.size vs out.toArray).get? b = some o
    rw [sortedHeap_old (Nat.ne_of_lt lt) (by rw [size_push']; exact Nat.lt_succ_of_lt lt)]
    exact Heap.get?_push_of_some _ q2
end
end Q
set_option Elab.async false
set_option linter.all false
set_option maxRecDepth 100000
set_option maxHeartbeats 4000000
namespace Q
open PySem PySem.Spec PyProof.Rows L2

/-! sets of tuples whose items are texts and whole numbers; only new members come -/
theorem range_back {α : Type} : ∀ l : List α, (List.range l.length).filterMap (fun i => l[i]?) = l
  | [] => rfl
  | x :: l => by
    have ih := range_back l
    rw [List.length_cons, List.range_succ_eq_map, List.filterMap_cons_some (b := x) (by rfl), List.filterMap_map]
    congr 1
theorem reorder {α : Type} (es : Array α) (order : Array Nat) (f : α → Int) (p : order.toList.Perm (List.range es.size)) :
    ((order.filterMap (es[·]?)).toList).Perm es.toList ∧ (order.filterMap (es[·]?)).toList.map f = order.toList.map fun i => (es.map f).getD i 0 := by
  have e0 : (order.filterMap (es[·]?)).toList = order.toList.filterMap fun i => es.toList[i]? := by simp
  rw [e0]
  constructor
  · have q := p.filterMap fun i => es.toList[i]?
    have q2 := range_back es.toList
    rw [Array.length_toList] at q2
    rw [q2] at q
    exact q
  · have inside : ∀ i ∈ order.toList, i < es.size := fun i hi => List.mem_range.mp (p.mem_iff.mp hi)
    clear p e0
    generalize order.toList = l at inside
    induction l with
    | nil => rfl
    | cons i l ih =>
      have hi : i < es.size := inside i List.mem_cons_self
      have e1 : es.toList[i]? = some es[i] := by simp [hi]
      rw [List.filterMap_cons_some (f := fun i => es.toList[i]?) e1, List.map_cons, List.map_cons, ih fun j hj => inside j (List.mem_cons_of_mem _ hj)]
      congr 1
      simp [Array.getD_eq_getD_getElem?, hi]

abbrev tkh (P : Program) (w : World) (k : List Key) : Int := tupleKeyHash (mixKind P w) k
abbrev TupAt (P : Program) (w : World) (h : Heap) (k : List Key) (b : Addr) : Prop := IsTupleKey (mixKind P w) h k b
abbrev spot (m : Nat) (x : Int) (c : Nat) : SetTable.Probe := nth m (runAt m (SetTable.bits x % (m + 1)) (SetTable.bits x)) c

theorem TupAt.mono {P : Program} {w : World} {h h' : Heap} {k : List Key} {b : Addr} (x : TupAt P w h k b) (kp : ∀ o, h.get? b = some o → h'.get? b = some o) : TupAt P w h' k b := by
  obtain ⟨o, its, n, q, r⟩ := x
  exact ⟨o, its, n, kp o q, r⟩
theorem TupAt.notSet {P : Program} {w : World} {h : Heap} {k : List Key} {a b : Addr} {o : Obj} {es : Array (Int × Value)} {ep : Nat} {t : SetTable} (x : TupAt P w h k b) (q : h.get? a = some o) (d : o.data = .set es ep t) : b ≠ a := by
  rintro rfl
  obtain ⟨o2, its, n, q2, _, d2, _⟩ := x
  rw [q] at q2
  cases q2
  rw [d] at d2
  cases d2

/-- the set at a with its table; the members are tuples that stand in the heap -/
structure Bag (P : Program) (w : World) (h : Heap) (a : Addr) (es : Array (Int × Value)) (ep : Nat) (t : SetTable) : Prop where
  ob : ∃ o, h.get? a = some o ∧ o.ExactSet ∧ o.data = .set es ep t
  tab : TabOk t (es.toList.map (·.1))
  el : ∀ e ∈ es.toList, ∃ b k, e = (tkh P w k, Value.ref b) ∧ TupAt P w h k b
  led : w.params.followText "set-order" = true ∨ t.led = true
  room : es.size * 5 < t.mask * 3
  few : es.size < 64

section
variable {P : Program} {w : World} {A : Around} {E : Value → Shared → Prop} {s : Shared} {a : Addr} {es : Array (Int × Value)} {ep : Nat} {t : SetTable}

theorem tab_fits (T : TabOk t (es.toList.map (·.1))) (hr : es.size ≤ t.mask) : t.fits es.size = true := by
  have h1 := T.sz
  rw [List.length_map, Array.length_toList] at h1
  unfold SetTable.fits SetTable.fill
  rw [T.dm, Bool.and_eq_true, beq_iff_eq, decide_eq_true_eq]
  refine ⟨h1, ?_⟩
  show t.place.size + 0 ≤ t.mask
  omega
theorem Bag.fits (R : Bag P w s.heap a es ep t) : t.fits es.size = true := tab_fits R.tab (by have := R.room; omega)

/-! what the model asks of the items -/
theorem key_class (n : Nat) {k : Key} {v : Value} (h : (mixKind P w).is k v = true) : ofAClassStatement n v = pure false := by
  rcases keyIs_shape h with ⟨i, u, rfl, rfl⟩ | ⟨x, u, rfl, rfl⟩ <;> cases n <;> rfl
theorem items_shape {ks : List Key} {vs : List Value} (h : ItemsAre (mixKind P w) ks vs) : ∀ v ∈ vs, ∃ k, (mixKind P w).is k v = true := by
  induction h with
  | nil => intro v hv; cases hv
  | cons h1 _ ih =>
    intro v hv
    rcases List.mem_cons.mp hv with rfl | hv
    · exact ⟨_, h1⟩
    · exact ih v hv
theorem key_hashBy (n : Nat) {k : Key} {v : Value} (h : (mixKind P w).is k v = true) : ∃ b, hashByValue n v = pure b := by
  rcases keyIs_shape h with ⟨i, u, rfl, rfl⟩ | ⟨x, u, rfl, rfl⟩
  · exact ⟨true, by cases n <;> rfl⟩
  · exact ⟨false, by cases n <;> rfl⟩

theorem tup_class {k : List Key} {b : Addr} {Q : Bool → Shared → Prop} (x : TupAt P w s.heap k b) (h : Q false s) : wpAny (model P w) A (ofAClassStatement 8 (.ref b)) Q E s := by
  have ty := x.typeIs
  obtain ⟨o, its, n, q, _, d, r⟩ := x
  unfold ofAClassStatement
  refine wpAny_bind (wpAny_typeOf ty ?_)
  dsimp only
  simp only [show (("tuple" : String) == "tuple") = true by decide, if_true, Bool.not_true, Bool.false_eq_true, if_false]
  try refine wpAny_bind (wpAny_pure ?_)
  try simp only [Bool.not_true, Bool.false_eq_true, if_false]
  show wpAny _ _ (seqItems? (.ref b) >>= _) _ _ s
  refine wpAny_bind (wpAny_seqItems q d ?_)
  dsimp only
  refine wpAny_bind ?_
  show wpAny _ _ (forIn its _ _) _ _ s
  rw [← Array.forIn_toList]
  refine wpAny_forIn_list _ (fun left r z => r.1 = none ∧ z = s ∧ ∀ v ∈ left, ∃ k, (mixKind P w).is k v = true) _ ?_ ?_ _ _ ⟨rfl, rfl, items_shape r⟩
  · rintro v left r z ⟨_, rfl, all⟩
    obtain ⟨k1, h1⟩ := all v List.mem_cons_self
    rw [key_class _ h1]
    refine wpAny_bind (wpAny_pure ?_)
    simp only [Bool.false_eq_true, if_false]
    exact wpAny_pure ⟨rfl, rfl, fun u hu => all u (List.mem_cons_of_mem _ hu)⟩
  · rintro ⟨r1, r2⟩ z ⟨hr, rfl, _⟩
    simp only at hr
    subst hr
    exact wpAny_pure h
theorem tup_hashBy {k : List Key} {b : Addr} {Q : Bool → Shared → Prop} (x : TupAt P w s.heap k b) (h : ∀ y, Q y s) : wpAny (model P w) A (hashByValue 8 (.ref b)) Q E s := by
  have ty := x.typeIs
  obtain ⟨o, its, n, q, _, d, r⟩ := x
  unfold hashByValue
  refine wpAny_bind (wpAny_specialOf ty F.slot_tuple_hash.lookup ?_)
  show wpAny _ _ (seqItems? (.ref b) >>= _) _ _ s
  refine wpAny_bind (wpAny_seqItems q d ?_)
  refine wpAny_bind ?_
  show wpAny _ _ (forIn its _ _) _ _ s
  rw [← Array.forIn_toList]
  refine wpAny_forIn_list _ (fun left r z => z = s ∧ (∀ v ∈ left, ∃ k, (mixKind P w).is k v = true)) _ ?_ ?_ _ _ ⟨rfl, items_shape r⟩
  · rintro v left r z ⟨rfl, all⟩
    obtain ⟨k1, h1⟩ := all v List.mem_cons_self
    obtain ⟨y, hy⟩ := key_hashBy (P := P) (w := w) 7 h1
    rw [hy]
    refine wpAny_bind (wpAny_pure ?_)
    cases y
    · simp only [Bool.not_false, if_true]
      exact wpAny_pure (by dsimp only; exact wpAny_pure (h _))
    · simp only [Bool.not_true, Bool.false_eq_true, if_false]
      exact wpAny_pure ⟨rfl, fun u hu => all u (List.mem_cons_of_mem _ hu)⟩
  · rintro ⟨r1, r2⟩ z ⟨rfl, _⟩
    cases r1
    · exact wpAny_pure (h _)
    · exact wpAny_pure (h _)
theorem tup_seen {k : List Key} {b : Addr} {Q : Bool → Shared → Prop} (x : TupAt P w s.heap k b) {ys : List Value} (hy : ∀ y ∈ ys, ∃ c k2, y = Value.ref c ∧ TupAt P w s.heap k2 c) (h : Q false s) :
    wpAny (model P w) A (searchCouldBeSeen (.ref b) ys) Q E s := by
  unfold searchCouldBeSeen
  refine wpAny_bind ?_
  refine wpAny_forIn_list _ (fun left r z => r.1 = none ∧ z = s ∧ ∀ y ∈ left, ∃ c k2, y = Value.ref c ∧ TupAt P w s.heap k2 c) _ ?_ ?_ _ _ ⟨rfl, rfl, hy⟩
  · rintro v left r z ⟨_, rfl, all⟩
    obtain ⟨c, k2, rfl, xc⟩ := all v List.mem_cons_self
    have all2 : ∀ y ∈ left, ∃ c k2, y = Value.ref c ∧ TupAt P w z.heap k2 c := fun u hu => all u (List.mem_cons_of_mem _ hu)
    dsimp only
    by_cases same : (b == c || (carriedByValue (.ref b) && carriedByValue (.ref c))) = true
    · exact wp_if_pos same (wpAny_pure ⟨rfl, rfl, all2⟩)
    · refine wp_if_neg same (wpAny_bind (wpAny_eqIsQuiet_tuple x ?_))
      simp only [Bool.not_true, Bool.false_eq_true, if_false]
      refine wpAny_bind (wpAny_eqIsQuiet_tuple xc ?_)
      simp only [Bool.not_true, Bool.false_eq_true, if_false]
      refine wpAny_bind (tup_class x ?_)
      simp only [Bool.false_eq_true, if_false]
      refine wpAny_bind (tup_class xc ?_)
      simp only [Bool.false_eq_true, if_false]
      exact wpAny_pure ⟨rfl, rfl, all2⟩
  · rintro ⟨r1, r2⟩ z ⟨hr, rfl, _⟩
    simp only at hr
    subst hr
    exact wpAny_pure h
end
end Q
set_option Elab.async false
set_option linter.all false
set_option maxRecDepth 100000
set_option maxHeartbeats 4000000
namespace Q
open PySem PySem.Spec PyProof.Rows L2
section
variable {P : Program} {w : World} {A : Around} {E : Value → Shared → Prop} {s : Shared} {a : Addr} {es : Array (Int × Value)} {ep : Nat} {t : SetTable}

theorem spot_dummy (m : Nat) (x : Int) (c : Nat) : (spot m x c).dummy = none := by
  have main : ∀ (n : Nat) (q : SetTable.Probe), q.dummy = none → (nth m q n).dummy = none := by
    intro n
    induction n with
    | zero => exact fun q h => h
    | succ n ih =>
      refine fun q h => ih (adv m q) ?_
      unfold adv
      split
      · exact h
      · exact h
  exact main c _ rfl
theorem spot_shift (m : Nat) (x : Int) (c d : Nat) : nth m (spot m x c) d = spot m x (c + d) := (nth_add m c _ d).symm

/-- a key that is not there: the search ends at the first empty slot of its way -/
theorem search_new (R : Bag P w s.heap a es ep t) {x : Addr} {k : List Key} (hx : TupAt P w s.heap k x) (hu : A.units < cLine)
    (new : ∀ e ∈ es.toList, ∀ b k2, e = (tkh P w k2, Value.ref b) → TupAt P w s.heap k2 b → k2 ≠ k) {K : Nat} (hK1 : K < 10 * SetTable.turns t.mask)
    (hK2 : (spot t.mask (tkh P w k) K).j ∉ t.place.toList) (hK3 : ∀ c, c < K → (spot t.mask (tkh P w k) c).j ∈ t.place.toList)
    {Q : SetFound → Shared → Prop} (next : Q (.free (spot t.mask (tkh P w k) K).j false) s) :
    ∀ (f c : Nat) (stand : Option SetTable.Probe), stand.getD (t.probeStart (tkh P w k)) = spot t.mask (tkh P w k) c → c ≤ K → K - c < f →
      wpAny (model P w) A (setSearchFrom a (.ref x) (tkh P w k) true f stand) Q E s := by
  obtain ⟨o, ho, hex, hd⟩ := R.ob
  intro f
  induction f with
  | zero => exact fun c stand _ _ z => absurd z (Nat.not_lt_zero _)
  | succ f ih =>
    intro c stand st hc hf
    rw [setSearchFrom_succ]
    refine wpAny_bind (wpAny_setState_of ho hd R.fits ?_)
    dsimp only
    refine wp_if_neg (by unfold SetTable.gaveWay; rw [mask_odd R.tab.mok]; decide) ?_
    try refine wpAny_bind (wpAny_pure ?_)
    have spec := go_spec t R.tab.ris R.tab.dm (fun i => (es[i]?.map (·.1)).getD 0) (tkh P w k) (10 * SetTable.turns t.mask) (K - c) (spot t.mask (tkh P w k) c) (spot_dummy _ _ _) (by omega)
      (fun d hd => by rw [spot_shift]; exact hK3 _ (by omega)) (by rw [spot_shift, Nat.add_sub_cancel' hc]; exact hK2)
    rcases spec with ⟨d, i, hd1, hi, hh, _, pr⟩ | ⟨_, pr⟩
    · rw [spot_shift] at hi
      rw [spot_shift, spot_shift] at pr
      have pr2 : t.probe (fun i => (es[i]?.map (·.1)).getD 0) (tkh P w k) (stand.getD (t.probeStart (tkh P w k))) = some (.candidate (spot t.mask (tkh P w k) (c + d)).j i (spot t.mask (tkh P w k) (c + (d + 1)))) := by
        rw [st]
        exact pr
      rw [pr2]
      dsimp only
      have il : i < es.size := by
        have q1 := (List.getElem?_eq_some_iff.mp hi).1
        have q2 := R.tab.sz
        rw [List.length_map, Array.length_toList] at q2
        rw [Array.length_toList] at q1
        omega
      have ei : es[i]? = some es[i] := Array.getElem?_eq_getElem il
      have em : es[i] ∈ es.toList := Array.getElem_mem_toList il
      obtain ⟨b, k2, e2, xb⟩ := R.el _ em
      have ne : k2 ≠ k := new _ em b k2 e2 xb
      rw [e2] at ei
      have onward : wpAny (model P w) A (searchRest a (.ref x) (tkh P w k) true f es t (spot t.mask (tkh P w k) (c + d)).j i (spot t.mask (tkh P w k) (c + (d + 1)))) Q E s := by
        unfold searchRest
        rw [ei]
        dsimp only
        refine wpAny_bind (wpAny_holding (wpAny_eqBool_tuple hu xb hx ?_))
        refine wpAny_bind (wpAny_setState_of ho hd R.fits ?_)
        dsimp only
        refine wp_if_neg (by simp [ne]) ?_
        try refine wpAny_bind (wpAny_pure ?_)
        rw [sameMem]
        dsimp only
        simp only [if_true, slot_live R.tab.ris hi, ei]
        refine wpAny_bind (wpAny_isSame_ref_self (wpAny_bind (wpAny_pure ?_)))
        simp only [if_true]
        refine wp_if_neg (by simp [ne]) ?_
        exact ih (c + (d + 1)) _ rfl (by omega) (by omega)
      by_cases hl : t.led = true
      · refine wp_if_neg (by simp [hl]) ?_
        try refine wpAny_bind (wpAny_pure ?_)
        exact onward
      · refine wp_if_pos (by simp [hl]) ?_
        refine wpAny_bind (tup_seen hx (fun y hy => ?_) ?_)
        · obtain ⟨e, he, ee⟩ := List.mem_map.mp hy
          have inE : e ∈ es.toList := by
            have z : e ∈ es ∧ e.1 = tkh P w k := by simpa using he
            simpa using z.1
          obtain ⟨b2, k3, e3, x3⟩ := R.el e inE
          exact ⟨b2, k3, by rw [← ee, e3], x3⟩
        · refine wp_if_neg (by decide) ?_
          try refine wpAny_bind (wpAny_pure ?_)
          exact onward
    · rw [spot_shift, Nat.add_sub_cancel' hc] at pr
      have pr2 : t.probe (fun i => (es[i]?.map (·.1)).getD 0) (tkh P w k) (stand.getD (t.probeStart (tkh P w k))) = some (.empty (spot t.mask (tkh P w k) K).j none) := by
        rw [st]
        exact pr
      rw [pr2]
      dsimp only
      exact wpAny_pure next

/-- the table grows -/
theorem relay_bag {o : Obj} (ho : s.heap.get? a = some o) (hex : o.ExactSet) (hd : o.data = .set es ep t) (T : TabOk t (es.toList.map (·.1))) (fit : es.size ≤ t.mask)
    (el : ∀ e ∈ es.toList, ∃ b k, e = (tkh P w k, Value.ref b) ∧ TupAt P w s.heap k b) (ld : w.params.followText "set-order" = true ∨ t.led = true) (few : es.size < 64) {n M : Nat}
    (hn1 : SetTable.sizeAbove n - 1 = M) (hM : MaskOk M) (hn2 : SetTable.sizeAbove n ≤ 128) (hn3 : es.size * 5 < M * 3) {Q : Unit → Shared → Prop}
    (next : ∀ h' es2 ep2 t2, Heap.SameBut a s.heap h' → Bag P w h' a es2 ep2 t2 → es2.toList.Perm es.toList → Q () { s with heap := h' }) : wpAny (model P w) A (setRelay a n) Q E s := by
  obtain ⟨t2, order, e, po, T2, m2, l2, _, _⟩ := relaid_ok t (hs := es.map (·.1)) (wanted := n) hn1 hM (by rw [Array.size_map]; omega)
  rw [Array.size_map] at po
  obtain ⟨r1, r2⟩ := reorder es order (·.1) po
  rw [← r2] at T2
  have z2 : (order.filterMap (es[·]?)).size = es.size := by
    have q := r1.length_eq
    rw [Array.length_toList, Array.length_toList] at q
    exact q
  rw [setRelay_eq]
  refine wpAny_bind (wpAny_setState_of ho hd (tab_fits T fit) ?_)
  dsimp only
  refine wp_if_neg (by rw [sizeLine_eq]; omega) ?_
  try refine wpAny_bind (wpAny_pure ?_)
  rw [e]
  dsimp only
  refine wpAny_bind ?_
  refine wp_if_neg (by rw [z2]; simp) ?_
  try refine wpAny_bind (wpAny_pure ?_)
  refine wpAny_pure ?_
  dsimp only
  refine wpAny_storeSet_of ho hd ?_ (by rw [z2, sizeLine_eq]; omega)
  have sb : Heap.SameBut a s.heap (s.heap.update a (Obj.putSet (order.filterMap (es[·]?)) t2)) := Heap.SameBut.update ..
  refine next _ (order.filterMap (es[·]?)) (ep + 1) t2 sb ⟨⟨_, store_at ho hd, ⟨hex.1, hex.2.1, hex.2.2⟩, rfl⟩, T2, fun e1 he => ?_, by rw [l2]; exact ld, by rw [z2, m2]; exact hn3, by rw [z2]; exact few⟩ r1
  obtain ⟨b, k, e3, x3⟩ := el e1 (r1.mem_iff.mp he)
  exact ⟨b, k, e3, x3.mono fun o2 q => (sb.2 b (x3.notSet ho hd)).trans q⟩

theorem tab_plain {hs : List Int} (T : TabOk t hs) : TabOk { t with plain := false } hs := ⟨T.ris, T.dm, T.sz, T.mok, T.bd, T.reach⟩

/-- a new tuple comes in -/
theorem add_new (R : Bag P w s.heap a es ep t) {x : Addr} {k : List Key} (hx : TupAt P w s.heap k x) (hu : A.units < cLine)
    (new : ∀ e ∈ es.toList, ∀ b k2, e = (tkh P w k2, Value.ref b) → TupAt P w s.heap k2 b → k2 ≠ k) (few : es.size + 1 < 64) {Q : Bool → Shared → Prop}
    (next : ∀ h' es2 ep2 t2, Heap.SameBut a s.heap h' → Bag P w h' a es2 ep2 t2 → es2.toList.Perm ((tkh P w k, Value.ref x) :: es.toList) → Q true { s with heap := h' }) :
    wpAny (model P w) A (setAddHashed a (.ref x) (tkh P w k)) Q E s := by
  obtain ⟨o, ho, hex, hd⟩ := R.ob
  have room := R.room
  have lh : (es.toList.map (·.1)).length = es.size := by rw [List.length_map, Array.length_toList]
  obtain ⟨K, hK1, hK2, hK3⟩ := R.tab.first (by rw [lh]; omega) (tkh P w k)
  have hK4 : K < 100000 := by
    have q : 10 * SetTable.turns t.mask ≤ 1420 := by
      unfold SetTable.turns
      rcases R.tab.mok with e | e | e <;> omega
    omega
  unfold setAddHashed
  refine wpAny_holding ?_
  rw [show (100000 : Nat) = 99999 + 1 from rfl, setAddHashedIn_succ]
  refine wpAny_bind (wpAny_setState_of ho hd R.fits ?_)
  dsimp only
  refine wp_if_neg (by simp [byScan, Value.scannable]) ?_
  try refine wpAny_bind (wpAny_pure ?_)
  unfold setSearch
  refine wpAny_bind (search_new R hx hu new hK1 hK2 hK3 ?_ 100000 0 none rfl (Nat.zero_le _) (by omega))
  dsimp only
  refine wpAny_bind (wpAny_setState_of ho hd R.fits ?_)
  dsimp only
  obtain ⟨q1, q2, q3, q4, q5, q6, q7, q8, q9⟩ := R.tab.put hK2 hK3
  rw [lh] at q2 q9
  generalize hput : t.put (spot t.mask (tkh P w k) K).j = pt at q1 q3 q4 q5 q6 q7 q8 q9 ⊢
  obtain ⟨t1, p⟩ := pt
  dsimp only at q1 q3 q4 q5 q6 q7 q8 q9 ⊢
  subst q1
  have goal2 : ∀ t2 : SetTable, t2 = t1 ∨ t2 = { t1 with plain := false } → wpAny (model P w) A (do
      storeSet a (SetTable.insertAt es (SetTable.below t.place (spot t.mask (tkh P w k) K).j) (tkh P w k, Value.ref x)) t2
      if (!false && t2.tooFull) = true then setRelay a (SetTable.grown (es.size + 1))
      return true) Q E s := fun t2 ht2 => by
    have T2 : TabOk t2 ((es.toList.map (·.1)).take (SetTable.below t.place (spot t.mask (tkh P w k) K).j) ++ tkh P w k :: (es.toList.map (·.1)).drop (SetTable.below t.place (spot t.mask (tkh P w k) K).j)) := by
      rcases ht2 with rfl | rfl
      · exact q3
      · exact tab_plain q3
    have m2 : t2.mask = t.mask := by rcases ht2 with rfl | rfl <;> exact q4
    have l2 : t2.led = t.led := by rcases ht2 with rfl | rfl <;> exact q5
    have f2 : t2.fill = es.size + 1 := by rcases ht2 with rfl | rfl <;> exact q9
    clear q3 q4 q5 q6 q7 q8 q9 ht2 hput
    generalize SetTable.below t.place (spot t.mask (tkh P w k) K).j = p at q2 T2 ⊢
    have i1 : (SetTable.insertAt es p (tkh P w k, Value.ref x)).toList = es.toList.take p ++ (tkh P w k, Value.ref x) :: es.toList.drop p := SetTable.toList_insertAt ..
    have pm : (SetTable.insertAt es p (tkh P w k, Value.ref x)).toList.Perm ((tkh P w k, Value.ref x) :: es.toList) := by
      rw [i1]
      exact put_perm _ _ _
    rw [← List.map_take, ← List.map_drop, ← List.map_cons (f := fun e : Int × Value => e.1) (a := (tkh P w k, Value.ref x)), ← List.map_append, ← i1] at T2
    generalize SetTable.insertAt es p (tkh P w k, Value.ref x) = es1 at pm T2 ⊢
    have z1 : es1.size = es.size + 1 := by
      have q := pm.length_eq
      rw [List.length_cons, Array.length_toList, Array.length_toList] at q
      exact q
    refine wpAny_bind (wpAny_storeSet_of ho hd ?_ (by rw [z1, sizeLine_eq]; omega))
    have sb : Heap.SameBut a s.heap (s.heap.update a (Obj.putSet es1 t2)) := Heap.SameBut.update ..
    have ho1 := store_at (es' := es1) (t' := t2) ho hd
    generalize s.heap.update a (Obj.putSet es1 t2) = h1 at sb ho1 ⊢
    have el1 : ∀ e ∈ es1.toList, ∃ b k, e = (tkh P w k, Value.ref b) ∧ TupAt P w h1 k b := fun e he => by
      rcases List.mem_cons.mp (pm.mem_iff.mp he) with q | q
      · exact ⟨x, k, q, hx.mono fun o2 z => (sb.2 x (hx.notSet ho hd)).trans z⟩
      · obtain ⟨b, k3, e3, x3⟩ := R.el e q
        exact ⟨b, k3, e3, x3.mono fun o2 z => (sb.2 b (x3.notSet ho hd)).trans z⟩
    have ld1 : w.params.followText "set-order" = true ∨ t2.led = true := by rw [l2]; exact R.led
    have full : t2.tooFull = decide ((es.size + 1) * 5 ≥ t.mask * 3) := by
      unfold SetTable.tooFull
      rw [f2, m2]
    by_cases hf : t2.tooFull = true
    · have big : (es.size + 1) * 5 ≥ t.mask * 3 := by
        rw [full, decide_eq_true_eq] at hf
        exact hf
      first
        | (refine wpAny_bind ?_; refine wp_if_pos (by simp [hf]) ?_)
        | (refine wp_if_pos (by simp [hf]) ?_; refine wpAny_bind ?_)
      have two : (t.mask = 7 ∧ es.size = 4) ∨ (t.mask = 31 ∧ es.size = 18) := by
        rcases R.tab.mok with e | e | e <;> rw [e] at big room <;> first | (exact .inl ⟨e, by omega⟩) | (exact .inr ⟨e, by omega⟩) | (exfalso; omega)
      have grow : ∀ M, SetTable.sizeAbove (SetTable.grown (es.size + 1)) - 1 = M → MaskOk M → SetTable.sizeAbove (SetTable.grown (es.size + 1)) ≤ 128 → (es.size + 1) * 5 < M * 3 →
          wpAny (model P w) A (setRelay a (SetTable.grown (es.size + 1))) (fun _ z => wpAny (model P w) A (pure true) Q E z) E { s with heap := h1 } := fun M c1 c2 c3 c4 => by
        refine relay_bag (s := { s with heap := h1 }) ho1 ⟨hex.1, hex.2.1, hex.2.2⟩ rfl T2 (by rw [m2, z1]; rcases two with ⟨e, e2⟩ | ⟨e, e2⟩ <;> omega) el1 ld1 (by rw [z1]; exact few) c1 c2 c3 (by rw [z1]; exact c4) ?_
        intro h2 es2 ep2 t3 sb2 R2 pm2
        exact wpAny_pure (next h2 es2 ep2 t3 (sb.trans sb2) R2 (pm2.trans pm))
      rcases two with ⟨_, e2⟩ | ⟨_, e2⟩
      · exact grow 31 (by rw [e2, size_20]) (.inr (.inl rfl)) (by rw [e2, size_20]; decide) (by omega)
      · exact grow 127 (by rw [e2, size_76]) (.inr (.inr rfl)) (by rw [e2, size_76]; decide) (by omega)
    · first
        | refine wp_if_neg (by simp [hf]) ?_
        | (refine wpAny_bind ?_; refine wp_if_neg (by simp [hf]) ?_; refine wpAny_pure ?_)
      refine wpAny_pure (next h1 es1 (ep + 1) t2 sb ⟨⟨_, ho1, ⟨hex.1, hex.2.1, hex.2.2⟩, rfl⟩, T2, el1, ld1, ?_, by rw [z1]; exact few⟩ pm)
      rw [full, decide_eq_true_eq] at hf
      rw [z1, m2]
      omega
  by_cases hp : t1.plain = true
  · first
      | (refine wpAny_bind ?_; refine wp_if_pos hp ?_; refine tup_hashBy hx fun y => ?_)
      | refine wp_if_pos hp (wpAny_bind (tup_hashBy hx fun y => ?_))
    cases y
    · exact goal2 _ (.inr rfl)
    · exact goal2 _ (.inl rfl)
  · first
      | (refine wpAny_bind ?_; refine wp_if_neg hp ?_; refine wpAny_pure ?_)
      | refine wp_if_neg hp (wpAny_bind (wpAny_pure ?_))
      | refine wp_if_neg hp ?_
    exact goal2 _ (.inl rfl)
end
end Q
set_option Elab.async false
set_option linter.all false
set_option maxRecDepth 100000
set_option maxHeartbeats 4000000
namespace Q
open PySem PySem.Spec PyProof.Rows L2
section
variable {P : Program} {w : World} {A : Around} {E : Value → Shared → Prop} {s : Shared}

/-- the loop that fills a set; J: what holds behind i items -/
theorem fill_loop {I : Addr} {fp wr : List Addr} {G : Array GenState → Array GenState → Prop} {n : Nat} {Pv : Nat → Value → Prop} {St : Nat → Shared → Prop} {R : Result → Shared → Prop}
    (W : WalksS P w A.in1 I fp wr G n Pv St) (S : Addr) (apart : S ∉ fp) (J : Nat → Heap → Prop)
    (moves : ∀ i h h', J i h → (∀ b o, b ∉ wr → h.get? b = some o → h'.get? b = some o) → J i h')
    (step : ∀ (E : Value → Shared → Prop) (i : Nat) (v : Value) (z : Shared) (Q : Bool → Shared → Prop), i < n → Pv i v → J i z.heap →
      (∀ b h' tk, z.toks ≤ tk → Heap.SameBut S z.heap h' → J (i + 1) h' → Q b { z with heap := h', toks := tk }) → wpAny (model P w) A.in1 (setAdd S v) Q E z) :
    ∀ (k i : Nat) (z : Shared), n - i = k → i ≤ n → St i z → J i z.heap → (∀ z', Moved (S :: wr) G z z' → J n z'.heap → R (.ok (.ret .none)) z') →
      codeAny (model P w) A (.builtin "set.update.loop" ⟨[.ref S, .ref I], []⟩) R z := by
  have wide : ∀ b ∈ wr, b ∈ S :: wr := fun _ q => List.mem_cons_of_mem _ q
  intro k
  induction k with
  | zero =>
    intro i z ek hi st j fin
    have ei : i = n := by omega
    subst ei
    refine codeAny_builtin F.entry_set_update_loop ?_
    rw [Around.under_plainId F.plain_set_update_loop _]
    show wpAny _ A.in1 (pyNext (.ref I) >>= _) _ _ z
    refine wpAny_bind (W.done z _ _ st fun z1 mv => ?_)
    show wpAny _ A.in1 (ret Value.none) _ _ z1
    exact wpAny_pure (fin z1 (mv.mono wide) (moves _ _ _ j fun b o nb q => mv.heap b o nb q))
  | succ k ih =>
    intro i z ek hi st j fin
    have lt : i < n := by omega
    refine codeAny_builtin F.entry_set_update_loop ?_
    rw [Around.under_plainId F.plain_set_update_loop _]
    show wpAny _ A.in1 (pyNext (.ref I) >>= _) _ _ z
    refine wpAny_bind (W.item i z _ _ lt st fun v z1 pv st1 mv => ?_)
    have j1 := moves _ _ _ j fun b o nb q => mv.heap b o nb q
    show wpAny _ A.in1 (holding [v] (setAdd S v) >>= _) _ _ z1
    refine wpAny_bind (wpAny_holding ?_)
    refine step _ i v z1 _ lt pv j1 fun b h' tk le sb j2 => ?_
    refine wpAny_pure ⟨plainId_quiet F.plain_set_update_loop _, ih (i + 1) _ (by omega) lt (W.frame _ z1 _ _ st1 le fun c hc o q => ?_) j2 fun z2 mv2 j3 => ?_⟩
    · rw [sb.2 c fun e : c = S => apart (by rw [← e]; exact hc)]
      exact q
    · refine fin z2 (Moved.trans W.gtrans ((mv.mono wide).then_heap le fun c o hc q => ?_) mv2) j3
      rw [sb.2 c fun e : c = S => hc (by rw [e]; exact List.mem_cons_self)]
      exact q

/-- a set of a list, by what each item's coming in does -/
theorem set_filled {l : Addr} {items : Array Value} {Q : Value → Shared → Prop} (J : Nat → Heap → Prop) (hh : A.handled = none) (hl : s.heap.IsList l items)
    (begin_ : J 0 (laidTwo w s.heap l))
    (moves : ∀ i h h', J i h → (∀ b o, b ≠ (s.heap.push (noneYet w)).objs.size → h.get? b = some o → h'.get? b = some o) → J i h')
    (step : ∀ (E : Value → Shared → Prop) (i : Nat) (v : Value) (z : Shared) (Q : Bool → Shared → Prop), i < items.size → items[i]? = some v → J i z.heap →
      (∀ b h' tk, z.toks ≤ tk → Heap.SameBut s.heap.objs.size z.heap h' → J (i + 1) h' → Q b { z with heap := h', toks := tk }) → wpAny (model P w) A.in1.in1.in1 (setAdd s.heap.objs.size v) Q E z)
    (next : ∀ (h' : Heap) (tk : Nat), (∀ b o, s.heap.get? b = some o → h'.get? b = some o) → J items.size h' → Q (.ref s.heap.objs.size) { s with heap := h', toks := tk }) :
    wpAny (model P w) A (call (.type "set") [.ref l]) Q E s := by
  obtain ⟨o, ho, hc, n, hd⟩ := id hl
  have ll : l < s.heap.objs.size := Heap.lt_size ho
  have z1 : (s.heap.push (noneYet w)).objs.size = s.heap.objs.size + 1 := Heap.size_push ..
  have lis1 : (s.heap.push (noneYet w)).IsList l items := ⟨o, Heap.get?_push_of_some _ ho, hc, n, hd⟩
  have h3 : A.in1.in1.in1.handled = none := by simp [hh]
  have nI : l ≠ (s.heap.push (noneYet w)).objs.size := by rw [z1]; exact Nat.ne_of_lt (Nat.lt_succ_of_lt ll)
  have apart : s.heap.objs.size ∉ [(s.heap.push (noneYet w)).objs.size, l] := by
    rw [z1]
    simp only [List.mem_cons, List.mem_singleton, List.not_mem_nil, or_false, not_or]
    exact ⟨Nat.ne_of_lt (Nat.lt_succ_self _), Nat.ne_of_gt ll⟩
  refine set_shell (fun h' => J items.size h' ∧ ∀ b o, s.heap.get? b = some o → h'.get? b = some o) hl ?_ fun h' tk q => next h' tk q.2 q.1
  refine fill_loop (A := A.in1.in1) (n := items.size) (Walks.list h3 (s.heap.push (noneYet w)).objs.size l nI items).toS s.heap.objs.size apart J
    (fun i h h' j k => moves i h h' j fun b o nb q => k b o (by simpa using nb) q) (fun E i v z Q lt pv j k => step E i v z Q lt pv j k)
    (items.size - 0) 0 _ rfl (Nat.zero_le _) ⟨⟨_, Heap.get?_push_size _ rfl, rfl, rfl⟩, lis1.push _⟩ begin_ fun z' mv j => ⟨rfl, mv.gens, mv.drawn, mv.os, j, fun b o q => ?_⟩
  have lb : b < s.heap.objs.size := Heap.lt_size q
  refine mv.heap b o ?_ (laid_old q)
  rw [z1]
  simp only [List.mem_cons, List.mem_singleton, List.not_mem_nil, or_false, not_or]
  exact ⟨Nat.ne_of_lt lb, Nat.ne_of_lt (Nat.lt_succ_of_lt lb)⟩
end
end Q
set_option Elab.async false
set_option linter.all false
set_option maxRecDepth 100000
set_option maxHeartbeats 4000000
namespace Q
open PySem PySem.Spec PyProof.Rows L2 PySem.Froz
section
variable {P : Program} {w : World} {A : Around} {E : Value → Shared → Prop} {s : Shared}

theorem addTx_more {D : SD} {x : Int} {v : Value} (r : Ris D.2.2.place.toList) :
    Ris (addTx x v D).2.2.place.toList ∧ (addTx x v D).2.2.led = D.2.2.led ∧ (addTx x v D).1.toList.Perm ((x, v) :: D.1.toList) := by
  have r1 := layNew_ris D.2.2 D.1 x v r
  have l1 := layNew_led D.2.2 D.1 x v
  have p1 := layNew_perm D.2.2 D.1 x v
  rw [Array.toList_push] at p1
  have p2 := p1.trans (List.perm_append_singleton _ _)
  unfold addTx tailTx
  generalize hT : (if (layNew D.2.2 D.1 x v).2.1.plain = true then { (layNew D.2.2 D.1 x v).2.1 with plain := false } else (layNew D.2.2 D.1 x v).2.1) = T
  have rT : Ris T.place.toList := by rw [← hT]; split <;> exact r1
  have lT : T.led = D.2.2.led := by rw [← hT]; split <;> exact l1
  split
  · exact ⟨relayAll_ris _ _ _, (relayAll_led _ _ _).trans lT, (relayAll_perm _ _ _).trans p2⟩
  · exact ⟨rT, lT, p2⟩

/-- behind i texts -/
def TxtJ (P : Program) (w : World) (S : Addr) (items : List Value) (ys : List Str) (i : Nat) (h : Heap) : Prop :=
  ∃ D : SD, h.get? S = some (sObj "set" D) ∧ TxOk P w D (ys.take i).reverse ∧ Ris D.2.2.place.toList ∧ (w.params.followText "set-order" = true ∨ D.2.2.led = true) ∧
    (D.1.toList.map (·.2)).Perm (items.take i)

theorem strs_get {vs : List Value} {ys : List Str} (r : StrsAre vs ys) : ∀ {i : Nat} {v : Value}, vs[i]? = some v → ∃ y t, ys[i]? = some y ∧ v = .str y t := by
  induction r with
  | nil => intro i v h; simp at h
  | cons y t _ ih =>
    intro i v h
    cases i with
    | zero =>
      simp at h
      exact ⟨y, t, rfl, h.symm⟩
    | succ i =>
      simp only [List.getElem?_cons_succ] at h ⊢
      exact ih h
theorem not_taken {ys : List Str} (nd : ys.Nodup) {i : Nat} {y : Str} (h : ys[i]? = some y) : y ∉ (ys.take i).reverse := by
  rw [List.mem_reverse]
  intro hm
  obtain ⟨j, hj, e⟩ := List.getElem_of_mem hm
  rw [List.length_take] at hj
  rw [List.getElem_take] at e
  obtain ⟨hi, ei⟩ := List.getElem?_eq_some_iff.mp h
  exact List.pairwise_iff_getElem.mp nd j i (by omega) hi (by omega) (by rw [e, ei])

theorem set_texts {l : Addr} {items : Array Value} {ys : List Str} {Q : Value → Shared → Prop} (hh : A.handled = none) (hl : s.heap.IsList l items) (r : StrsAre items.toList ys) (nd : ys.Nodup) (few : ys.length < 4000)
    (next : ∀ (h' : Heap) (tk : Nat), (∀ b o, s.heap.get? b = some o → h'.get? b = some o) → Members w h' s.heap.objs.size items.toList → Q (.ref s.heap.objs.size) { s with heap := h', toks := tk }) :
    wpAny (model P w) A (call (.type "set") [.ref l]) Q E s := by
  have ly : items.size = ys.length := by rw [← StrsAre.len_eq r, Array.length_toList]
  refine set_filled (TxtJ P w s.heap.objs.size items.toList ys) hh hl ?_ (fun i h h' j k => ?_) (fun E i v z Q lt pv j k => ?_) fun h' tk kp j => ?_
  · refine ⟨(#[], 0, .fresh 0 0 (!w.params.followText "set-order")), laid_set _ _, TxOk.nil (by rfl), List.Pairwise.nil, ?_, .nil⟩
    show _ ∨ (!w.params.followText "set-order") = true
    cases w.params.followText "set-order"
    · exact .inr rfl
    · exact .inl rfl
  · obtain ⟨D, e, rest⟩ := j
    refine ⟨D, k _ _ ?_ e, rest⟩
    rw [Heap.size_push]
    exact Nat.ne_of_lt (Nat.lt_succ_self _)
  · obtain ⟨D, e, tx, ri, ld, pm⟩ := j
    obtain ⟨y, t, ey, rfl⟩ := strs_get r (i := i) (v := v) (by rw [Array.getElem?_toList]; exact pv)
    unfold setAdd
    refine wpAny_holding ?_
    refine wpAny_bind ((PySem.strKind P w).pyHash (k := y) (is_str y t) ?_)
    have fresh := not_taken nd ey
    have lt2 : (ys.take i).reverse.length + 1 < scanBound := by
      rw [List.length_reverse, List.length_take]
      show _ < 4096
      omega
    refine add_x (s := { z with toks := z.toks + 1 }) e tx fresh lt2 (k true _ _ (Nat.le_succ _) (Heap.SameBut.update ..) ?_)
    obtain ⟨m1, m2, m3⟩ := addTx_more (x := hashStr w y) (v := .str y t) ri
    refine ⟨addTx (hashStr w y) (.str y t) D, get_upd _ e rfl, ?_, m1, by rw [m2]; exact ld, ?_⟩
    · have q := add_ok t tx (k := y)
      have e2 : (ys.take (i + 1)).reverse = y :: (ys.take i).reverse := by
        rw [List.take_add_one, ey]
        simp
      rw [e2]
      exact q
    · have e3 : items.toList.take (i + 1) = items.toList.take i ++ [.str y t] := by
        rw [List.take_add_one, Array.getElem?_toList, pv]
        rfl
      rw [e3]
      exact ((m3.map (·.2)).trans (List.Perm.cons _ pm)).trans (List.perm_append_singleton _ _).symm
  · obtain ⟨D, e, tx, ri, ld, pm⟩ := j
    have el : items.toList.take items.size = items.toList := List.take_of_length_le (by rw [Array.length_toList]; exact Nat.le_refl _)
    rw [el] at pm
    refine next h' tk kp ⟨D.1, D.2.1, D.2.2, ⟨_, e, rfl, rfl⟩, pm, tx.fit, ?_, ri, ld⟩
    have q := tx.sz
    rw [List.length_reverse, List.length_take] at q
    show _ < 4096
    omega

/-- behind i tuples -/
def TupJ (P : Program) (w : World) (S : Addr) (h0 : Heap) (ks : List (Addr × List Key)) (i : Nat) (h : Heap) : Prop :=
  (∀ b o, h0.get? b = some o → h.get? b = some o) ∧ ∃ es ep t, Bag P w h S es ep t ∧ es.toList.Perm ((ks.take i).map fun p => (tkh P w p.2, Value.ref p.1))

theorem set_tups {l : Addr} {items : Array Value} {ks : List (Addr × List Key)} {Q : Value → Shared → Prop} (hh : A.handled = none) (hu : A.units + 3 < cLine) (hl : s.heap.IsList l items)
    (it : items.toList = ks.map fun p => Value.ref p.1) (tp : ∀ p ∈ ks, TupAt P w s.heap p.2 p.1) (nd : (ks.map (·.2)).Nodup) (few : ks.length < 64)
    (next : ∀ (h' : Heap) (tk : Nat), (∀ b o, s.heap.get? b = some o → h'.get? b = some o) → Members w h' s.heap.objs.size items.toList → Q (.ref s.heap.objs.size) { s with heap := h', toks := tk }) :
    wpAny (model P w) A (call (.type "set") [.ref l]) Q E s := by
  have lk : items.size = ks.length := by rw [← Array.length_toList, it, List.length_map]
  have none_ : ∀ b, s.heap.objs.size ≤ b → ∀ c o, s.heap.get? c = some o → c ≠ b := fun b hb c o q e => by
    have lt := Heap.lt_size q
    rw [e] at lt
    exact absurd (Nat.lt_of_lt_of_le lt hb) (Nat.lt_irrefl _)
  refine set_filled (TupJ P w s.heap.objs.size s.heap ks) hh hl ?_ (fun i h h' j k => ?_) (fun E i v z Q lt pv j k => ?_) fun h' tk kp j => ?_
  · refine ⟨fun b o q => laid_old q, #[], 0, .fresh 0 0 (!w.params.followText "set-order"), ⟨⟨_, laid_set _ _, ⟨rfl, rfl, rfl⟩, rfl⟩, ?_, fun e he => (by cases he), ?_, ?_, ?_⟩, .nil⟩
    · exact ⟨List.Pairwise.nil, rfl, rfl, .inl rfl, fun x hx => (by cases hx), fun i x j hi => (by simp at hi)⟩
    · show _ ∨ (!w.params.followText "set-order") = true
      cases w.params.followText "set-order"
      · exact .inr rfl
      · exact .inl rfl
    · show 0 * 5 < 7 * 3
      decide
    · show 0 < 64
      decide
  · obtain ⟨old, es, ep, t, B, pm⟩ := j
    have kb : ∀ b o, s.heap.get? b = some o → h'.get? b = some o := fun b o q => k b o (none_ _ (by rw [Heap.size_push]; exact Nat.le_succ _) b o q) (old b o q)
    obtain ⟨o, ho, rest⟩ := B.ob
    refine ⟨kb, es, ep, t, ⟨⟨o, k _ _ ?_ ho, rest⟩, B.tab, fun e he => ?_, B.led, B.room, B.few⟩, pm⟩
    · rw [Heap.size_push]
      exact Nat.ne_of_lt (Nat.lt_succ_self _)
    · obtain ⟨p, hp, ep⟩ := List.mem_map.mp (pm.mem_iff.mp he)
      exact ⟨p.1, p.2, ep.symm, (tp p (List.mem_of_mem_take hp)).mono fun o q => kb _ o q⟩
  · obtain ⟨old, es, ep, t, B, pm⟩ := j
    have sz : es.size = i := by
      have q := pm.length_eq
      rw [List.length_map, List.length_take, Array.length_toList] at q
      omega
    have hi : i < ks.length := by omega
    have ev : v = .ref ks[i].1 := by
      have q : items.toList[i]? = some v := by rw [Array.getElem?_toList]; exact pv
      rw [it, List.getElem?_map, List.getElem?_eq_getElem hi] at q
      exact (Option.some.inj q).symm
    have eg : ks[i]? = some ks[i] := List.getElem?_eq_getElem hi
    have hm : ks[i] ∈ ks := List.getElem_mem hi
    generalize ks[i] = p at ev eg hm
    subst ev
    have xp : TupAt P w z.heap p.2 p.1 := (tp p hm).mono fun o q => old _ o q
    unfold setAdd
    refine wpAny_holding ?_
    have hu3 : A.in1.in1.in1.in1.units ≤ A.units + 4 := Nat.le_refl _
    refine wpAny_bind (wpAny_pyHash_tuple (by show A.units + 3 < cLine; exact hu) xp ?_)
    refine add_new (s := { z with toks := z.toks + (p.2.length + 1) }) B xp (by show A.units + 3 < cLine; exact hu) (fun e he b k2 ee xb => ?_) (by omega) fun h' es2 ep2 t2 sb B2 pm2 => ?_
    · obtain ⟨p2, hp2, e2⟩ := List.mem_map.mp (pm.mem_iff.mp he)
      rw [ee] at e2
      injection e2 with _ e3
      injection e3 with e3
      have x2 : TupAt P w z.heap p2.2 p2.1 := (tp p2 (List.mem_of_mem_take hp2)).mono fun o q => old _ o q
      rw [e3] at x2
      have ek : k2 = p2.2 := xb.inj x2
      rw [ek]
      intro same
      obtain ⟨j, hj, ej⟩ := List.getElem_of_mem hp2
      rw [List.length_take] at hj
      rw [List.getElem_take] at ej
      have e4 : ks[i] = p := by
        rw [List.getElem?_eq_getElem hi] at eg
        exact Option.some.inj eg
      exact List.pairwise_iff_getElem.mp nd j i (by rw [List.length_map]; omega) (by rw [List.length_map]; omega) (by omega) (by simp [ej, e4, same])
    · refine k true h' _ (Nat.le_add_right _ _) sb ⟨fun b o q => ?_, es2, ep2, t2, B2, ?_⟩
      · rw [sb.2 b (none_ _ (Nat.le_refl _) b o q)]
        exact old b o q
      · have e3 : ks.take (i + 1) = ks.take i ++ [p] := by
          rw [List.take_add_one, eg]
          rfl
        rw [e3, List.map_append]
        exact (pm2.trans (List.Perm.cons _ pm)).trans (List.perm_append_singleton _ _).symm
  · obtain ⟨old, es, ep, t, B, pm⟩ := j
    have el : ks.take items.size = ks := List.take_of_length_le (by omega)
    rw [el] at pm
    obtain ⟨o, ho, hx, hd⟩ := B.ob
    refine next h' tk kp ⟨es, ep, t, ⟨o, ho, hx.1, hd⟩, ?_, tab_fits B.tab (by have := B.room; omega), ?_, B.tab.ris, B.led⟩
    · have q := pm.map (·.2)
      rw [List.map_map] at q
      rw [it]
      exact q
    · have q := B.few
      show _ < 4096
      omega
end
end Q
set_option Elab.async false
set_option linter.all false
set_option maxRecDepth 100000
set_option maxHeartbeats 4000000
namespace Q
open PySem PySem.Spec PyProof.Rows L2 PySem.W

/-! the order of texts and of tuples of texts and numbers -/
abbrev tLe (x y : Str) : Prop := x.cps.toList ≤ y.cps.toList
abbrev tLt (x y : Str) : Prop := x.cps.toList < y.cps.toList
theorem str_ext {x y : Str} (h : x.cps.toList = y.cps.toList) : x = y := by
  cases x
  cases y
  congr
  exact Array.ext' h
theorem tLe_lt {x y : Str} (h : tLe x y) (ne : x ≠ y) : tLt x y := by
  rcases Classical.em (tLt x y) with q | q
  · exact q
  · exact absurd (str_ext (List.le_antisymm h (List.not_lt.mp q))) ne

def kD : Key → PyData
  | .inl i => .int i
  | .inr x => .str x
def kLt : Key → Key → Bool
  | .inl i, .inl j => decide (i < j)
  | .inr x, .inr y => decide (tLt x y)
  | _, _ => false
def ksLt : List Key → List Key → Bool
  | a :: as, b :: bs => if a = b then ksLt as bs else kLt a b
  | _, _ => false
abbrev shape (ks : List Key) : List Bool := ks.map Sum.isLeft

theorem kD_alike : ∀ {a b : Key}, a.isLeft = b.isLeft → alike (kD a) (kD b) = true
  | .inl _, .inl _, _ => by simp [kD, alike]
  | .inr _, .inr _, _ => by simp [kD, alike]
theorem kD_eqv : ∀ {a b : Key}, a.isLeft = b.isLeft → (PyData.eqv (kD a) (kD b) = true ↔ a = b)
  | .inl i, .inl j, _ => by simp [kD, PyData.eqv]
  | .inr x, .inr y, _ => by simp [kD, PyData.eqv]
theorem kD_lt : ∀ {a b : Key}, a.isLeft = b.isLeft → dataLt (kD a) (kD b) = kLt a b
  | .inl i, .inl j, _ => by simp only [kD, kLt]; exact dataLt_int i j
  | .inr x, .inr y, _ => by simp only [kD, kLt]; exact dataLt_str x y
theorem alikeAll_keys : ∀ {ks ls : List Key}, shape ks = shape ls → alikeAll (ks.map kD) (ls.map kD) = true
  | [], [], _ => by simp [alikeAll]
  | a :: ks, b :: ls, h => by
    simp only [shape, List.map_cons, List.cons.injEq] at h
    simp only [List.map_cons]
    rw [alikeAll, alikeAll_keys h.2, kD_alike h.1]
    rfl
theorem tup_lt : ∀ {ks ls : List Key}, shape ks = shape ls → dataLt (.tuple (ks.map kD)) (.tuple (ls.map kD)) = ksLt ks ls := by
  have main : ∀ {ks ls : List Key}, shape ks = shape ls → lexLt itemOrd (keyToksAll (ks.map kD)) (keyToksAll (ls.map kD)) = ksLt ks ls := by
    intro ks
    induction ks with
    | nil =>
      intro ls h
      cases ls with
      | nil => exact lex_irrefl _
      | cons b ls => cases h
    | cons a ks ih =>
      intro ls h
      cases ls with
      | nil => cases h
      | cons b ls =>
        simp only [shape, List.map_cons, List.cons.injEq] at h
        rw [List.map_cons, List.map_cons, dataLt_cons (kD_alike h.1), ih h.2, kD_lt h.1]
        unfold ksLt
        by_cases e : a = b
        · rw [if_pos ((kD_eqv h.1).2 e), if_pos e]
          cases ks <;> cases ls <;> rfl
        · rw [if_neg (fun q => e ((kD_eqv h.1).1 q)), if_neg e]
  intro ks ls h
  rw [dataLt_tuple]
  exact main h
theorem kLt_total : ∀ {a b : Key}, a.isLeft = b.isLeft → a ≠ b → kLt b a = false → kLt a b = true
  | .inl i, .inl j, _, ne, h => by
    simp only [kLt, decide_eq_false_iff_not, decide_eq_true_eq] at h ⊢
    have : i ≠ j := fun e => ne (by rw [e])
    omega
  | .inr x, .inr y, _, ne, h => by
    simp only [kLt, decide_eq_false_iff_not, decide_eq_true_eq] at h ⊢
    exact tLe_lt (List.not_lt.mp h) fun e => ne (by rw [e])
theorem ksLt_total : ∀ {ks ls : List Key}, shape ks = shape ls → ks ≠ ls → ksLt ls ks = false → ksLt ks ls = true
  | [], [], _, ne, _ => absurd rfl ne
  | a :: ks, b :: ls, h, ne, q => by
    simp only [shape, List.map_cons, List.cons.injEq] at h
    unfold ksLt at q ⊢
    by_cases e : a = b
    · subst e
      rw [if_pos rfl] at q ⊢
      exact ksLt_total h.2 (fun z => ne (by rw [z])) q
    · rw [if_neg (Ne.symm e)] at q
      rw [if_neg e]
      exact kLt_total h.1 e q
theorem depth_keys : ∀ ks : List Key, PyData.depthAll (ks.map kD) = 0
  | [] => by simp [PyData.depthAll]
  | .inl i :: ks => by
    rw [List.map_cons, PyData.depthAll, depth_keys ks]
    simp [kD, PyData.depth]
  | .inr x :: ks => by
    rw [List.map_cons, PyData.depthAll, depth_keys ks]
    simp [kD, PyData.depth]

/-! as rules -/
def SetM (w : World) (a : Addr) (us : List Value) : HO := .ext fun h => Members w h a us
section
variable {X : Cx} {pins : List (Addr × Obj)} {σ : L2.St} {H : Hp} {s : Shared}
theorem setM_new {P : Program} {w : World} {H : Hp} {h : Heap} {a : Addr} {us : List Value} (m : Members w h a us) : ObjOk P w H h a (SetM w a us) := ⟨m, m.ob, fun _ _ p k => Members.at p k⟩

/-- set(xs), xs a list of unlike texts -/
def rSetTx (K : PySem.W.Frag) (w : World) : List V → Hp → VK → Prop := fun xs H Q => ∃ (l : Addr) (ys : List Str), xs = [V.ref l] ∧ SqL K H l (ys.map V.str) ∧ ys.Nodup ∧ ys.length < 4000 ∧
  ∀ a us, Vals (ys.map V.str) us → H a = none → Q (.ref a) (upd H a (SetM w a us))
theorem cr_setTx (hc : X.calm = true) : CallR X (.type "set") (rSetTx X.K X.w) := by
  intro pins s σ H xs us Q I r h
  obtain ⟨l, ys, rfl, hl, nd, few, q⟩ := h
  rw [Vals.ref1 r]
  obtain ⟨its, rv, pl, _⟩ := I.list hl
  refine set_texts (P := X.prog) (w := X.w) (items := its.toArray) (I.ok.hd hc) pl.isList (strsAre_of rv) nd few fun h' tk kp m => ?_
  exact ⟨.ref s.heap.objs.size, _, I.laid (t' := tk) kp (Nat.le_refl _) (setM_new m), rfl, q _ _ rv (I.hok.fresh (Nat.le_refl _))⟩

/-- set(xs), xs a list of unlike tuples of texts and numbers -/
def rSetTu (K : PySem.W.Frag) (w : World) : List V → Hp → VK → Prop := fun xs H Q => ∃ (l : Addr) (ks : List (Addr × List Key)), xs = [V.ref l] ∧ SqL K H l (ks.map fun p => V.ref p.1) ∧
  (∀ p ∈ ks, SqT K H p.1 (p.2.map kV)) ∧ (ks.map (·.2)).Nodup ∧ ks.length < 64 ∧ ∀ a, H a = none → Q (.ref a) (upd H a (SetM w a (ks.map fun p => Value.ref p.1)))
theorem items_keys {P : Program} {w : World} : ∀ {k : List Key} {us : List Value}, Vals (k.map kV) us → ItemsAre (mixKind P w) k us
  | [], _, .nil => .nil
  | .inl i :: k, _, .cons r t => by
    obtain ⟨tk, rfl⟩ := r
    exact .cons (mixKind_int P w i tk) (items_keys t)
  | .inr x :: k, _, .cons r t => by
    obtain ⟨tk, rfl⟩ := r
    exact .cons (mixKind_str P w x tk) (items_keys t)
theorem vals_rows : ∀ {ks : List (Addr × List Key)} {us : List Value}, Vals (ks.map fun p => V.ref p.1) us → us = ks.map fun p => Value.ref p.1
  | [], _, .nil => rfl
  | _ :: ks, _, .cons r t => by
    cases r
    rw [vals_rows t, List.map_cons]
theorem rows_vals : ∀ (ks : List (Addr × List Key)), Vals (ks.map fun p => V.ref p.1) (ks.map fun p => Value.ref p.1)
  | [] => .nil
  | _ :: ks => .cons rfl (rows_vals ks)
theorem tupAt_of (I : Inv X pins σ H s) {b : Addr} {k : List Key} (h : SqT X.K H b (k.map kV)) : TupAt X.prog X.w s.heap k b := by
  obtain ⟨its, r, ⟨o, ho, hc, n, hd⟩, _⟩ := I.tuple h
  exact ⟨o, its.toArray, n, ho, hc, hd, by simpa using items_keys r⟩
theorem cr_setTu (hc : X.calm = true) (hu : X.A.units + 3 < cLine) : CallR X (.type "set") (rSetTu X.K X.w) := by
  intro pins s σ H xs us Q I r h
  obtain ⟨l, ks, rfl, hl, hk, nd, few, q⟩ := h
  rw [Vals.ref1 r]
  obtain ⟨its, rv, pl, _⟩ := I.list hl
  have ei := vals_rows rv
  refine set_tups (P := X.prog) (w := X.w) (items := its.toArray) (ks := ks) (I.ok.hd hc) hu pl.isList (by simpa using ei) (fun p hp => tupAt_of I (hk p hp)) nd few fun h' tk kp m => ?_
  rw [List.toList_toArray, ei] at m
  exact ⟨.ref s.heap.objs.size, _, I.laid (t' := tk) kp (Nat.le_refl _) (setM_new m), rfl, q _ (I.hok.fresh (Nat.le_refl _))⟩

theorem back_same {s z : Shared} (o : z.os = s.os) : z = { s with heap := z.heap, gens := z.gens, drawn := z.drawn, toks := z.toks } := by
  cases z
  cases s
  cases o
  rfl
theorem laid_list (I : Inv X pins σ H s) {z : Shared} {p : Addr} {xs : List V} {out : Array Value} {c : Nat} (kp : ∀ b o, s.heap.get? b = some o → z.heap.get? b = some o) (g : z.gens = s.gens) (o : z.os = s.os) (le : s.heap.objs.size ≤ p)
    (e : z.heap.get? p = some (seqObj "list" out c)) (r : Vals xs out.toList) (few : xs.length ≤ sizeLine) : Inv X pins σ (upd H p (.lst xs)) z := by
  rw [back_same o]
  exact I.call (ch := []) (Un.laid kp le (I.hok.fresh le)) (I.hok.laid kp le ⟨few, out.toList, c, r, e⟩) (by rw [g]; exact I.bare) fun _ q => nomatch q

theorem each_txt {us : List Value} : ∀ {ys : List Str}, Vals (ys.map V.str) us → EachIs (fun v y => (∃ t, v = Value.str y t) ∧ Reads s.heap v (PyData.str y) []) us ys := by
  induction us with
  | nil =>
    intro ys r
    cases ys with
    | nil => exact .nil
    | cons _ _ => cases r
  | cons u us ih =>
    intro ys r
    cases ys with
    | nil => cases r
    | cons y ys =>
      cases r with
      | cons r1 r2 =>
        obtain ⟨t, rfl⟩ := r1
        exact .cons ⟨⟨t, rfl⟩, .str y t⟩ (ih r2)
theorem txt_each {us : List Value} {ys : List Str} (e : EachIs (fun v y => ∃ t, v = Value.str y t) us ys) : Vals (ys.map V.str) us := by
  induction e with
  | nil => exact .nil
  | cons h _ ih =>
    obtain ⟨t, rfl⟩ := h
    exact .cons ⟨t, rfl⟩ ih

/-- sorted(a set of texts) -/
def rSortTx (w : World) : List V → Hp → VK → Prop := fun xs H Q => ∃ (a : Addr) (us : List Value) (ys : List Str), xs = [V.ref a] ∧ H a = some (SetM w a us) ∧ Vals (ys.map V.str) us ∧ ys.Nodup ∧ ys.length < 4000 ∧
  ∀ (p : Addr) (zs : List Str), zs.Perm ys → zs.Pairwise tLt → H p = none → Q (.ref p) (upd H p (.lst (zs.map V.str)))
theorem cr_sortTx (hc : X.calm = true) (hu : X.A.units + 2 < cLine) : CallR X (.builtin "sorted") (rSortTx X.w) := by
  intro pins s σ H xs us0 Q I r h
  obtain ⟨a, us, ys, rfl, ha, rv, nd, few, q⟩ := h
  rw [Vals.ref1 r]
  have m : Members X.w s.heap a us := (I.hok a _ ha).1
  refine sorted_members (P := X.prog) (enc := PyData.str) m (I.ok.hd hc) (each_txt rv) (fun cs _ => AllAlike.of fun _ _ => by simp [alike]) (fun cs _ => Sortable.others fun _ => ⟨by simp, by simp⟩) (fun b _ => by simpa [PyData.depth] using hu)
    fun z p out c cs kp g o le e pc eo => ?_
  have pz : (cs.mergeSort (dataLe false PyData.str)).Perm ys := (List.mergeSort_perm cs _).trans pc
  have pw : (cs.mergeSort (dataLe false PyData.str)).Pairwise tLt := by
    have w1 := sort_pairwise (sortLe_total (listOrd itemOrd) false fun b : Str => keyToks (PyData.str b)) cs
    have nd2 := pz.nodup_iff.mpr nd
    refine (List.Pairwise.and w1 nd2).imp fun {x y} h => ?_
    have e1 : dataLe false (fun b : Str => PyData.str b) x y = true := h.1
    rw [dataLe_str] at e1
    exact tLe_lt (of_decide_eq_true e1) h.2
  have few2 : ((cs.mergeSort (dataLe false PyData.str)).map V.str).length ≤ sizeLine := by
    rw [List.length_map, pz.length_eq, sizeLine_eq]
    omega
  exact ⟨.ref p, _, laid_list I kp g o le e (txt_each eo) few2, rfl, q p _ pz pw (I.hok.fresh le)⟩

theorem reads_keys {h : Heap} {P : Program} {w : World} {k : List Key} {us : List Value} (r : ItemsAre (mixKind P w) k us) : ReadsAll h us (k.map kD) [] := by
  induction r with
  | nil => exact .nil
  | @cons k0 v ks vs h1 _ ih =>
    rcases keyIs_shape h1 with ⟨i, t, rfl, rfl⟩ | ⟨x, t, rfl, rfl⟩
    · exact .cons (as := []) (.int i t) ih
    · exact .cons (as := []) (.str x t) ih
theorem TupAt.reads {P : Program} {w : World} {h : Heap} {k : List Key} {b : Addr} (x : TupAt P w h k b) : Reads h (.ref b) (.tuple (k.map kD)) [] := by
  obtain ⟨o, its, n, q, c, d, r⟩ := x
  exact .tuple q c d (reads_keys r)
theorem each_rows {P : Program} {w : World} {h : Heap} : ∀ {ks : List (Addr × List Key)}, (∀ p ∈ ks, TupAt P w h p.2 p.1) →
    EachIs (fun v p => v = Value.ref p.1 ∧ Reads h v (.tuple (p.2.map kD)) []) (ks.map fun p => Value.ref p.1) ks
  | [], _ => .nil
  | p :: ks, x => .cons ⟨rfl, (x p List.mem_cons_self).reads⟩ (each_rows fun q hq => x q (List.mem_cons_of_mem _ hq))
theorem rows_each {us : List Value} {ks : List (Addr × List Key)} (e : EachIs (fun v p => v = Value.ref p.1) us ks) : us = ks.map fun p => Value.ref p.1 := by
  induction e with
  | nil => rfl
  | cons h _ ih => rw [h, ih, List.map_cons]

/-- sorted(a set of tuples of texts and numbers, all of one shape) -/
def rSortTu (K : PySem.W.Frag) (w : World) : List V → Hp → VK → Prop := fun xs H Q => ∃ (a : Addr) (ks : List (Addr × List Key)) (sh : List Bool), xs = [V.ref a] ∧ H a = some (SetM w a (ks.map fun p => Value.ref p.1)) ∧
  (∀ p ∈ ks, SqT K H p.1 (p.2.map kV)) ∧ (∀ p ∈ ks, shape p.2 = sh) ∧ sh ≠ [] ∧ (ks.map (·.2)).Nodup ∧ ks.length < 4000 ∧
  ∀ (p : Addr) (zs : List (Addr × List Key)), zs.Perm ks → zs.Pairwise (fun x y => ksLt x.2 y.2 = true) → H p = none → Q (.ref p) (upd H p (.lst (zs.map fun q => V.ref q.1)))
theorem cr_sortTu (hc : X.calm = true) (hu : X.A.units + 3 < cLine) : CallR X (.builtin "sorted") (rSortTu X.K X.w) := by
  intro pins s σ H xs us0 Q I r h
  obtain ⟨a, ks, sh, rfl, ha, hk, hs, ne, nd, few, q⟩ := h
  rw [Vals.ref1 r]
  have m : Members X.w s.heap a (ks.map fun p => Value.ref p.1) := (I.hok a _ ha).1
  refine sorted_members (P := X.prog) (R := fun v p => v = Value.ref p.1) (enc := fun p : Addr × List Key => PyData.tuple (p.2.map kD)) m (I.ok.hd hc) (each_rows fun p hp => tupAt_of I (hk p hp)) (fun cs pc => ?_) (fun cs pc => ?_) (fun b _ => ?_)
    fun z p out c cs kp g o le e pc eo => ?_
  · intro d hd d' hd'
    obtain ⟨p, hp, rfl⟩ := List.mem_map.mp hd
    obtain ⟨p', hp', rfl⟩ := List.mem_map.mp hd'
    have e : shape p.2 = shape p'.2 := (hs p (pc.mem_iff.mp hp)).trans (hs p' (pc.mem_iff.mp hp')).symm
    simpa [alike] using alikeAll_keys e
  · refine .inl fun d hd => ?_
    obtain ⟨p, hp, rfl⟩ := List.mem_map.mp hd
    have e := hs p (pc.mem_iff.mp hp)
    cases hq : p.2 with
    | nil =>
      rw [hq] at e
      exact absurd e.symm ne
    | cons k0 r0 => exact ⟨_, _, by rw [List.map_cons]⟩
  · have e : (PyData.tuple (b.2.map kD)).depth ≤ 1 := by
      simp [PyData.depth, depth_keys]
    show X.A.units + 2 + (PyData.tuple (b.2.map kD)).depth < cLine
    omega
  · have pz : (cs.mergeSort (dataLe false fun p : Addr × List Key => PyData.tuple (p.2.map kD))).Perm ks := (List.mergeSort_perm cs _).trans pc
    have pw : (cs.mergeSort (dataLe false fun p : Addr × List Key => PyData.tuple (p.2.map kD))).Pairwise fun x y => ksLt x.2 y.2 = true := by
      have w1 := sort_pairwise (sortLe_total (listOrd itemOrd) false fun p : Addr × List Key => keyToks (PyData.tuple (p.2.map kD))) cs
      have nd2 : ((cs.mergeSort (dataLe false fun p : Addr × List Key => PyData.tuple (p.2.map kD))).map (·.2)).Nodup := (pz.map (·.2)).nodup_iff.mpr nd
      have nd3 := List.pairwise_map.mp nd2
      refine List.Pairwise.imp_of_mem (fun {x y} hx hy h => ?_) (List.Pairwise.and w1 nd3)
      have se : shape x.2 = shape y.2 := (hs x (pz.mem_iff.mp hx)).trans (hs y (pz.mem_iff.mp hy)).symm
      have e1 : (!dataLt (.tuple (y.2.map kD)) (.tuple (x.2.map kD))) = true := h.1
      rw [tup_lt se.symm, Bool.not_eq_true'] at e1
      exact ksLt_total se h.2 e1
    generalize cs.mergeSort (dataLe false fun p : Addr × List Key => PyData.tuple (p.2.map kD)) = zs at pz pw eo
    have few2 : (zs.map fun q => V.ref q.1).length ≤ sizeLine := by
      rw [List.length_map, pz.length_eq, sizeLine_eq]
      omega
    have rv : Vals (zs.map fun q => V.ref q.1) out.toList := by
      rw [rows_each eo]
      exact rows_vals zs
    exact ⟨.ref p, _, laid_list I kp g o le e rv few2, rfl, q p zs pz pw (I.hok.fresh le)⟩
end
end Q
set_option Elab.async false
set_option linter.all false
set_option maxRecDepth 100000
set_option maxHeartbeats 4000000
namespace Q
open PySem PySem.Spec PyProof.Rows L2 PySem.W

/-! enumerate over a tuple -/
theorem enum_meets {l : Addr} {items : Array Value} :
    Meets (Builtin.«enumerate.__new__» ⟨[.type "enumerate", .ref l], []⟩) (fun _ R z => z.heap.IsTuple l items ∧
      R (.ok (.ret (.ref (z.heap.push { cls := .type "tuple_iterator", data := .fields #[.ref l, .int 0 0] }).objs.size)))
        { z with heap := (z.heap.push { cls := .type "tuple_iterator", data := .fields #[.ref l, .int 0 0] }).push { cls := .type "enumerate", data := .fields #[.none, .bool false, .ref z.heap.objs.size, rawInt 0, .none, .none] } }) :=
  .of_wp fun prog w A R z h => by
    obtain ⟨zh, zg, zd, zt, zo⟩ := z
    obtain ⟨isT, h⟩ := h
    have sub := sub_enumerate
    have begins : ∀ {A' : Around} {E : Value → Shared → Prop} {Q : Value → Shared → Prop}, Q (.ref zh.objs.size) ⟨zh.push { cls := .type "tuple_iterator", data := .fields #[.ref l, .int 0 0] }, zg, zd, zt, zo⟩ →
        wpAny (model prog w) A' (pyIter (.ref l)) Q E ⟨zh, zg, zd, zt, zo⟩ := fun q => (begins_tuple l items).iter prog w _ _ ⟨zh, zg, zd, zt, zo⟩ _ isT q
    wp_walk using begins
    refine wpAny_stack_any fun st => wpAny_pure ?_
    split
    · rename_i c _ _ _ _ _
      cases (c == Value.type "enumerate") <;> (wp_walk using begins; exact ⟨_, rfl, h⟩)
    · wp_walk using begins
      exact ⟨_, rfl, h⟩
section
variable {prog : Program} {w : World} {A : Around} {E : Value → Shared → Prop} {s : Shared}
theorem enum_made {l : Addr} {items : Array Value} {Q : Value → Shared → Prop} (isT : s.heap.IsTuple l items)
    (next : ∀ h', IsEnum h' (s.heap.objs.size + 1) s.heap.objs.size 0 .none → h'.IsTupleIter s.heap.objs.size l 0 → (∀ b o, s.heap.get? b = some o → h'.get? b = some o) →
      Q (.ref (s.heap.objs.size + 1)) { s with heap := h' }) : wpAny (model prog w) A (call (.type "enumerate") [.ref l]) Q E s := by
  refine callType_new F.called_enumerate (by decide) (F.typeCall_enumerate_1 _) (F.newCall_enumerate_1 _) (fun o => F.args_object_init_2 o _) F.entry_enumerate_new enum_meets ⟨isT, ?_⟩
  have z1 : (s.heap.push { cls := .type "tuple_iterator", data := .fields #[.ref l, .int 0 0] }).objs.size = s.heap.objs.size + 1 := Heap.size_push ..
  show _ ∧ _
  rw [z1]
  have ie : IsEnum ((s.heap.push { cls := .type "tuple_iterator", data := .fields #[.ref l, .int 0 0] }).push { cls := .type "enumerate", data := .fields #[.none, .bool false, .ref s.heap.objs.size, rawInt 0, .none, .none] }) (s.heap.objs.size + 1) s.heap.objs.size 0 .none := by
    have q := Heap.get?_push_size (s.heap.push { cls := .type "tuple_iterator", data := .fields #[.ref l, .int 0 0] }) (o := { cls := .type "enumerate", data := .fields #[.none, .bool false, .ref s.heap.objs.size, rawInt 0, .none, .none] }) rfl
    rw [z1] at q
    exact q
  exact ⟨⟨_, ie, rfl⟩, next _ ie ⟨{ cls := .type "tuple_iterator", data := .fields #[.ref l, .int 0 0] }, Heap.get?_push_of_some _ (Heap.get?_push_size _ rfl), rfl, rfl⟩ fun b o q => Heap.get?_push_of_some _ (Heap.get?_push_of_some _ q)⟩
end

/-- the tuple's items, each in a new pair with its place -/
def ItT (K : PySem.W.Frag) (a : Addr) (xs : List V) : It where
  go := fun i H => SqT K H a xs ∧ i < xs.length
  yld := fun i H v H' => ∃ T x, v = .ref T ∧ H T = none ∧ H' = upd H T (.tup [.int (i : Nat), x]) ∧ xs[i]? = some x
  stop := fun i H => SqT K H a xs ∧ i = xs.length
theorem turn_enumT {P : Program} {w : World} {K : PySem.W.Frag} {elts : List Expr} {kk : Nat} {tpos : Pos} (a e it : Addr) (xs : List V) :
    Turn P w K (.Tuple elts kk tpos) (ItT K a xs) [e, it] e (fun i h => (∃ old, IsEnum h e it ((i : Nat) : Int) old) ∧ h.IsTupleIter it a i ∧ e ≠ it ∧ a ≠ it ∧ a ≠ e) where
  mem := List.mem_cons_self
  obj := fun i h st b hb => by
    obtain ⟨⟨old, ie⟩, ⟨o, q, _, d⟩, _⟩ := st
    rcases List.mem_cons.mp hb with z | z
    · rw [z]
      exact ⟨_, ie, fun v y => nomatch y⟩
    · rw [List.mem_singleton.mp z]
      exact ⟨o, q, fun v y => by rw [d] at y; cases y⟩
  keep := fun i h h' st k => by
    obtain ⟨⟨old, ie⟩, ⟨o, q, r⟩, ne⟩ := st
    exact ⟨⟨old, k e (by simp) _ ie⟩, ⟨o, k it (by simp) o q, r⟩, ne⟩
  item := by
    intro X e1 e2 e3 hc i pins s σ H E I hf st hg
    subst e1 e2 e3
    obtain ⟨⟨old, ie⟩, ti, ne, ne2, ne3⟩ := st
    obtain ⟨hx, lt⟩ := hg
    obtain ⟨its, rv, isT, _⟩ := I.tuple hx
    have le : e < s.heap.objs.size := Heap.lt_size ie
    have lit : it < s.heap.objs.size := by
      obtain ⟨_, q, _⟩ := ti
      exact Heap.lt_size q
    have lz : its.toArray.size = xs.length := by
      rw [List.size_toArray]
      exact rv.length.symm
    have hh : X.A.in1.handled = none := I.ok.hd hc
    refine wpAny_pyNext_enum_itemD (Draws.tuple hh it a ne2 its.toArray) ie ⟨ti, isT⟩ (by rw [lz]; exact lt) ne (by
      simp only [List.mem_cons, List.not_mem_nil, or_false, not_or]
      exact ⟨ne, fun z => ne3 z.symm⟩) fun u h' tk pu io st2 hT hsz hk => ?_
    obtain ⟨ti2, isT2⟩ := st2
    obtain ⟨x, hx2, ru⟩ : ∃ x, xs[i]? = some x ∧ RelV x u := by
      have hxi : xs[i]? = some xs[i] := List.getElem?_eq_getElem lt
      obtain ⟨u2, hu2, ru2⟩ := rv.get hxi
      have e4 : u2 = u := by
        have q : its[i]? = some u := by simpa using pu
        rw [hu2] at q
        exact Option.some.inj q
      rw [e4] at ru2
      exact ⟨_, hxi, ru2⟩
    refine ⟨_, rfl, wpAny_letOwnedTupleGo_enum (s := { s with heap := h', toks := tk + 1 }) io fun h'' ie2 sb => ?_⟩
    have hT2 : h''.get? s.heap.objs.size = some { cls := .type "tuple", data := .seq #[.int i tk, u] } := (sb.2 _ (Nat.ne_of_gt le)).trans hT
    have new : ObjOk X.prog X.w (upd H s.heap.objs.size (.tup [.int (i : Nat), x])) h'' s.heap.objs.size (.tup [.int (i : Nat), x]) :=
      ⟨by show 2 ≤ sizeLine; decide, [.int i tk, u], .cons ⟨_, rfl⟩ (.cons ru .nil), ⟨_, hT2, rfl, _, rfl⟩⟩
    have I1 : Inv X pins σ (upd H s.heap.objs.size (.tup [.int (i : Nat), x])) { s with heap := h'', toks := tk + 1 } :=
      I.turnedNew (ch := [e, it]) (fun b o nb q => (sb.2 b fun z => nb (by simp [z])).trans (hk b o (fun z => nb (by simp [z])) (fun z => nb (by simp [z])) q)) hf (Nat.le_refl _) new
    refine ⟨.ref s.heap.objs.size, _, I1, rfl, ⟨_, x, rfl, I.hok.fresh (Nat.le_refl _), rfl, hx2⟩, ⟨⟨u, ?_⟩, ?_, ne, ne2, ne3⟩, fun b hb => ?_⟩
    · have e1 : ((i + 1 : Nat) : Int) = (i : Int) + 1 := by omega
      rw [e1]
      exact ie2
    · obtain ⟨o, q, r⟩ := ti2
      exact ⟨o, (sb.2 it (Ne.symm ne)).trans q, r⟩
    · have lb : b < s.heap.objs.size := by
        rcases List.mem_cons.mp hb with z | z
        · rw [z]; exact le
        · rw [List.mem_singleton.mp z]; exact lit
      rw [upd_ne (Nat.ne_of_lt lb)]
      exact (hf b hb).1
  done := by
    intro X e1 e2 e3 hc i pins s σ H E I hf st hg
    subst e1 e2 e3
    obtain ⟨⟨old, ie⟩, ti, ne, ne2, ne3⟩ := st
    obtain ⟨hx, rfl⟩ := hg
    obtain ⟨its, rv, isT, _⟩ := I.tuple hx
    have hh : X.A.in1.handled = none := I.ok.hd hc
    have lz : its.toArray.size = xs.length := by
      rw [List.size_toArray]
      exact rv.length.symm
    obtain ⟨f0, f1, f2, f3, f4, f5⟩ := hf it (by simp)
    rw [← lz] at ti
    exact wpAny_pyNext_enum_endD (Draws.tuple hh it a ne2 its.toArray) ie ⟨ti, isT⟩ fun h' eb => ⟨rfl, I.turned (t' := s.toks) (fun b o hb q => eb b o hb q) f0 f1 f3 f4 f5⟩
  self := fun A i s Q E st h => by
    obtain ⟨⟨_, ie⟩, _⟩ := st
    exact wpAny_pyIter_enum ie h
def iEnumT (K : PySem.W.Frag) (ta : TA) : TI := fun σ H R => ta σ H fun vs H1 => ∃ a xs, vs = [.ref a] ∧ SqT K H1 a xs ∧ R (ItT K a xs) H1
theorem pi_enumT {X : Cx} {e : Expr} {ta : TA} {p pos tpos : Pos} {elts : List Expr} {kk : Nat} (hg : Gl X "enumerate") (hm : X.mg "enumerate" = none) (ha : PA X [e] ta) (hs : starEach [e] X.env = [(false, eval e X.env)] := by rfl) :
    PI X (.Tuple elts kk tpos) (.Call (.Name "enumerate" p) [e] [] pos) (iEnumT X.K ta) := by
  refine ⟨fun pins s σ H R I h => ?_⟩
  refine Call_ (ld_blt I hg hm boot_enumerate (PyProof.Rows.callWith_type1 (thn (ha.run pos pins s σ H _ I h) fun us s1 ⟨vs, H1, I1, r1, q1⟩ => ?_) hs rfl))
  obtain ⟨a, xs, rfl, hx, q⟩ := q1
  rw [Vals.ref1 r1]
  obtain ⟨its, rv, isT, _⟩ := I1.tuple hx
  have la : a < s1.heap.objs.size := by
    obtain ⟨o, ho, _⟩ := isT
    exact Heap.lt_size ho
  refine enum_made isT fun h' ie ti k => wpAny_pyIter_enum ie ?_
  have I2 : Inv X pins σ H1 { s1 with heap := h' } := I1.kept (t' := s1.toks) k
  refine ⟨s1.heap.objs.size + 1, [s1.heap.objs.size + 1, s1.heap.objs.size], _, _, H1, rfl, I2, turn_enumT a (s1.heap.objs.size + 1) s1.heap.objs.size xs,
    ⟨⟨.none, ie⟩, ti, Nat.succ_ne_self _, Nat.ne_of_lt la, Nat.ne_of_lt (Nat.lt_succ_of_lt la)⟩, fun b hb => ?_, q⟩
  have le : s1.heap.objs.size ≤ b := by
    rcases List.mem_cons.mp hb with z | z
    · rw [z]; exact Nat.le_succ _
    · rw [List.mem_singleton.mp z]; exact Nat.le_refl _
  exact I1.fpOk le (I1.hok.fresh le)
end Q
set_option Elab.async false
set_option linter.all false
set_option maxRecDepth 100000
set_option maxHeartbeats 4000000
namespace Q
open PySem PySem.Spec PyProof.Rows L2 PySem.W
section
variable {X : Cx}
/-- x < y of two tuples of texts and whole numbers, of one shape -/
def rLtK (K : PySem.W.Frag) : R2 := fun x y H Q => ∃ (a b : Addr) (ks ls : List Key), x = V.ref a ∧ y = V.ref b ∧ SqT K H a (ks.map kV) ∧ SqT K H b (ls.map kV) ∧ shape ks = shape ls ∧ Q (.bl (ksLt ks ls)) H
theorem op_ltK (hu : X.A.units + 1 < cLine) : OpR X (compareOp .Lt) (rLtK X.K) := by
  intro pins s σ H x y v u Q I rx ry h
  obtain ⟨a, b, ks, ls, rfl, rfl, ha, hb, sh, q⟩ := h
  cases rx
  cases ry
  have ra := (tupAt_of I ha).reads
  have rb := (tupAt_of I hb).reads
  have da : (PyData.tuple (ks.map kD)).depth = 1 := by rw [PyData.depth, depth_keys]
  refine lt_data ra rb (by simpa [alike] using alikeAll_keys sh) (by simp) (by
    have m := Nat.min_le_left (PyData.tuple (ks.map kD)).depth (PyData.tuple (ls.map kD)).depth
    omega) ?_
  rw [tup_lt sh]
  exact ⟨.bl (ksLt ks ls), H, I, rfl, q⟩
end
end Q
set_option Elab.async false
set_option linter.all false
set_option maxRecDepth 100000
set_option maxHeartbeats 4000000
namespace Q
open PySem PySem.Spec PyProof.Rows L2 PySem.W
section
variable {X : Cx}
/-- raise C(), a class of the program without its own __init__ -/
theorem pmk_own0 {C : Addr} {bmB : List Value} {B newId initId : String} {x : Str} {p pos : Pos} (F : ExcBaseFacts B newId initId bmB) (q : excIn X.K C bmB newId = true)
    (gC : X.mg x = some (.ref C)) (kC : keepIn X.K (.ref C) = true) (r : Raises X (.ref C)) (hg : Gl X x) (hdb : (x == ("__debug__" : Str)) = false := by decide) :
    PMk X (.Call (.Name x p) [] [] pos) (fun _ H Q => Q (.ref C) none H) := by
  intro pins s σ H Q I h
  refine wpAny_Call_Name_kw (ld_glob I hg gC ?_ hdb)
  refine PySem.W.callWith_K0 I.kIn kC ?_
  show wpAny _ _ (call (.ref C) []) _ _ _
  obtain ⟨bm, N, nm, qn, bs, hdct, sn, sub, ab, col, dd, k0, k1, k2, k3, k5, mN, hC, hN, hni, T⟩ := exc_obj I.kIn q
  refine wpAny_call_exc_subT F T hC hN hni (fun h' e hm => ?_) (Nat.zero_le _)
  exact mk_of I hm r h (I.hok.gone hm.new)
/-- sorted(xs), xs a list of unlike tuples of texts and whole numbers, of one shape -/
def rSortTuL (K : PySem.W.Frag) : List V → Hp → VK → Prop := fun xs H Q => ∃ (a : Addr) (ks : List (Addr × List Key)) (sh : List Bool), xs = [V.ref a] ∧ SqL K H a (ks.map fun p => V.ref p.1) ∧
  (∀ p ∈ ks, SqT K H p.1 (p.2.map kV)) ∧ (∀ p ∈ ks, shape p.2 = sh) ∧ sh ≠ [] ∧ (ks.map (·.2)).Nodup ∧ ks.length < 4000 ∧
  ∀ (p : Addr) (zs : List (Addr × List Key)), zs.Perm ks → zs.Pairwise (fun x y => ksLt x.2 y.2 = true) → H p = none → Q (.ref p) (upd H p (.lst (zs.map fun q => V.ref q.1)))
theorem cr_sortTuL (hu : X.A.units + 3 < cLine) : CallR X (.builtin "sorted") (rSortTuL X.K) := by
  intro pins s σ H xs us0 Q I r h
  obtain ⟨a, ks, sh, rfl, ha, hk, hs, ne, nd, few, q⟩ := h
  rw [Vals.ref1 r]
  obtain ⟨its, rv, pl, _⟩ := I.list ha
  have ei := vals_rows rv
  have er := each_rows (P := X.prog) (w := X.w) (h := s.heap) fun p hp => tupAt_of I (hk p hp)
  refine sorted_data (vs := its) (R := fun v p => v = Value.ref p.1) (bs := ks) (enc := fun p : Addr × List Key => PyData.tuple (p.2.map kD)) pl.isList (by rw [ei]; exact er.mono fun _ _ z => z.1) (by rw [ei]; exact er.mono fun _ _ z => ⟨_, z.2⟩) ?_ ?_ ?_ ?_ ?_
  · intro d hd d' hd'
    obtain ⟨p, hp, rfl⟩ := List.mem_map.mp hd
    obtain ⟨p', hp', rfl⟩ := List.mem_map.mp hd'
    have e : shape p.2 = shape p'.2 := (hs p hp).trans (hs p' hp').symm
    simpa [alike] using alikeAll_keys e
  · refine .inl fun d hd => ?_
    obtain ⟨p, hp, rfl⟩ := List.mem_map.mp hd
    have e := hs p hp
    cases hq : p.2 with
    | nil =>
      rw [hq] at e
      exact absurd e.symm ne
    | cons k0 r0 => exact ⟨_, _, by rw [List.map_cons]⟩
  · rw [sizeLine_eq]
    omega
  · intro b hb
    have e : (PyData.tuple (b.2.map kD)).depth ≤ 1 := by
      simp [PyData.depth, depth_keys]
    show X.A.units + 2 + (PyData.tuple (b.2.map kD)).depth < cLine
    omega
  · intro out lo eo
    have pz : (ks.mergeSort (dataLe false fun p : Addr × List Key => PyData.tuple (p.2.map kD))).Perm ks := List.mergeSort_perm ks _
    have pw : (ks.mergeSort (dataLe false fun p : Addr × List Key => PyData.tuple (p.2.map kD))).Pairwise fun x y => ksLt x.2 y.2 = true := by
      have w1 := sort_pairwise (sortLe_total (listOrd itemOrd) false fun p : Addr × List Key => keyToks (PyData.tuple (p.2.map kD))) ks
      have nd2 : ((ks.mergeSort (dataLe false fun p : Addr × List Key => PyData.tuple (p.2.map kD))).map (·.2)).Nodup := (pz.map (·.2)).nodup_iff.mpr nd
      have nd3 := List.pairwise_map.mp nd2
      refine List.Pairwise.imp_of_mem (fun {x y} hx hy h => ?_) (List.Pairwise.and w1 nd3)
      have se : shape x.2 = shape y.2 := (hs x (pz.mem_iff.mp hx)).trans (hs y (pz.mem_iff.mp hy)).symm
      have e1 : (!dataLt (.tuple (y.2.map kD)) (.tuple (x.2.map kD))) = true := h.1
      rw [tup_lt se.symm, Bool.not_eq_true'] at e1
      exact ksLt_total se h.2 e1
    generalize ks.mergeSort (dataLe false fun p : Addr × List Key => PyData.tuple (p.2.map kD)) = zs at pz pw eo
    have few2 : (zs.map fun q => V.ref q.1).length ≤ sizeLine := by
      rw [List.length_map, pz.length_eq, sizeLine_eq]
      omega
    obtain ⟨c, hc⟩ := sortedAll_at s.heap its (List.toArray out)
    have rv2 : Vals (zs.map fun q => V.ref q.1) (List.toArray out).toList := by
      rw [List.toList_toArray, rows_each eo]
      exact rows_vals zs
    have le : s.heap.objs.size ≤ s.heap.objs.size + 1 := Nat.le_succ _
    exact ⟨.ref (s.heap.objs.size + 1), _, laid_list I (c := c) (fun _ _ => sortedAll_old) rfl rfl le hc rv2 few2, rfl, q _ zs pz pw (I.hok.fresh le)⟩
end
end Q
set_option Elab.async false
set_option linter.all false
set_option maxRecDepth 100000
set_option maxHeartbeats 4000000
/-! The end of a law whose defs make lambdas, over FnG. -/
namespace Q
open PySem PySem.Spec PyProof.Rows L2 LamX

/-- an empty table of code objects -/
abbrev emptyTab : Obj := { cls := .none, data := .fields #[] }
section
variable {P : Program} {w : World} {K : PySem.W.Frag} {mg mb : Str → Option Value} {k : Nat}
  {fa a : Addr} {fd : FuncData} {x : Str} {sp : Sp} {s₁ : Shared} {vs : List Value} {ns : List Int} {c1 P1 c2 P2 : Addr}
/-- what may be tracked at the start: the script as it stands, the two tables -/
def OnlyT (P1 P2 : Addr) (H : Hp) : Prop := ∀ b, H b = none ∨ (b = P1 ∨ b = P2) ∨ ∃ o xs, H b = some (.frz o (.lst xs))
structure Two (s₁ : Shared) (K : PySem.W.Frag) (c1 P1 c2 P2 : Addr) : Prop where
  e1 : s₁.heap.get? P1 = some emptyTab
  e2 : s₁.heap.get? P2 = some emptyTab
  n1 : K.lookup P1 = none
  n2 : K.lookup P2 = none
  h1 : PySem.W.CodeHd s₁.heap c1 P1
  h2 : PySem.W.CodeHd s₁.heap c2 P2
theorem law_coreT (KX : K.In s₁.heap) (hns : s₁.heap.Ns mainGlobals mg) (hb : s₁.heap.Ns builtinsNs mb)
    (hbb : ∀ x : Str, x ≠ "__name__" → mb x = bootBuiltins x) (hlim : s₁.heap.NoLimit) (hg : s₁.gens = #[])
    (tw : Two s₁ K c1 P1 c2 P2)
    (hbm : ∃ (bm : Addr) (ob : Obj), mg "__builtins__" = some (.ref bm) ∧ bm ≠ builtinsNs ∧ s₁.heap.get? bm = some ob ∧
      ob.cls = .type "module" ∧ ob.dict = some builtinsNs ∧ ob.data = .plain)
    (ha : s₁.heap.get? a = some { cls := .type "list", data := .seq vs.toArray }) (hr : Room k callerA)
    (F : ∀ base : Heap, K.In base → base.Ns mainGlobals mg → TabB base mg c1 P1 → TabB base mg c2 P2 → FnG P w K mg base CX0 k fa fd [x] sp)
    (hbind : ∀ (s : Shared) (u : Value), BindsTo s fd ⟨[u], []⟩ [(x, u)])
    (H : Hp) (hO : OnlyT P1 P2 H) (hH1 : H P1 = some (.tbl #[])) (hH2 : H P2 = some (.tbl #[]))
    (hS : sp [.ref a] H (fun v _ => v = .bl true) fun _ _ _ => False)
    (hok : HOk P w H s₁.heap) (hA : ∀ b, H b ≠ none → b = a ∨ b = P1 ∨ b = P2) (hK : H a ≠ none → K.lookup a = none) :
    codeAny (model P w) callerA (.call (.ref fa) ⟨[.ref a], []⟩) (LawEnd s₁) s₁ := by
  -- an object that is neither the script nor a table is not tracked
  have off : ∀ {b : Addr} {o : Obj}, s₁.heap.get? b = some o → (∀ us n, o.data ≠ .seq us n) → o.data ≠ .fields #[] → H b = none := by
    intro b o e d1 d2
    cases q : H b with
    | none => rfl
    | some u =>
      rcases hA b (by rw [q]; exact nofun) with z | z | z
      · rw [z, ha] at e
        cases e
        exact absurd rfl (d1 _ _)
      · rw [z, tw.e1] at e
        cases e
        exact absurd rfl d2
      · rw [z, tw.e2] at e
        cases e
        exact absurd rfl d2
  have ns_free : ∀ {b m}, s₁.heap.Ns b m → (hidT s₁.heap H).Ns b m := by
    rintro b m ⟨o, es, ep, e, d, r⟩
    exact ⟨o, es, ep, hidT_get e (off e (fun us n z => by rw [d] at z; cases z) (fun z => by rw [d] at z; cases z)), d, r⟩
  have kin : K.In (hidT s₁.heap H) := fun b o e => by
    refine hidT_get (KX b o e) ?_
    cases q : H b with
    | none => rfl
    | some u =>
      rcases hA b (by rw [q]; exact nofun) with z | z | z
      · subst z
        rw [hK (by rw [q]; exact nofun)] at e
        cases e
      · rw [z, tw.n1] at e
        cases e
      · rw [z, tw.n2] at e
        cases e
  obtain ⟨mc, l1, l2⟩ := hlim
  have md : Mod K mg (hidT s₁.heap H) :=
    { kin := kin, glob := ns_free hns, blt := ⟨mb, ns_free hb, hbb⟩, nolimit := ⟨mc, ns_free l1, l2⟩ }
  have e0 : Env0 P w K mg (hidT s₁.heap H) callerA [] s₁ H :=
    ⟨rfl, md, fun b o e => of_hidT e, Nat.le_of_eq (hidT_size _ _), trivial,
      fun b z => absurd (show b ∈ ([] : List Addr) from z) List.not_mem_nil, hok, .of_eq hg⟩
  have tabOf : ∀ {c T : Addr}, PySem.W.CodeHd s₁.heap c T → s₁.heap.get? T = some emptyTab → TabB (hidT s₁.heap H) mg c T := by
    intro c T hd eT
    obtain ⟨o, us, fl, tf, fg, tg, iF, tx, tt, q1, q2, q3, q4, q5⟩ := hd
    obtain ⟨bm, ob, y1, y2, y3, y4, y5, y6⟩ := hbm
    refine ⟨⟨o, us, fl, tf, fg, tg, iF, tx, tt, hidT_get q1 (off q1 ?_ ?_), q2, q3, q4, q5⟩, ⟨bm, ob, y1, y2, ?_, ?_, hidT_get y3 (off y3 ?_ ?_), y4, y5, y6⟩, ?_⟩
    · intro us' n z
      rw [q3] at z
      cases z
    · intro z
      rw [q3] at z
      cases z
      cases q4
    · rintro rfl
      obtain ⟨o', es, ep, e, d, _⟩ := hns
      rw [e] at y3
      cases y3
      rw [d] at y6
      cases y6
    · rintro rfl
      rw [eT] at y3
      cases y3
      cases y6
    · intro us' n z
      rw [y6] at z
      cases z
    · intro z
      rw [y6] at z
      cases z
    · rintro rfl
      obtain ⟨o', es, ep, e, d, _⟩ := hns
      rw [eT] at e
      cases e
      cases d
  have run := (F _ kin (ns_free hns) (tabOf tw.h1 tw.e1) (tabOf tw.h2 tw.e2)).go callerA [] s₁ H ⟨[.ref a], []⟩ [.ref a] [.ref a] _ _ rfl hr e0
    (hbind s₁ (.ref a)) (.cons rfl .nil) hS
  refine codeAny_mono run ?_
  intro r s' h
  match r, h with
  | .error e, h => exact False.elim h
  | .ok (.ret u), ⟨v, H', os, bare, un, hok', r', q⟩ =>
    subst q
    obtain rfl : u = Value.bool true := r'
    have grown : ∀ {T : Addr}, H T = some (.tbl #[]) → ∃ more : Array Value, s'.heap.get? T = some { cls := .none, data := .fields more } := by
      intro T hT
      obtain ⟨more, z⟩ := un.tbls T #[] hT
      exact ⟨_, hok' T _ z⟩
    have rest : ∀ b o, b ≠ P1 → b ≠ P2 → s₁.heap.get? b = some o → s'.heap.get? b = some o := by
      intro b o z1 z2 e
      cases q : H b with
      | none => exact un.keep b o e q (fun z => absurd (show b ∈ ([] : List Addr) from z) List.not_mem_nil) List.not_mem_nil
      | some u =>
        rcases hO b with z | (z | z) | ⟨ob, xs, z⟩
        · rw [q] at z; cases z
        · exact absurd z z1
        · exact absurd z z2
        · have y2 := (hok' b _ (un.frzs b ob _ z)).1
          have y1 := (hok b _ z).1
          rw [e] at y1
          cases y1
          exact y2
    refine ⟨rfl, ⟨fun b o e => ?_, fun b o e => ?_⟩, os, bare⟩
    · by_cases z1 : b = P1
      · subst z1
        obtain ⟨more, hm⟩ := grown hH1
        rw [tw.e1] at e
        cases e
        exact .inr (.inl ⟨(tw.h1.tab tw.e1).isCodeTable, rfl, #[], more, rfl, by rw [hm, Array.empty_append]⟩)
      · by_cases z2 : b = P2
        · subst z2
          obtain ⟨more, hm⟩ := grown hH2
          rw [tw.e2] at e
          cases e
          exact .inr (.inl ⟨(tw.h2.tab tw.e2).isCodeTable, rfl, #[], more, rfl, by rw [hm, Array.empty_append]⟩)
        · exact .inl (rest b o z1 z2 e)
    · by_cases z1 : b = P1
      · subst z1
        exact let ⟨_, hm⟩ := grown hH1; ⟨_, hm⟩
      · by_cases z2 : b = P2
        · subst z2
          exact let ⟨_, hm⟩ := grown hH2; ⟨_, hm⟩
        · exact ⟨o, rest b o z1 z2 e⟩
theorem law_callTG (KX : K.In s₁.heap) (hns : s₁.heap.Ns mainGlobals mg) (hb : s₁.heap.Ns builtinsNs mb)
    (hbb : ∀ x : Str, x ≠ "__name__" → mb x = bootBuiltins x) (hlim : s₁.heap.NoLimit) (hg : s₁.gens = #[])
    (tw : Two s₁ K c1 P1 c2 P2)
    (hbm : ∃ (bm : Addr) (ob : Obj), mg "__builtins__" = some (.ref bm) ∧ bm ≠ builtinsNs ∧ s₁.heap.get? bm = some ob ∧
      ob.cls = .type "module" ∧ ob.dict = some builtinsNs ∧ ob.data = .plain)
    (ha : s₁.heap.get? a = some { cls := .type "list", data := .seq vs.toArray }) (hi : IntsAre vs ns)
    (hl : ns.length ≤ sizeLine) (hr : Room k callerA)
    (F : ∀ base : Heap, K.In base → base.Ns mainGlobals mg → TabB base mg c1 P1 → TabB base mg c2 P2 → FnG P w K mg base CX0 k fa fd [x] sp)
    (hbind : ∀ (s : Shared) (u : Value), BindsTo s fd ⟨[u], []⟩ [(x, u)])
    (hsp : ∀ H : Hp, H P1 = some (.tbl #[]) → H P2 = some (.tbl #[]) → SqL K H a (ns.map V.int) →
      sp [.ref a] H (fun v _ => v = .bl true) fun _ _ _ => False) :
    codeAny (model P w) callerA (.call (.ref fa) ⟨[.ref a], []⟩) (LawEnd s₁) s₁ := by
  have rv := vals_ints hi
  have lenV := hi.length
  have aT : ∀ {T : Addr}, s₁.heap.get? T = some emptyTab → T ≠ a := fun {T} e z => by
    rw [z, ha] at e
    cases e
  have tblOk : ∀ {H : Hp} {T : Addr}, s₁.heap.get? T = some emptyTab → ObjOk P w H s₁.heap T (.tbl #[]) := fun {H T} e => e
  cases hk : K.lookup a with
  | some o =>
    have e := KX a o hk
    rw [ha] at e
    cases e
    let H : Hp := fun b => if b = P1 ∨ b = P2 then some (.tbl #[]) else none
    have on : ∀ b, b = P1 ∨ b = P2 → H b = some (.tbl #[]) := fun b z => if_pos z
    have off : ∀ b, ¬ (b = P1 ∨ b = P2) → H b = none := fun b z => if_neg z
    have hS : SqL K H a (ns.map V.int) := by
      refine .inr ⟨_, vs.toArray, _, hk, rfl, rfl, rfl, ?_, by simpa using rv⟩
      rw [List.size_toArray, lenV]
      exact hl
    have nA : ¬ (a = P1 ∨ a = P2) := fun z => z.elim (fun z => aT tw.e1 z.symm) (fun z => aT tw.e2 z.symm)
    refine law_coreT KX hns hb hbb hlim hg tw hbm ha hr F hbind H (fun b => ?_) (on _ (.inl rfl)) (on _ (.inr rfl)) (hsp H (on _ (.inl rfl)) (on _ (.inr rfl)) hS) (fun b u z => ?_) (fun b z => ?_) (fun z => absurd (off a nA) z)
    · by_cases z : b = P1 ∨ b = P2
      · exact .inr (.inl z)
      · exact .inl (off b z)
    · by_cases y : b = P1 ∨ b = P2
      · rw [on b y] at z
        cases z
        rcases y with rfl | rfl
        · exact tblOk tw.e1
        · exact tblOk tw.e2
      · rw [off b y] at z
        cases z
    · by_cases y : b = P1 ∨ b = P2
      · exact .inr y
      · exact absurd (off b y) z
  | none =>
    let ob : Obj := { cls := .type "list", data := .seq vs.toArray }
    let H : Hp := fun b => if b = a then some (.frz ob (.lst (ns.map V.int))) else if b = P1 ∨ b = P2 then some (.tbl #[]) else none
    have at_a : H a = some (.frz ob (.lst (ns.map V.int))) := if_pos rfl
    have on : ∀ b, b ≠ a → b = P1 ∨ b = P2 → H b = some (.tbl #[]) := fun b n z => (if_neg n).trans (if_pos z)
    have off : ∀ b, b ≠ a → ¬ (b = P1 ∨ b = P2) → H b = none := fun b n z => (if_neg n).trans (if_neg z)
    have h1 : H P1 = some (.tbl #[]) := on _ (aT tw.e1) (.inl rfl)
    have h2 : H P2 = some (.tbl #[]) := on _ (aT tw.e2) (.inr rfl)
    refine law_coreT KX hns hb hbb hlim hg tw hbm ha hr F hbind H (fun b => ?_) h1 h2 (hsp H h1 h2 (.inl (.inr ⟨ob, at_a⟩))) (fun b u z => ?_) (fun b z => ?_) (fun _ => hk)
    · by_cases n : b = a
      · subst n
        exact .inr (.inr ⟨_, _, at_a⟩)
      · by_cases z : b = P1 ∨ b = P2
        · exact .inr (.inl z)
        · exact .inl (off b n z)
    · by_cases n : b = a
      · subst n
        rw [at_a] at z
        cases z
        exact ⟨ha, by rw [List.length_map]; exact hl, vs, _, rv, ha⟩
      · by_cases y : b = P1 ∨ b = P2
        · rw [on b n y] at z
          cases z
          rcases y with rfl | rfl
          · exact tblOk tw.e1
          · exact tblOk tw.e2
        · rw [off b n y] at z
          cases z
    · by_cases n : b = a
      · exact .inl n
      · by_cases y : b = P1 ∨ b = P2
        · exact .inr y
        · exact absurd (off b n y) z
end
/-- a def of the program, its code object and that one's table, as the written part tells them -/
def OneTab (K : PySem.W.Frag) (mg : Str → Option Value) (n : Str) (c T : Addr) : Prop :=
  ∃ (f : Addr) (o : Obj) (fd : FuncData), mg n = some (.ref f) ∧ K.lookup f = some o ∧ o.data = .func fd ∧ fd.code = .ref c ∧
    PySem.W.codeHdIn K c T = true ∧ K.lookup T = none
/-- the goal that the head leaves, from the law's promise; the defs n1 and n2 make lambdas -/
theorem walkTG {l : PySem.W.OpenLaw} {n k : Nat} {q : Program} {loose : List Str}
    {XP : (Str → Option Value) → Heap → Prop} {YP : World → Heap → Prop} {d : DefRec}
    {K : Params → PySem.W.Frag} {sp : Addr → Addr → PySem.W.Frag → Sp} {x n1 n2 : Str} (hn : l.most = some n)
    (hn2 : n ≤ sizeLine) (hdf : d.params.defaults = []) (hr : Room k callerA)
    (r1 : ((recsOf q).any fun e => e.name == n1) = true) (r2 : ((recsOf q).any fun e => e.name == n2) = true)
    (hY : ∀ (w : World) (h : Heap), YP w h → (K w.params).In h)
    (F : ∀ (w : World) (mg : Str → Option Value) (fa : Addr) (h : Heap), (K w.params).In h →
      h.Ns mainGlobals mg → mg d.name = some (.ref fa) →
      ∃ (fd : FuncData) (c1 P1 c2 P2 : Addr), OneTab (K w.params) mg n1 c1 P1 ∧ OneTab (K w.params) mg n2 c2 P2 ∧
        (∀ (s : Shared) (u : Value), BindsTo s fd ⟨[u], []⟩ [(x, u)]) ∧
        ∀ base : Heap, (K w.params).In base → base.Ns mainGlobals mg → TabB base mg c1 P1 → TabB base mg c2 P2 →
          FnG l.prog w (K w.params) mg base CX0 k fa fd [x] (sp P1 P2 (K w.params)))
    (hsp : ∀ (P1 P2 : Addr) (K : PySem.W.Frag) (H : Hp) (a : Addr) (ns : List Int), ns.length ≤ n → H P1 = some (.tbl #[]) → H P2 = some (.tbl #[]) →
      SqL K H a (ns.map V.int) → sp P1 P2 K [.ref a] H (fun v _ => v = .bl true) fun _ _ _ => False) :
    PySem.W.WalkO q loose XP YP l.row.toRowW d [] (fun f vs => PySem.call f vs) := by
  refine Att.attach_call hn hdf ?_
  intro w s₀ s₁ mg mb fa o pm cd doc a vs ns G Y ho hd hcd hmg hobj hints hlen hg
  have KX := hY w _ Y
  obtain ⟨fd, c1, P1, c2, P2, o1, o2, hb, hF⟩ := F w mg fa _ KX G.T.g hmg
  have get : ∀ {n c T}, ((recsOf q).any fun e => e.name == n) = true → OneTab (K w.params) mg n c T → s₁.heap.get? T = some emptyTab ∧ (K w.params).lookup T = none ∧ PySem.W.CodeHd s₁.heap c T := by
    rintro n c T r ⟨f, o, fd, z1, z2, z3, z4, z5, z6⟩
    obtain ⟨dL, hm, hnm⟩ := List.any_eq_true.mp r
    obtain rfl : dL.name = n := beq_iff_eq.mp hnm
    obtain ⟨a', o', fd', c', T', y1, y2, y3, y4, y5, y6⟩ := G.T.tab dL hm
    cases z1.symm.trans y1
    cases (KX _ _ z2).symm.trans y2
    cases z3.symm.trans y3
    cases z4.symm.trans y4
    have H1 := PySem.W.codeHd_of_K KX z5
    obtain ⟨⟨ob, us, x1, _, x3, x4⟩, x5⟩ := y6
    obtain ⟨ob2, us2, _, _, _, _, _, _, _, w1, _, w3, w4, _⟩ := id H1
    cases x1.symm.trans w1
    cases x3.symm.trans w3
    cases x4.symm.trans w4
    exact ⟨x5, z6, H1⟩
  obtain ⟨t1, u1, v1⟩ := get r1 o1
  obtain ⟨t2, u2, v2⟩ := get r2 o2
  exact law_callTG KX G.T.g G.T.b G.T.builtins G.T.nolimit hg ⟨t1, t2, u1, u2, v1, v2⟩ G.T.bmain hobj hints (Nat.le_trans hlen hn2) hr hF hb
    (fun H hH1 hH2 hS => hsp P1 P2 _ H a ns hlen hH1 hH2 hS)
end Q
set_option Elab.async false
set_option linter.all false
set_option maxRecDepth 100000
set_option maxHeartbeats 4000000
/-! Values of every kind beside texts: in, and == of pairs. -/
namespace PySem.SeqAt
open MeetsSeq
section
variable {A : Around} {s : Shared}
theorem odd_str_eq_dict (b : Str) (u : Tok) (a : Addr) (c : Value) (dd : Option Addr) (es : Array DictEntry) (ep : Nat) (sl : Array (Option Value)) :
    Meets (Builtin.«str.__eq__» ⟨[.str b u, .ref a], []⟩) (fun _ R s => s.heap.get? a = some { cls := c, dict := dd, data := .dict es ep, slots := sl } ∧ R (.ok (.ret .notImplemented)) s) :=
  .of_wp fun prog w A R s h => by
    obtain ⟨hp, g, d, tk, os⟩ := s
    obtain ⟨hl, h⟩ := h
    wp_walk using wpAny_loadPart' hl, wpAny_load hl
    exact ⟨_, rfl, h⟩
theorem odd_dict_eq_str (b : Str) (u : Tok) (a : Addr) (dd : Option Addr) (es : Array DictEntry) (ep : Nat) (sl : Array (Option Value)) :
    Meets (Builtin.«dict.__eq__» ⟨[.ref a, .str b u], []⟩) (fun _ R s => s.heap.get? a = some { cls := .type "dict", dict := dd, data := .dict es ep, slots := sl } ∧ R (.ok (.ret .notImplemented)) s) :=
  .of_wp fun prog w A R s h => by
    obtain ⟨hl, h⟩ := h
    have hT : s.TypeIs (.ref a) "dict" := ⟨_, hl, rfl⟩
    show wpAny _ _ (Builtin.Dict.dictSlotArgs "__eq__" ⟨[.ref a, .str b u], []⟩ >>= _) _ _ s
    refine wpAny_bind ?_
    unfold Builtin.Dict.dictSlotArgs
    refine wpAny_bind (wpAny_notOrdered_dict hT ?_)
    show wpAny _ _ (pure (Value.ref a, Value.str b u)) _ _ s
    refine wpAny_pure (wpAny_bind (wpAny_isInstance (T := "str") (typeIs_str s b u) F.sub_str_dict ?_))
    simp only [Bool.not_false, if_true]
    exact wpAny_bind (wpAny_rule (wpAny_pure ⟨_, rfl, h⟩))
theorem rc_str_dict {a : Addr} {dd : Option Addr} {es : Array DictEntry} {ep : Nat} {sl : Array (Option Value)} (b : Str) (u : Tok)
    (hl : s.heap.get? a = some { cls := .type "dict", dict := dd, data := .dict es ep, slots := sl }) (hu : A.units < cLine) : RcAt A s (.str b u) (.ref a) false := fun prog w E Q h =>
  rc_eq_decline_or (k := false) (typeIs_str s b u) ⟨_, hl, rfl⟩ (by decide) F.sub_dict_str F.slot_str_eq F.slot_dict_eq_refl
    (fun _ hq => call_meets F.slot_str_eq (typeIs_str s b u) F.entry_str_eq (F.args_str_eq_2 _ _) (odd_str_eq_dict b u a _ dd es ep sl) ⟨hl, hq⟩)
    (fun _ hq => call_meets F.slot_dict_eq_refl ⟨_, hl, rfl⟩ F.entry_dict_eq (F.args_dict_eq_2 _ _) (odd_dict_eq_str b u a dd es ep sl) ⟨hl, hq⟩)
    (fun _ hq => wpAny_of_eq (rfl : isSame (.str b u) (.ref a) = pure false) hq) (.inr hu) h
theorem eqAt_str_dict {a : Addr} {dd : Option Addr} {es : Array DictEntry} {ep : Nat} {sl : Array (Option Value)} (b : Str) (u : Tok)
    (hl : s.heap.get? a = some { cls := .type "dict", dict := dd, data := .dict es ep, slots := sl }) (hu : A.units < cLine) : EqAt A s (.str b u) (.ref a) false := fun prog w E Q h => by
  unfold eqBool
  refine wpAny_holding (wpAny_ite_split (fun hab => absurd (eq_of_beq hab) nofun) fun _ => ?_)
  exact wpAny_bind (rc_str_dict b u hl hu prog w E _ (wpAny_truthy_bool h))
end
end PySem.SeqAt
namespace Q
open PySem PySem.Spec PyProof.Rows L2 PySem.W
/-- a value of a told kind -/
inductive Odd (K : PySem.W.Frag) (H : Hp) : V → Prop
  | non : Odd K H .non
  | bl (b : Bool) : Odd K H (.bl b)
  | int (i : Int) : Odd K H (.int i)
  | str (x : Str) : Odd K H (.str x)
  | lst {a : Addr} {xs : List V} : SqL K H a xs → Odd K H (.ref a)
  | tup {a : Addr} {xs : List V} : SqT K H a xs → Odd K H (.ref a)
  | dic {a : Addr} {kvs : List (Key × V)} : H a = some (.dK kvs) → Odd K H (.ref a)
/-- whether it is this text -/
def isStr (x : V) (z : Str) : Bool := match x with
  | .str y => z == y
  | _ => false
section
variable {X : Cx} {pins : List (Addr × Obj)} {σ : L2.St} {H : Hp} {s : Shared}
theorem eqAt_odd {A : Around} {x : V} {v : Value} (I : Inv X pins σ H s) (hu : A.units < cLine) (o : Odd X.K H x) (rx : RelV x v) (z : Str) (t : Tok) : SeqAt.EqAt A s (.str z t) v (isStr x z) := by
  cases o with
  | non =>
    cases (show v = Value.none from rx)
    exact SeqAt.EqAt.str_none z t
  | bl b =>
    cases (show v = Value.bool b from rx)
    exact SeqAt.EqAt.str_bool z t b
  | int i =>
    obtain ⟨u, q⟩ := (show ∃ u, v = Value.int i u from rx)
    cases q
    exact SeqAt.EqAt.str_int z t i u
  | str y =>
    obtain ⟨u, q⟩ := (show ∃ u, v = Value.str y u from rx)
    cases q
    exact SeqAt.EqAt.str_str z t y u
  | @lst a xs h =>
    cases (show v = Value.ref a from rx)
    obtain ⟨its, _, pl, _⟩ := I.list h
    exact SeqAt.EqAt.str_list z t pl.isList hu
  | @tup a xs h =>
    cases (show v = Value.ref a from rx)
    obtain ⟨its, _, pl, _⟩ := I.tuple h
    exact SeqAt.EqAt.str_tuple z t pl hu
  | @dic a kvs h =>
    cases (show v = Value.ref a from rx)
    obtain ⟨_, _, vs, kv, o, es, ep, ho, hx, hd, _⟩ := I.hok _ _ h
    obtain ⟨c, dd, da, sl⟩ := o
    have hc := hx.1
    simp only at hc hd
    subst hc hd
    exact SeqAt.eqAt_str_dict z t ho hu
def isStrU (x : V) : Value → Bool
  | .str z _ => isStr x z
  | _ => false
theorem any_isStrU {x : V} : ∀ {zs : List Str} {us : List Value}, Vals (zs.map V.str) us → us.any (isStrU x) = zs.any (isStr x)
  | [], _, .nil => rfl
  | z :: zs, _, .cons r t => by
    obtain ⟨tk, rfl⟩ := r
    rw [List.any_cons, List.any_cons, any_isStrU t]
    rfl
theorem strs_each {A : Around} {x : V} {v : Value} (I : Inv X pins σ H s) (hu : A.units < cLine) (o : Odd X.K H x) (rx : RelV x v) : ∀ {zs : List Str} {us : List Value}, Vals (zs.map V.str) us → ∀ u ∈ us, SeqAt.EqAt A s u v (isStrU x u)
  | [], _, .nil, u, hu' => by cases hu'
  | z :: zs, _, .cons r t, u, hu' => by
    rcases List.mem_cons.mp hu' with q | q
    · subst q
      obtain ⟨tk, rfl⟩ := r
      exact eqAt_odd I hu o rx z tk
    · exact strs_each I hu o rx t u q
/-- x in a tuple of texts, x of any told kind -/
def rInO (K : PySem.W.Frag) (neg : Bool) : R2 := fun x y H Q => ∃ (p : Addr) (zs : List Str), y = .ref p ∧ SqT K H p (zs.map V.str) ∧ Odd K H x ∧ Q (.bl (if neg then !(zs.any (isStr x)) else zs.any (isStr x))) H
theorem op_inO (hu : X.A.units + 1 < cLine) : OpR X (compareOp .In) (rInO X.K false) := by
  intro pins s σ H x y v u Q I rx ry h
  obtain ⟨p, zs, rfl, hp, o, q⟩ := h
  cases ry
  obtain ⟨its, r, pl, _⟩ := I.tuple hp
  refine SeqAt.in_tupleAt (isStrU x) pl (fun y hy => strs_each I hu o rx r y (by simpa using hy)) ⟨.bl _, H, I, rfl, ?_⟩
  rw [show its.toArray.any (isStrU x) = its.any (isStrU x) by simp, any_isStrU r]
  exact q
theorem op_notInO (hu : X.A.units + 1 < cLine) : OpR X (compareOp .NotIn) (rInO X.K true) := by
  intro pins s σ H x y v u Q I rx ry h
  obtain ⟨p, zs, rfl, hp, o, q⟩ := h
  cases ry
  obtain ⟨its, r, pl, _⟩ := I.tuple hp
  refine SeqAt.notIn_tupleAt (isStrU x) pl (fun y hy => strs_each I hu o rx r y (by simpa using hy)) ⟨.bl _, H, I, rfl, ?_⟩
  rw [show its.toArray.any (isStrU x) = its.any (isStrU x) by simp, any_isStrU r]
  exact q
/-- (z, t) == (x, y), two texts beside two values of any told kind -/
def rEqP (K : PySem.W.Frag) (ne : Bool) : R2 := fun u v H Q => ∃ (a b : Addr) (z t : Str) (x y : V), u = .ref a ∧ v = .ref b ∧ SqT K H a [.str z, .str t] ∧ SqT K H b [x, y] ∧ Odd K H x ∧ Odd K H y ∧
  Q (.bl (if ne then !(isStr x z && isStr y t) else (isStr x z && isStr y t))) H
theorem op_eqP (hu : X.A.units + 1 < cLine) : OpR X (compareOp .Eq) (rEqP X.K false) := by
  intro pins s σ H u v w1 w2 Q I ru rv h
  obtain ⟨a, b, z, t, x, y, rfl, rfl, ha, hb, ox, oy, q⟩ := h
  cases ru
  cases rv
  obtain ⟨its, r1, pl1, _⟩ := I.tuple ha
  obtain ⟨its2, r2, pl2, _⟩ := I.tuple hb
  obtain ⟨v1, v2, rfl, ⟨tz, rfl⟩, ⟨tt, rfl⟩⟩ := vals2 r1
  obtain ⟨v3, v4, rfl, rx, ry⟩ := vals2 r2
  have hu1 : X.A.in1.units < cLine := hu
  refine SeqAt.eq_tupleAt (e := fun i => if i = 0 then isStr x z else isStr y t) pl1 pl2 (by omega) (fun j h1 h2 => ?_) ⟨.bl _, H, I, rfl, ?_⟩
  · match j, h1, h2 with
    | 0, _, _ => exact eqAt_odd I hu1 ox rx z tz
    | 1, _, _ => exact eqAt_odd I hu1 oy ry t tt
    | j + 2, h1, _ => exact absurd h1 (by simp)
  · have e : ((List.range (min (#[Value.str z tz, Value.str t tt] : Array Value).size (#[v3, v4] : Array Value).size)).all (fun i => if i = 0 then isStr x z else isStr y t) && (#[Value.str z tz, Value.str t tt] : Array Value).size == (#[v3, v4] : Array Value).size) = (isStr x z && isStr y t) := by
      show ((List.range 2).all (fun i => if i = 0 then isStr x z else isStr y t) && true) = _
      rw [Bool.and_true]
      show ([0, 1].all fun i => if i = 0 then isStr x z else isStr y t) = _
      simp
    show Q (.bl _) H
    rw [show ([Value.str z tz, Value.str t tt] : List Value).toArray = #[Value.str z tz, Value.str t tt] from rfl, show ([v3, v4] : List Value).toArray = #[v3, v4] from rfl, e]
    exact q
theorem op_neP (hu : X.A.units + 1 < cLine) : OpR X (compareOp .NotEq) (rEqP X.K true) := by
  intro pins s σ H u v w1 w2 Q I ru rv h
  obtain ⟨a, b, z, t, x, y, rfl, rfl, ha, hb, ox, oy, q⟩ := h
  cases ru
  cases rv
  obtain ⟨its, r1, pl1, _⟩ := I.tuple ha
  obtain ⟨its2, r2, pl2, _⟩ := I.tuple hb
  obtain ⟨v1, v2, rfl, ⟨tz, rfl⟩, ⟨tt, rfl⟩⟩ := vals2 r1
  obtain ⟨v3, v4, rfl, rx, ry⟩ := vals2 r2
  have hu1 : X.A.in1.units < cLine := hu
  refine SeqAt.RcNeAt.tuples (e := fun i => if i = 0 then isStr x z else isStr y t) pl1 pl2 (by omega) (fun j h1 h2 => ?_) X.prog X.w _ _ ⟨.bl _, H, I, rfl, ?_⟩
  · match j, h1, h2 with
    | 0, _, _ => exact eqAt_odd I hu1 ox rx z tz
    | 1, _, _ => exact eqAt_odd I hu1 oy ry t tt
    | j + 2, h1, _ => exact absurd h1 (by simp)
  · have e : ((List.range (min (#[Value.str z tz, Value.str t tt] : Array Value).size (#[v3, v4] : Array Value).size)).all (fun i => if i = 0 then isStr x z else isStr y t) && (#[Value.str z tz, Value.str t tt] : Array Value).size == (#[v3, v4] : Array Value).size) = (isStr x z && isStr y t) := by
      show ((List.range 2).all (fun i => if i = 0 then isStr x z else isStr y t) && true) = _
      rw [Bool.and_true]
      show ([0, 1].all fun i => if i = 0 then isStr x z else isStr y t) = _
      simp
    show Q (.bl _) H
    rw [show ([Value.str z tz, Value.str t tt] : List Value).toArray = #[Value.str z tz, Value.str t tt] from rfl, show ([v3, v4] : List Value).toArray = #[v3, v4] from rfl, e]
    exact q
end
end Q
set_option Elab.async false
set_option linter.all false
set_option maxRecDepth 100000
set_option maxHeartbeats 4000000
/-! Lambdas as values: made, kept in lists, passed on, called elsewhere. -/
namespace Q
open PySem PySem.Spec PyProof.Rows L2 LamX NdefX

/-! ### the closure's object -/
/-- at f stands the closure F with this body -/
def CloO (f : Addr) (F : NF) (body : Expr) : HO :=
  .ext fun h => ∃ pm ctv : Value, h.get? f = some (PySem.W.kla_obj F.name F.qual F.params body F.scope F.cl pm F.c ctv)
section
variable {P : Program} {w : World} {H : Hp} {h : Heap} {f : Addr} {F : NF} {body : Expr}
theorem cloO_at (ok : HOk P w H h) (e : H f = some (CloO f F body)) :
    ∃ pm ctv : Value, h.get? f = some (PySem.W.kla_obj F.name F.qual F.params body F.scope F.cl pm F.c ctv) := (ok f _ e).1
end
section
variable {X : Cx} {pins : List (Addr × Obj)} {σ : L2.St} {H : Hp} {s : Shared}
theorem clo_laid {F : NF} {body : Expr} {pm ctv : Value} {tk : Nat} {h' : Heap} (J : Inv X pins σ H { s with heap := h', toks := tk }) :
    Inv X pins σ (upd H h'.objs.size (CloO h'.objs.size F body))
      { s with heap := h'.push (PySem.W.kla_obj F.name F.qual F.params body F.scope F.cl pm F.c ctv), toks := tk } := by
  have top : (h'.push (PySem.W.kla_obj F.name F.qual F.params body F.scope F.cl pm F.c ctv)).get? h'.objs.size = some (PySem.W.kla_obj F.name F.qual F.params body F.scope F.cl pm F.c ctv) :=
    Heap.get?_push_size _ rfl
  refine J.laid (t' := tk) (fun _ _ e => Heap.get?_push_of_some _ e) (Nat.le_refl h'.objs.size) ?_
  refine ⟨⟨pm, ctv, top⟩, ⟨_, top⟩, ?_⟩
  rintro g g' ⟨pm', ctv', e⟩ st
  exact ⟨pm', ctv', st _ e⟩
/-- a lambda is made: the closure is tracked -/
theorem lam_val {T : List (Addr × Str)} {c P : Addr} {params : Arguments} {body : Expr} {scope : Scope} {pos : Pos} {E Q : Value → Shared → Prop}
    (I : Inv X pins σ H s) (TB : TabB X.base X.mg c P) (code : X.env.code = .ref c) (hm : (P, X.env.qual ++ "<lambda>") ∈ T)
    (hu : ∀ p ∈ T, p.1 = P → p.2 = X.env.qual ++ "<lambda>") (hT : Tabs T H) (hdef : defaultsOf params X.env = ([], []))
    (hfree : ∀ y ∈ scope.names, y.2 = .free → ∃ c, X.env.cells.lookup y.1 = some c)
    (k : ∀ (f c' : Addr) (H1 : Hp) (s' : Shared), Inv X pins σ H1 s' → ExtN H H1 → Tabs T H1 → H f = none →
      H1 f = some (CloO f ⟨"<lambda>", X.env.qual ++ "<lambda>", params, [], scope, cloFrom X.env.cells scope.names [], c'⟩ body) →
      H1 c' = some (CodeO c' (X.env.qual ++ "<lambda>")) → Q (.ref f) s') :
    wpAny (model X.prog X.w) X.A (eval (.Lambda params body scope pos) X.env) Q E s := by
  have tab := hT _ hm
  obtain ⟨ps, atP, tri, amg⟩ := tab
  have bl := TB.bm.keeps I.bk
  have hp := I.hok P _ atP
  refine PySem.W.kla_eval hdef ?_
  -- what the new closure adds to a heap that holds the tables
  have last : ∀ {H0 : Hp} {h' : Heap} {tk : Nat} {c' : Addr} {pm ctv : Value}, Inv X pins σ H0 { s with heap := h', toks := tk } → ExtN H H0 → Tabs T H0 → H0 c' = some (CodeO c' (X.env.qual ++ "<lambda>")) → s.heap.objs.size ≤ h'.objs.size →
      Q (.ref h'.objs.size) { s with heap := h'.push (PySem.W.kla_obj "<lambda>" (X.env.qual ++ "<lambda>") params body scope (cloFrom X.env.cells scope.names []) pm c' ctv), toks := tk } := by
    intro H0 h' tk c' pm ctv J ext tb hc sz
    have new : H0 h'.objs.size = none := J.hok.fresh (Nat.le_refl _)
    have keepN : ∀ b o, H0 b = some o → upd H0 h'.objs.size (CloO h'.objs.size ⟨"<lambda>", X.env.qual ++ "<lambda>", params, [], scope, cloFrom X.env.cells scope.names [], c'⟩ body) b = some o :=
      fun b o e => (upd_ne (ne_of_none e new)).trans e
    exact k _ c' _ _ (clo_laid (F := ⟨"<lambda>", X.env.qual ++ "<lambda>", params, [], scope, cloFrom X.env.cells scope.names [], c'⟩) J)
      (fun b o e n => keepN b o (ext b o e n)) (tb.ext keepN) (I.hok.fresh sz) upd_same (keepN _ _ hc)
  cases am : codeAmong pos ps.toList with
  | some cv =>
    obtain ⟨c', rfl, hco⟩ := amg pos cv am
    refine PySem.W.kla_makeFunctionHit (mg := X.mg) (c := c) (P := P) (ps := ps) (closure_ok hfree) I.ok.glob
      (I.mod.glob.keeps I.bk) code (TB.code.keeps I.bk) hp tri am bl ?_
    intro ctv h' tk kept sz
    exact last (I.kept (t' := tk) kept) (ExtN.refl H) hT hco sz
  | none =>
    refine PySem.W.kla_makeFunction (mg := X.mg) (c := c) (P := P) (ps := ps) (closure_ok hfree) I.ok.glob
      (I.mod.glob.keeps I.bk) code (TB.code.keeps I.bk) hp tri am TB.gP bl ?_
    rintro c' ctv h' tk but new lt ⟨_, oc, vs, t, e0, e1, e2, e3⟩ atP'
    cases e0
    have J := inv_table (t' := tk) (more := #[rawInt pos.line, rawInt pos.col, .ref c']) (h' := h') I atP (fun b o n e => but b o n e) atP' new ⟨oc, vs, t, e1, e2, e3⟩
    have nC : H c' = none := I.hok.fresh new
    have ext : ExtN H (upd (upd H P (.tbl (ps ++ #[rawInt pos.line, rawInt pos.col, .ref c']))) c' (CodeO c' (X.env.qual ++ "<lambda>"))) := by
      intro b o e n
      have bP : b ≠ P := by
        rintro rfl
        rw [atP] at e
        exact n ps (Option.some.inj e).symm
      rw [upd_ne (ne_of_none e nC), upd_ne bP]
      exact e
    refine last J ext ?_ upd_same (Nat.le_trans new (Nat.le_of_lt lt))
    intro p hpT
    by_cases same : p.1 = P
    · rw [hu p hpT same, same]
      refine ⟨ps ++ #[rawInt pos.line, rawInt pos.col, .ref c'], ?_, ?_, ?_⟩
      · rw [upd_ne (ne_of_none atP nC), upd_same]
      · rw [show (ps ++ #[rawInt pos.line, rawInt pos.col, Value.ref c']).toList = ps.toList ++ [rawInt pos.line, rawInt pos.col, .ref c'] by simp]
        exact PySem.TriplesOk_snoc _ _ _ _ tri
      · intro pos2 cv2 am2
        have am3 : codeAmong pos2 (ps.toList ++ [rawInt pos.line, rawInt pos.col, .ref c']) = some cv2 := by simpa using am2
        rcases among_app _ tri am3 with old | rfl
        · obtain ⟨c0, e4, e5⟩ := amg pos2 cv2 old
          exact ⟨c0, e4, ext _ _ e5 codeO_ne⟩
        · exact ⟨c', rfl, upd_same⟩
    · obtain ⟨ps2, b1, b2, b3⟩ := hT p hpT
      refine ⟨ps2, ?_, b2, fun pos2 cv2 am2 => ?_⟩
      · rw [upd_ne (ne_of_none b1 nC), upd_ne same]
        exact b1
      · obtain ⟨c0, e4, e5⟩ := b3 pos2 cv2 am2
        exact ⟨c0, e4, ext _ _ e5 codeO_ne⟩
/-- a lambda as a value -/
def tLamV (T : List (Addr × Str)) (mk : Addr → NF) (body : Expr) : TE := fun _ H Q => Tabs T H ∧ ∀ (f c' : Addr) (H1 : Hp), ExtN H H1 → Tabs T H1 → H f = none →
  H1 f = some (CloO f (mk c') body) → H1 c' = some (CodeO c' (mk c').qual) → Q (.ref f) H1
theorem pe_lamV {T : List (Addr × Str)} {c P : Addr} {params : Arguments} {body : Expr} {scope : Scope} {pos : Pos}
    (TB : TabB X.base X.mg c P) (code : X.env.code = .ref c) (hm : (P, X.env.qual ++ "<lambda>") ∈ T)
    (hu : ∀ p ∈ T, p.1 = P → p.2 = X.env.qual ++ "<lambda>") (hdef : defaultsOf params X.env = ([], []))
    (L : ∀ y ∈ scope.names, y.2 = .free → X.env.scope.names.lookup y.1 = some .cell ∨ X.env.scope.names.lookup y.1 = some .free) :
    PE X (.Lambda params body scope pos) (tLamV T (fun c' => ⟨"<lambda>", X.env.qual ++ "<lambda>", params, [], scope, cloFrom X.env.cells scope.names [], c'⟩) body) := by
  refine ⟨fun pins s σ H Q I h => ?_⟩
  refine lam_val I TB code hm hu h.1 hdef (fun y hy e => (L y hy e).elim (fun z => I.ok.has _ (.inl z)) fun z => I.ok.has _ (.inr z)) ?_
  intro f c' H1 s' J e t n1 n2 n3
  exact ⟨.ref f, H1, J, rfl, h.2 f c' H1 e t n1 n2 n3⟩
end
end Q
set_option Elab.async false
set_option linter.all false
set_option maxRecDepth 100000
set_option maxHeartbeats 4000000
/-! A closure's promise; cells that are pinned while a call runs. -/
namespace Q
open PySem PySem.Spec PyProof.Rows L2 LamX NdefX

/-- the promise of a lambda: ws: what its captured cells hold at the call -/
structure LOk (P : Program) (w : World) (K : PySem.W.Frag) (mg : Str → Option Value) (base : Heap) (k : Nat) (f : Addr) (F : NF) (body : Expr)
    (fr : List Str) (sp : List (Option V) → Hp → VK → XK → Prop) : Prop where
  run : ∀ (A : Around) (outer : List Env) (s : Shared) (H : Hp) (ws : List (Option V)) (Q : VK) (E : XK), Room k A → Env0 P w K mg base A outer s H →
    H f = some (CloO f F body) → H F.c = some (CodeO F.c F.qual) → CellsAt F.cl fr ws s.heap H → sp ws H Q E →
    codeAny (model P w) A (.call (.ref f) ⟨[], []⟩) (CR (L2.CX P w) outer P w H s Q E) s
section
variable {P : Program} {w : World} {K : PySem.W.Frag} {mg : Str → Option Value} {base : Heap} {N fr : List Str} {F : NF} {f : Addr} {body : Expr} {k : Nat}
  {sp : List (Option V) → Hp → VK → XK → Prop}
/-- a lambda by its body -/
theorem lok_of (S : NScope N [] fr F.scope) (hb : ∀ pm ctv : Value, bindArgs (PySem.W.kla_fn F.name F.qual F.params body F.scope F.cl pm (.ref F.c) ctv) ⟨[], []⟩ = pure [])
    (hbody : ∀ (A : Around) (outer : List Env) (s : Shared) (H : Hp) (ws : List (Option V)) (Q : VK) (E : XK), Room k (A.deeper (envF F f s.heap.objs.size)) → ws.length = fr.length → sp ws H Q E →
      ∃ t : TE, PE (ncx (L2.CX P w) P w K mg base N F f A outer s H E) body t ∧ t (startF N [] ws) H Q) :
    LOk P w K mg base (k + 1) f F body fr sp := by
  constructor
  intro A outer s H ws Q E hr e0 hf hc C hsp
  have lim : s.heap.NoLimit := e0.mod.nolimit.keeps fun b o e => (e0.bs b o e).1
  obtain ⟨pm, ctv, at_f⟩ := cloO_at e0.hok hf
  obtain ⟨t, ht, hq⟩ := hbody A outer s H ws Q E (hr.deeper _) C.len hsp
  refine PySem.W.kla_callFunE hr.depth at_f rfl S.co S.gen rfl (codeO_at e0.hok hc) ?_
  rw [hb pm ctv]
  refine wpAny_pure (wpAny_newFunctionEnv S.nocell (fun _ hy => nomatch hy) (fun h₁ hns hsb => ⟨lim.fresh _ hsb, ?_⟩) S.kind)
  have kp : ∀ b o, s.heap.get? b = some o → h₁.get? b = some o := by
    intro b o e
    exact hsb.extBut b o (Nat.ne_of_lt (Heap.lt_size e)) (Heap.get?_push_of_some _ e)
  have J := inv_startN (CX := L2.CX P w) (N := N) (F := F) (f := f) (E := E) (us := []) (vs := []) (tk := s.toks + ([] : List (Str × Value)).length) S hr.hd e0 rfl .nil C hns kp
  show codeAny _ _ (.expr body (envF F f s.heap.objs.size)) _ _
  refine PySem.W.kla_codeExpr (wpAny_mono (ht.run [] _ (startF N [] ws) H Q J hq) ?_ fun _ _ z => z)
  rintro u s' ⟨v, H', J', rv, q⟩
  exact ⟨v, H', J'.os, J'.bare, J'.base, J'.hok, rv, q⟩
end

/-! ### pins -/
/-- at c stands just this object -/
def PinO (c : Addr) (ob : Obj) : HO := .ext fun h => h.get? c = some ob
abbrev Pl := List (Addr × Obj)
def addP (pl : Pl) (H : Hp) : Hp := fun b => match pl.lookup b with
  | some ob => some (PinO b ob)
  | none => H b
def delP (pl : Pl) (H : Hp) : Hp := fun b => match pl.lookup b with
  | some _ => none
  | none => H b
def Pinned (pl : Pl) (H : Hp) : Prop := ∀ b ob, pl.lookup b = some ob → H b = some (PinO b ob)
section
variable {pl : Pl} {H H' : Hp} {b : Addr} {o : HO} {ob : Obj}
theorem add_in (e : pl.lookup b = some ob) : addP pl H b = some (PinO b ob) := by
  unfold addP
  rw [e]
theorem add_out (e : pl.lookup b = none) : addP pl H b = H b := by
  unfold addP
  rw [e]
theorem del_in (e : pl.lookup b = some ob) : delP pl H b = none := by
  unfold delP
  rw [e]
theorem del_out (e : pl.lookup b = none) : delP pl H b = H b := by
  unfold delP
  rw [e]
theorem pinned_add : Pinned pl (addP pl H) := fun _ _ e => add_in e
theorem add_del (h : Pinned pl H) : addP pl (delP pl H) = H := by
  funext b
  cases e : pl.lookup b with
  | none => rw [add_out e, del_out e]
  | some ob => rw [add_in e, h b ob e]
theorem pin_ne {u : HO} (d : ∀ φ, u ≠ .ext φ) : PinO b ob ≠ u := fun z => d _ z.symm
end
/-- the pins lie free -/
def Free (pl : Pl) (H : Hp) (h : Heap) : Prop := ∀ b ob, pl.lookup b = some ob → H b = none ∧ h.get? b = some ob
section
variable {P : Program} {w : World} {pl : Pl} {H H' : Hp} {h h' : Heap}
theorem Free.old (fr : Free pl H h) {b : Addr} {o : HO} (e : H b = some o) : pl.lookup b = none := by
  cases z : pl.lookup b with
  | none => rfl
  | some ob =>
    rw [(fr b ob z).1] at e
    cases e
theorem Free.add (fr : Free pl H h) {b : Addr} {o : HO} (e : H b = some o) : addP pl H b = some o := by
  rw [add_out (fr.old e)]
  exact e
theorem Free.hok (fr : Free pl H h) (ok : HOk P w H h) : HOk P w (addP pl H) h := by
  intro b o e
  cases z : pl.lookup b with
  | some ob =>
    rw [add_in z] at e
    cases e
    have g := (fr b ob z).2
    exact ⟨g, ⟨ob, g⟩, fun h1 h2 e1 st => st _ e1⟩
  | none =>
    rw [add_out z] at e
    exact (ok b o e).stay (fun _ _ _ q => q) (fun c q => fr.add q) fun c xs q => fr.add q
theorem Pinned.old (pn : Pinned pl H) {b : Addr} {u : HO} (e : H b = some u) (d : ∀ φ, u ≠ .ext φ) : pl.lookup b = none := by
  cases z : pl.lookup b with
  | none => rfl
  | some ob =>
    rw [pn b ob z] at e
    exact absurd (Option.some.inj e) (pin_ne d)
theorem Pinned.hok (pn : Pinned pl H) (ok : HOk P w H h) : HOk P w (delP pl H) h := by
  intro b o e
  cases z : pl.lookup b with
  | some ob =>
    rw [del_in z] at e
    cases e
  | none =>
    rw [del_out z] at e
    exact (ok b o e).stay (fun _ _ _ q => q) (fun c q => by rw [del_out (pn.old q (fun _ z => nomatch z))]; exact q)
      fun c xs q => by rw [del_out (pn.old q (fun _ z => nomatch z))]; exact q
theorem Pinned.at_ (pn : Pinned pl H) (ok : HOk P w H h) : Free pl (delP pl H) h := fun b ob e => ⟨del_in e, (ok b _ (pn b ob e)).1⟩
/-- a run over the heap with pins, told without them -/
theorem Un.unpin {fs : List Addr} (fr : Free pl H h) (u : Un fs [] (addP pl H) H' h h') (ok : HOk P w H' h') (pn : Pinned pl H') : Un fs [] H (delP pl H') h h' where
  keep b o e n nf nx := by
    cases z : pl.lookup b with
    | some ob =>
      rw [(fr b ob z).2] at e
      cases e
      exact (ok b _ (pn b _ z)).1
    | none => exact u.keep b o e (by rw [add_out z]; exact n) nf nx
  slot b o e n hf nx := by
    cases z : pl.lookup b with
    | some ob =>
      rw [(fr b ob z).2] at e
      cases e
      exact ⟨o.slots, (ok b _ (pn b _ z)).1⟩
    | none => exact u.slot b o e (by rw [add_out z]; exact n) hf nx
  free b o e n nx := by
    cases z : pl.lookup b with
    | some ob => exact del_in z
    | none =>
      rw [del_out z]
      exact u.free b o e (by rw [add_out z]; exact n) nx
  there := u.there
  tups b xs e := by
    rw [del_out (fr.old e)]
    exact u.tups b xs (fr.add e)
  frzs b o x e := by
    rw [del_out (fr.old e)]
    exact u.frzs b o x (fr.add e)
  tbls b ps e := by
    rw [del_out (fr.old e)]
    exact u.tbls b ps (fr.add e)
/-- a run without the pins, told with them -/
theorem Un.repin {fs : List Addr} (pn : Pinned pl H) (ok : HOk P w H h) (nf : ∀ b ob, pl.lookup b = some ob → b ∉ fs) (u : Un fs [] (delP pl H) H' h h') : Un fs [] H (addP pl H') h h' ∧ Free pl H' h' := by
  have fr := pn.at_ ok
  have out : ∀ {b}, H b = none → pl.lookup b = none := fun {b} n => by
    cases z : pl.lookup b with
    | none => rfl
    | some ob =>
      rw [pn b ob z] at n
      cases n
  refine ⟨⟨fun b o e n => u.keep b o e (by rw [del_out (out n)]; exact n), fun b o e n => u.slot b o e (by rw [del_out (out n)]; exact n), fun b o e n nx => ?_, u.there, fun b xs e => ?_, fun b o x e => ?_, fun b ps e => ?_⟩, fun b ob e => ?_⟩
  · rw [add_out (out n)]
    exact u.free b o e (by rw [del_out (out n)]; exact n) nx
  · have z := pn.old e (fun _ z => nomatch z)
    rw [add_out z]
    exact u.tups b xs (by rw [del_out z]; exact e)
  · have z := pn.old e (fun _ z => nomatch z)
    rw [add_out z]
    exact u.frzs b o x (by rw [del_out z]; exact e)
  · have z := pn.old e (fun _ z => nomatch z)
    rw [add_out z]
    exact u.tbls b ps (by rw [del_out z]; exact e)
  · obtain ⟨n, g⟩ := fr b ob e
    exact ⟨u.free b ob g n List.not_mem_nil, u.keep b ob g n (nf b ob e) List.not_mem_nil⟩
end
end Q
set_option Elab.async false
set_option linter.all false
set_option maxRecDepth 100000
set_option maxHeartbeats 4000000
/-! A closure called where its cells are pinned. -/
namespace Q
open PySem PySem.Spec PyProof.Rows L2 LamX NdefX

/-- the pins are the closure's cells, ws what they hold -/
structure PinCells (cl : List (Str × Addr)) (fr : List Str) (ws : List (Option V)) (pl : Pl) : Prop where
  len : ws.length = fr.length
  data : ∀ b ob, pl.lookup b = some ob → ∃ v, ob.data = .cell v
  all : ∀ y c, cl.lookup y = some c → ∃ ob, pl.lookup c = some ob
  inj : ∀ x y c, cl.lookup x = some c → cl.lookup y = some c → x = y
  has : ∀ (i : Nat) (y : Str), fr[i]? = some y → ∃ c, cl.lookup y = some c ∧ ∀ v, ws[i]? = some (some v) → ∃ u ob, L2.RelV v u ∧ pl.lookup c = some ob ∧ ob.data = .cell (some u)
section
variable {cl : List (Str × Addr)} {fr : List Str} {ws : List (Option V)} {pl : Pl} {H : Hp} {h : Heap}
theorem PinCells.cells (pc : PinCells cl fr ws pl) (fr' : Free pl H h) : CellsAt cl fr ws h H := by
  refine ⟨pc.len, fun y c e => ?_, pc.inj, fun i y e => ?_⟩
  · obtain ⟨ob, eo⟩ := pc.all y c e
    obtain ⟨v, ev⟩ := pc.data c ob eo
    exact ⟨(fr' c ob eo).1, v, ob, (fr' c ob eo).2, ev⟩
  · obtain ⟨c, ec, hv⟩ := pc.has i y e
    refine ⟨c, ec, fun v ev => ?_⟩
    obtain ⟨u, ob, rv, eo, ed⟩ := hv v ev
    exact ⟨u, rv, ob, (fr' c ob eo).2, ed⟩
/-- the pins of cells -/
theorem pins_of (C : CellsAt cl fr ws h H) : ∃ pl, PinCells cl fr ws pl ∧ Free pl H h ∧ ∀ b ob, pl.lookup b = some ob → ∃ y, cl.lookup y = some b := by
  have key : ∀ (l : List (Str × Addr)), (∀ p ∈ l, p ∈ cl) → ∃ pl : Pl, (∀ b ob, pl.lookup b = some ob → h.get? b = some ob ∧ ∃ y, cl.lookup y = some b) ∧ ∀ p ∈ l, cl.lookup p.1 = some p.2 → ∃ ob, pl.lookup p.2 = some ob := by
    intro l
    induction l with
    | nil => exact fun _ => ⟨[], fun b ob e => (nomatch e), fun p hp => (nomatch hp)⟩
    | cons p l ih =>
      intro hl
      obtain ⟨pl, q1, q2⟩ := ih fun x hx => hl x (List.mem_cons_of_mem _ hx)
      by_cases e : cl.lookup p.1 = some p.2
      · obtain ⟨_, v, o, ho, _⟩ := C.all p.1 p.2 e
        refine ⟨(p.2, o) :: pl, fun b ob eb => ?_, fun x hx ex => ?_⟩
        · by_cases z : b = p.2
          · subst z
            simp only [List.lookup, beq_self_eq_true] at eb
            cases eb
            exact ⟨ho, p.1, e⟩
          · have z2 : (b == p.2) = false := beq_false_of_ne z
            simp only [List.lookup, z2] at eb
            exact q1 b ob eb
        · by_cases z : x.2 = p.2
          · exact ⟨o, by rw [z]; simp [List.lookup]⟩
          · have z2 : (x.2 == p.2) = false := beq_false_of_ne z
            rcases List.mem_cons.mp hx with rfl | hx
            · exact absurd rfl z
            · obtain ⟨ob, eo⟩ := q2 x hx ex
              exact ⟨ob, by simp only [List.lookup, z2]; exact eo⟩
      · refine ⟨pl, q1, fun x hx ex => ?_⟩
        rcases List.mem_cons.mp hx with rfl | hx
        · exact absurd ex e
        · exact q2 x hx ex
  obtain ⟨pl, q1, q2⟩ := key cl fun _ h => h
  have got : ∀ y c, cl.lookup y = some c → ∃ ob, pl.lookup c = some ob ∧ h.get? c = some ob := fun y c e => by
    obtain ⟨ob, eo⟩ := q2 (y, c) (PySem.mem_of_lookup e) e
    exact ⟨ob, eo, (q1 c ob eo).1⟩
  refine ⟨pl, ⟨C.len, fun b ob e => ?_, fun y c e => let ⟨ob, eo, _⟩ := got y c e; ⟨ob, eo⟩, C.inj, fun i y e => ?_⟩, fun b ob e => ?_, fun b ob e => (q1 b ob e).2⟩
  · obtain ⟨g, y, ey⟩ := q1 b ob e
    obtain ⟨_, v, o, ho, hd⟩ := C.all y b ey
    rw [g] at ho
    cases ho
    exact ⟨v, hd⟩
  · obtain ⟨c, ec, hv⟩ := C.has i y e
    refine ⟨c, ec, fun v ev => ?_⟩
    obtain ⟨u, rv, o, ho, hd⟩ := hv v ev
    obtain ⟨ob, eo, go⟩ := got y c ec
    rw [ho] at go
    cases go
    exact ⟨u, o, rv, eo, hd⟩
  · obtain ⟨g, y, ey⟩ := q1 b ob e
    exact ⟨(C.all y b ey).1, g⟩
end
section
variable {P : Program} {w : World} {K : PySem.W.Frag} {mg : Str → Option Value} {base : Heap} {fr : List Str} {F : NF} {f : Addr} {body : Expr} {k : Nat}
  {sp : List (Option V) → Hp → VK → XK → Prop} {pl : Pl}
theorem env0_del {A : Around} {outer : List Env} {s : Shared} {H : Hp} (e0 : Env0 P w K mg base A outer s H) (pn : Pinned pl H) : Env0 P w K mg base A outer s (delP pl H) := by
  have low : ∀ b, H b = none → delP pl H b = none := fun b n => by
    unfold delP
    split
    · rfl
    · exact n
  exact ⟨e0.frames, e0.mod, fun b o e => ⟨(e0.bs b o e).1, low b (e0.bs b o e).2⟩, e0.bsz, e0.funs, fun b hb => low b (e0.frf b hb), pn.hok e0.hok, e0.bare⟩
theorem env0_add {A : Around} {outer : List Env} {s : Shared} {H : Hp} (e0 : Env0 P w K mg base A outer s H) (fr : Free pl H s.heap) (nb : ∀ b ob, pl.lookup b = some ob → base.get? b = none ∧ b ∉ frs outer) : Env0 P w K mg base A outer s (addP pl H) := by
  refine ⟨e0.frames, e0.mod, fun b o e => ⟨(e0.bs b o e).1, ?_⟩, e0.bsz, e0.funs, fun b hb => ?_, fr.hok e0.hok, e0.bare⟩
  · cases z : pl.lookup b with
    | none =>
      rw [add_out z]
      exact (e0.bs b o e).2
    | some ob =>
      rw [(nb b ob z).1] at e
      cases e
  · cases z : pl.lookup b with
    | none =>
      rw [add_out z]
      exact e0.frf b hb
    | some ob => exact absurd hb (nb b ob z).2
/-- nothing is tracked where the pins lie -/
def Offp (pl : Pl) (H : Hp) : Prop := ∀ b ob, pl.lookup b = some ob → H b = none
/-- the promise where the cells are pinned -/
theorem LOk.pinned (L : LOk P w K mg base k f F body fr sp) {A : Around} {outer : List Env} {s : Shared} {H : Hp} {ws : List (Option V)} {Q : VK} {E : XK} (hr : Room k A) (e0 : Env0 P w K mg base A outer s H)
    (hf : H f = some (CloO f F body)) (hc : H F.c = some (CodeO F.c F.qual)) (pn : Pinned pl H) (pc : PinCells F.cl fr ws pl)
    (q : sp ws (delP pl H) (fun v H' => Offp pl H' → Q v (addP pl H')) (fun c d H' => Offp pl H' → E c d (addP pl H'))) :
    codeAny (model P w) A (.call (.ref f) ⟨[], []⟩) (CR (L2.CX P w) outer P w H s Q E) s := by
  have f1 := pn.at_ e0.hok
  have cells := pc.cells f1
  have nof : ∀ b ob, pl.lookup b = some ob → b ∉ frs outer := fun b ob e hb => by
    have z := e0.frf b hb
    rw [pn b ob e] at z
    cases z
  have hf' : delP pl H f = some (CloO f F body) := by
    cases z : pl.lookup f with
    | none =>
      rw [del_out z]
      exact hf
    | some ob =>
      obtain ⟨v, ev⟩ := pc.data f ob z
      obtain ⟨pm, ctv, g⟩ := cloO_at e0.hok hf
      rw [(f1 f ob z).2] at g
      cases g
      cases ev
  have hc' : delP pl H F.c = some (CodeO F.c F.qual) := by
    cases z : pl.lookup F.c with
    | none =>
      rw [del_out z]
      exact hc
    | some ob =>
      obtain ⟨v, ev⟩ := pc.data F.c ob z
      obtain ⟨⟨oc, vs, t, g, d, _⟩, _, _⟩ := e0.hok F.c _ hc
      rw [(f1 F.c ob z).2] at g
      cases g
      rw [ev] at d
      cases d
  refine codeAny_mono (L.run A outer s (delP pl H) ws _ _ hr (env0_del e0 pn) hf' hc' cells q) fun r s' hq => ?_
  match r, hq with
  | .error e, hq =>
    obtain ⟨a, B, H', cls, d, rfl, fl, ok, ub, na, os, bare, hE⟩ := hq
    have fB : Free pl H' B := fun b ob e => ⟨ub.free b ob (f1 b ob e).2 (f1 b ob e).1, ub.keep b ob (f1 b ob e).2 (f1 b ob e).1 (nof b ob e)⟩
    have out : ∀ {b}, H b = none → pl.lookup b = none := fun {b} n => by
      cases z : pl.lookup b with
      | none => rfl
      | some ob =>
        rw [pn b ob z] at n
        cases n
    have na2 : pl.lookup a = none := by
      cases z : pl.lookup a with
      | none => rfl
      | some ob =>
        have z2 := (fB a ob z).2
        rw [fl.2.1] at z2
        cases z2
    refine ⟨a, B, addP pl H', cls, d, rfl, fl, fB.hok ok, ⟨fun b o e n => ub.keep b o e (by rw [del_out (out n)]; exact n), ub.slot, fun b o e n => ?_, ub.there, fun b xs e => ?_, fun b o x e => ?_, fun b ps e => ?_⟩, ?_, os, bare, hE fun b ob e => (fB b ob e).1⟩
    · rw [add_out (out n)]
      exact ub.free b o e (by rw [del_out (out n)]; exact n)
    · have z := pn.old e (fun _ z => nomatch z)
      rw [add_out z]
      exact ub.tups b xs (by rw [del_out z]; exact e)
    · have z := pn.old e (fun _ z => nomatch z)
      rw [add_out z]
      exact ub.frzs b o x (by rw [del_out z]; exact e)
    · have z := pn.old e (fun _ z => nomatch z)
      rw [add_out z]
      exact ub.tbls b ps (by rw [del_out z]; exact e)
    · rw [add_out na2]
      exact na
  | .ok (.ret u), hq =>
    obtain ⟨v, H', os, bare, un, ok, rv, qq⟩ := hq
    obtain ⟨un2, f2⟩ := Un.repin pn e0.hok nof un
    exact ⟨v, addP pl H', os, bare, un2, f2.hok ok, rv, qq fun b ob e => (f2 b ob e).1⟩
/-- what a call of the closure asks where its cells are pinned -/
def tlPin (f : Addr) (F : NF) (body : Expr) (sp : List (Option V) → Hp → VK → XK → Prop) (ws : List (Option V)) (pl : Pl) : XK → Hp → VK → Prop := fun E H Q =>
  H f = some (CloO f F body) ∧ Pinned pl H ∧ sp ws (delP pl H) (fun v H' => Offp pl H' → Q v (addP pl H')) (fun c d H' => Offp pl H' → E c d (addP pl H'))
/-- x(), in a def that got the closure -/
theorem pe_actP {Ng : List Str} {qg : Str} {sg : Scope} {g : Addr} {cdg : Value} {A : Around} {outer : List Env} {s : Shared} {H : Hp} {Eg : XK} {CXg : CXT} {i : Nat} {a : Str} {pn : List (Addr × Obj)} {xe : Value → Shared → Prop} {W : WX} {E : XK} {ws : List (Option V)} {p1 p2 : Pos}
    (L : LOk P w K mg base k f F body fr sp) (pc : PinCells F.cl fr ws pl) (tk : Takes ((cxOf CXg P w K mg base Ng qg sg g cdg A outer s H Eg).tr pn xe) W) (hW : ∀ cls d σ' H', E cls d H' → W cls d σ' H')
    (hr : Room k (A.deeper (envOfC qg sg s.heap.objs.size g cdg))) (hN : Ng[i]? = some a) (hv : Vis sg a) (hd : (a == ("__debug__" : Str)) = false := by decide) (hcd : (a == ("__classdict__" : Str)) = false := by decide) :
    PE ((cxOf CXg P w K mg base Ng qg sg g cdg A outer s H Eg).tr pn xe) (.Call (.Name a p1) [] [] p2)
      (fun σZ HZ Q => σZ[i]? = some (some (.ref f)) ∧ HZ F.c = some (CodeO F.c F.qual) ∧ tlPin f F body sp ws pl E HZ Q) := by
  refine ⟨fun pinsZ sZ σZ HZ Q IZ h => ?_⟩
  obtain ⟨hs, hc, hf, pin, hq⟩ := h
  refine wpAny_Call_Name_kw (thn ((pe_var (pos := p1) (i := i) hN hv hd hcd).run pinsZ sZ σZ HZ (fun v H1 => v = .ref f ∧ H1 = HZ) IZ ⟨.ref f, hs, rfl, rfl⟩) ?_)
  rintro u s1 ⟨v, H1, I1, r1, rfl, rfl⟩
  obtain rfl : u = Value.ref f := r1
  obtain ⟨pm, ctv, at_f⟩ := cloO_at I1.hok hf
  refine PySem.W.callWith_F0 (first := []) ⟨_, _, _, _, at_f⟩ ?_
  refine wpAny_call (codeAny_mono (L.pinned hr I1.env0 hf hc pin pc hq) fun r s' hr' => ?_)
  match r, hr' with
  | .error e, hr' => exact passes_call tk hW pinsZ σZ _ s1 e s' I1 hr'
  | .ok (.ret u), hr' => exact I1.after hr'
end
end Q
set_option Elab.async false
set_option linter.all false
set_option maxRecDepth 100000
set_option maxHeartbeats 4000000
/-! A list comprehension whose element leans on the frame around it. -/
namespace Q
open PySem PySem.Spec PyProof.Rows L2 LamX NdefX
section
variable {X : Cx}
/-- [elt for tg in iter]: the element may lean on the state that the block began with -/
theorem pe_lcI {elt tg iter : Expr} {scope : Scope} {own : List (Str × Nat)} {pos : Pos} {wi : TI} {g : TG} {te : TE} (calm : X.calm = true) (nodup : X.N.Nodup)
    (src : PI X tg iter wi) (blk : BlkOk X.N X.env.scope scope own)
    (tgt : ∀ (s : Shared) (H : Hp) (C : Addr) (cl : List (Str × Addr)) (fp : List Addr), PG (X.blk s H scope (compEnvC scope cl C X.env) fp) tg g)
    (el : ∀ (pins : List (Addr × Obj)) (σ : L2.St) (s : Shared) (H : Hp) (C : Addr) (cl : List (Str × Addr)) (fp : List Addr), Inv X pins σ H s → (∀ b ∈ fp, FpOk X pins H b) →
      PE (X.blk s H scope (compEnvC scope cl C X.env) fp) elt (fun σ' H' Q => wipe σ' (own.map (·.2)) = wipe σ (own.map (·.2)) ∧ te σ' H' Q))
    (fold : ∀ x, foldedSetIterable iter X.env x = pure x := by intro _; rfl) :
    PE X (.ListComp elt [⟨tg, iter, [], 0⟩] scope pos) (tLc wi g tYes te (own.map (·.2))) := by
  constructor
  intro pins s σ H Q I h
  rw [eval_ListComp]
  have closed : ∀ y ∈ scope.names, y.2 = .free → ∃ c, X.env.cells.lookup y.1 = some c := by
    intro y hy e
    rcases blk.free y hy e with z | z
    · exact I.ok.has _ (.inl z)
    · exact I.ok.has _ (.inr z)
  refine wpAny_comprehension_free (use := none) rfl fold (closure_ok closed) blk.kind (fun y hy e => ?_)
    (thn (src.run pins s σ H _ I h) ?_)
  · rw [blk.uniq y hy, e]
  intro xv sA hx
  refine thn hx ?_
  rintro itv sB ⟨it, fp, tn, J, HB, rfl, IB, T, tnB, fpB, rest⟩
  refine wpAny_newObj_type (newEnv_comp ?_) (by show 0 ≤ sizeLine; decide)
  -- the list, empty
  generalize eD : sB.heap.objs.size = D
  have freeD : HB D = none := IB.hok.fresh (Nat.le_of_eq eD)
  obtain ⟨W, ⟨m0, start⟩, turns⟩ := rest D freeD
  generalize eC : ({ sB with heap := sB.heap.push { cls := .type "list", data := .seq ([] : List Value).toArray } } : Shared) = sC
  have hC : sC.heap = sB.heap.push { cls := .type "list", data := .seq ([] : List Value).toArray } := by rw [← eC]
  have topD : sC.heap.get? D = some { cls := .type "list", data := .seq ([] : List Value).toArray } := by
    rw [hC, ← eD]
    exact Heap.get?_push_size _ rfl
  have IC : Inv X pins σ (upd HB D (.lst [])) sC := by
    subst eC
    exact IB.laid (t' := sB.toks) (fun _ _ e => Heap.get?_push_of_some _ e) (Nat.le_of_eq eD) ⟨Nat.zero_le _, [], 0, .nil, topD⟩
  have below : ∀ b ∈ fp, b < sB.heap.objs.size := by
    intro b hb
    obtain ⟨o, e, _⟩ := T.obj _ _ tnB b hb
    exact Heap.lt_size e
  have offD : ∀ b ∈ fp, b ≠ D := fun b hb => by
    rw [← eD]
    exact Nat.ne_of_lt (below b hb)
  have fpC : ∀ b ∈ fp, FpOk X pins (upd HB D (.lst [])) b := fun b hb => ⟨(upd_ne (offD b hb)).trans (fpB b hb).1, (fpB b hb).2⟩
  have fpC2 : ∀ b ∈ fp, FpOk X pins (upd HB D (.lst [])) b ∧ b < sC.heap.objs.size := by
    refine fun b hb => ⟨fpC b hb, ?_⟩
    rw [hC, Heap.size_push]
    exact Nat.lt_succ_of_lt (below b hb)
  have tnC : tn 0 sC.heap := T.keep _ _ _ tnB fun b _ o e => by
    rw [hC]
    exact Heap.get?_push_of_some _ e
  generalize eH : upd HB D (.lst []) = HC at IC fpC fpC2 start
  have ID := block_start IC blk nodup fpC2
  generalize eCl : cellsFrom (sC.heap.objs.size + 1) scope.names (cloFrom X.env.cells scope.names []) = cl at ID
  have pTgt := tgt sC HC sC.heap.objs.size cl fp
  have pEl := el pins σ sC HC sC.heap.objs.size cl fp IC fpC
  show codeAny _ _ (.compStart (.ListComp elt [⟨tg, iter, [], 0⟩] scope pos) 0 (.ref it) (.ref D)
    (compEnvC scope cl sC.heap.objs.size X.env))
    (compPost (model X.prog X.w) X.A X.xe none _ (.ref D) sC.heap.objs.size) { sC with heap := pushCells (sC.heap.push { cls := .type "dict", data := .dict #[] }) scope.names }
  have eL : (compEnvC scope cl sC.heap.objs.size X.env).locals = sC.heap.objs.size := rfl
  generalize eE : compEnvC scope cl sC.heap.objs.size X.env = ce at ID pTgt pEl eL ⊢
  generalize eS : ({ sC with heap := pushCells (sC.heap.push { cls := .type "dict", data := .dict #[] }) scope.names } : Shared) = sD at ID ⊢
  have tnD : tn 0 sD.heap := T.keep _ _ _ tnC fun b _ o e => by
    rw [← eS]
    exact pushCells_keeps _ _ _ _ (Heap.get?_push_of_some _ e)
  have still : ∀ {σ' : L2.St} {H' : Hp} {s' : Shared}, Inv (X.blk sC HC scope ce fp) [] σ' H' s' → (∀ b ∈ fp, H' b = none) → ∀ b ∈ fp, FpOk (X.blk sC HC scope ce fp) [] H' b := by
    intro σ' H' s' I' n b hb
    have q := I'.ok.exf b hb
    exact ⟨n b hb, q.1, I'.ok.exfs b hb, .inl hb, fun x c e => q.2 x c e, fun p hp => nomatch (show p ∈ ([] : List (Addr × Obj)) from hp)⟩
  have loop : codeAny (model X.prog X.w) X.A (.compLoop (.ListComp elt [⟨tg, iter, [], 0⟩] scope pos) 0 (.ref it) (.ref D) ce)
      (compPost (model X.prog X.w) X.A X.xe none (EP X pins σ Q) (.ref D) sC.heap.objs.size) sD := by
    refine compLoop_any (fun m s' => ∃ i H', Inv (X.blk sC HC scope ce fp) [] (wipe σ (own.map (·.2))) H' s' ∧ tn i s'.heap ∧ (∀ b ∈ fp, H' b = none) ∧ W i m H')
      ?_ m0 ⟨0, HC, ID, tnD, fun b hb => (fpC b hb).1, start⟩
    rintro m s5 ⟨i, H5, I5, tn5, n5, w5⟩
    rcases turns i m H5 w5 with ⟨stop, fin⟩ | ⟨go, Nx, next, step⟩
    · refine thnF (T.done (X.blk sC HC scope ce fp) rfl rfl rfl calm i [] s5 _ H5 (fun _ _ => False) I5 (still I5 n5) tn5 stop) ?_
      rintro r s6 ⟨rfl, I6⟩
      have back : Inv X pins σ H5 s6 := IC.call' (ch := fp) I6.os I6.base I6.hok I6.bare fun b hb => by
        obtain ⟨_, a1, _, a3, a4, a5⟩ := fpC b hb
        exact ⟨a3, a1, a4, a5⟩
      have none5 : H5 sC.heap.objs.size = none := by
        rw [← eL]
        exact I6.free
      obtain ⟨mp, ns, _⟩ := I6.loc
      have ns : s6.heap.Ns ce.locals mp := ns
      rw [eL] at ns
      obtain ⟨f0, f1, f2, f3, f4, f5⟩ := IC.fpOk (H' := H5) (Nat.le_refl _) none5
      exact ⟨mp, ns, fun h7 sb => ⟨.ref D, H5, back.turned (t' := s6.toks) (fun b o hb e => (sb.2 b hb).trans e) f0 f1 f3 f4 f5, rfl, fin⟩⟩
    · refine thnF (T.item (X.blk sC HC scope ce fp) rfl rfl rfl calm i [] s5 _ H5 (fun _ _ => False) I5 (still I5 n5) tn5 go) ?_
      rintro r s6 ⟨u, rfl, more⟩
      refine thnF more ?_
      rintro _ s7 ⟨x, H7, I7, r7, y7, tn7, n7⟩
      have J7 := I7.pinned (still I7 n7) (T.obj _ _ tn7)
      refine thnF (pTgt.run _ s7 _ H7 x u _ J7 r7 (step x H7 y7)) ?_
      rintro _ s8 ⟨σ8, H8, I8, keepW, q8⟩
      refine thnF ((pts_nil (X := X.blk sC HC scope ce fp)).run _ s8 σ8 H8 _ I8 q8) ?_
      rintro b s9 ⟨H9, I9, q9⟩
      have close : ∀ {s' : Shared} {H' : Hp}, Inv (X.blk sC HC scope ce fp) ([] ++ pinsAt fp s7.heap) σ8 H' s' → Nx H' →
          ∃ m', m' < m ∧ ∃ i H', Inv (X.blk sC HC scope ce fp) [] (wipe σ (own.map (·.2))) H' s' ∧ tn i s'.heap ∧ (∀ b ∈ fp, H' b = none) ∧ W i m' H' := by
        intro s' H' I' nx
        obtain ⟨m', lt, w'⟩ := next H' nx
        have fixed : ∀ b ∈ fp, ∀ o, s7.heap.get? b = some o → s'.heap.get? b = some o ∧ H' b = none := by
          intro b hb o e
          have z := I'.pin (b, o) (List.mem_append_right _ (List.mem_append_right _ (mem_pinsAt hb e)))
          exact ⟨z.1, z.2.1⟩
        refine ⟨m', lt, i + 1, H', (I'.unpinned (pins := [])).weak ?_ ?_, T.keep _ _ _ tn7 fun b hb o e => (fixed b hb o e).1, ?_, w'⟩
        · rw [← keepW, wipe_length]
        · intro j v e
          rw [← keepW] at e
          exact (wipe_some e).1
        · intro b hb
          obtain ⟨o, e, _⟩ := T.obj _ _ tn7 b hb
          exact (fixed b hb o e).2
      match b, q9 with
      | false, q9 => exact close I9 q9
      | true, q9 =>
        refine thnF (pEl.run _ s9 σ8 H9 _ I9 ⟨keepW, q9⟩) ?_
        rintro z s10 ⟨yv, H10, I10, r10, acc, atD, few, nx⟩
        exact app_ok (X := X.blk sC HC scope ce fp) I10 atD few r10 fun s11 I11 => close I11 nx
  exact codeAny_compStart_list loop (T.self X.A 0 _ _ _ tnD loop)
end
end Q
set_option Elab.async false
set_option linter.all false
set_option maxRecDepth 100000
set_option maxHeartbeats 4000000
/-! A def called in a comprehension's block while the cells of the frame around it are pinned. -/
namespace Q
open PySem PySem.Spec PyProof.Rows L2 LamX NdefX
theorem wipe_slot {σ σ' : L2.St} : ∀ {vs : List Nat}, wipe σ' vs = wipe σ vs → ∀ {j : Nat}, j ∉ vs → σ'[j]? = σ[j]? := by
  have out : ∀ (τ : L2.St) (vs : List Nat) (j : Nat), j ∉ vs → (wipe τ vs)[j]? = τ[j]? := by
    intro τ vs
    induction vs with
    | nil => exact fun _ _ => rfl
    | cons v vs ih =>
      intro j hj
      rw [List.mem_cons, not_or] at hj
      unfold wipe
      rw [List.getElem?_set_ne (fun z => hj.1 z.symm)]
      exact ih j hj.2
  intro vs e j hj
  rw [← out σ' vs j hj, ← out σ vs j hj, e]
/-- f(..) while the cells cl of the names at js are pinned -/
def tPin (cl : List (Str × Addr)) (fr : List Str) (js : List Nat) (sp : Sp) (t : TA) : TE := fun σ H Q =>
  ∀ pl, PinCells cl fr (js.map (NdefX.slotAt σ)) pl → (∀ b ob, pl.lookup b = some ob → H b = none) → t σ H fun vs H1 => H1 = H ∧ sp (vs ++ []) (addP pl H) (fun v H2 => Pinned pl H2 ∧ Q v (delP pl H2)) E0
section
variable {X : Cx}
theorem pe_callPin {scope : Scope} {C : Addr} {ccl : List (Str × Addr)} {fp : List Addr} {vs : List Nat} {pins : List (Addr × Obj)} {σ : L2.St} {s : Shared} {H : Hp} {cl : List (Str × Addr)} {fr : List Str} {js : List Nat} {k : Nat} {f : Addr} {fd : FuncData} {ps : List Str} {sp : Sp}
    {x : Str} {p pos : Pos} {e : Expr} {es : List Expr} {t : TA} (I : Inv X pins σ H s) (hfp : ∀ b ∈ fp, FpOk X pins H b) (cp : X.Ok → Caps X cl fr js) (made : ∀ y c, cl.lookup y = some c → X.fn y = true) (hj : ∀ j ∈ js, j ∉ vs)
    (F : FnG X.prog X.w X.K X.mg X.base CX0 k f fd ps sp) (hgd : X.A.guards = some []) (hr : Room k X.A) (hg : Gl (X.blk s H scope (compEnvC scope ccl C X.env) fp) x) (hm : X.mg x = some (.ref f))
    (hk : PySem.W.keepIn X.K (.ref f) = true) (hb : Binds X.K fd ps []) (ha : PA (X.blk s H scope (compEnvC scope ccl C X.env) fp) (e :: es) t) (hdb : (x == ("__debug__" : Str)) = false := by decide)
    (he : starEach (e :: es) (compEnvC scope ccl C X.env) = (false, eval e (compEnvC scope ccl C X.env)) :: starEach es (compEnvC scope ccl C X.env) := by rfl) (hpl : (backTo pos (starEach es (compEnvC scope ccl C X.env))).any (·.1) = false := by rfl) :
    PE (X.blk s H scope (compEnvC scope ccl C X.env) fp) (.Call (.Name x p) (e :: es) [] pos) (fun σ' H' Q => wipe σ' vs = wipe σ vs ∧ tPin cl fr js sp t σ' H' Q) := by
  have caps := cp I.ok
  have C0 := cells_of I caps
  obtain ⟨pl, pc, free0, src⟩ := pins_of C0
  have beyond : ∀ b ob, pl.lookup b = some ob → b ∉ frs X.stack ∧ b ∉ fp ∧ X.base.get? b = none := by
    intro b ob eb
    obtain ⟨y, ey⟩ := src b ob eb
    have ecell := caps.sub y b ey
    have high := I.ok.cab y b (made y b ey) ecell
    refine ⟨fun hb => ?_, fun hb => (hfp b hb).2.2.2.2.1 y b ecell rfl, ?_⟩
    · rcases List.mem_cons.mp (I.stkSub b hb) with z | z
      · exact I.cne y b ecell z
      · obtain ⟨_, o, ho, _⟩ := I.ok.funs.mem z
        exact Nat.lt_irrefl _ (Nat.lt_of_lt_of_le (Heap.lt_size ho) high)
    · exact Heap.get?_none_of_le (Nat.le_trans I.ok.bsz high)
  have later : ∀ {pins' : List (Addr × Obj)} {σ' : L2.St} {H' : Hp} {s' : Shared}, Inv (X.blk s H scope (compEnvC scope ccl C X.env) fp) pins' σ' H' s' → Free pl H' s'.heap := by
    intro pins' σ' H' s' J b ob eb
    obtain ⟨n, g⟩ := free0 b ob eb
    obtain ⟨q1, q2, _⟩ := beyond b ob eb
    exact ⟨J.base.free b ob g n q2, J.base.keep b ob g n q1 q2⟩
  constructor
  intro pins' s' σ' H' Q J h
  obtain ⟨same, h⟩ := h
  have slots : js.map (NdefX.slotAt σ') = js.map (NdefX.slotAt σ) := by
    refine List.map_congr_left fun j mj => ?_
    unfold NdefX.slotAt
    rw [wipe_slot same (hj j mj)]
  have q := h pl (by rw [slots]; exact pc) fun b ob eb => (later J b ob eb).1
  refine wpAny_Call_Name_kw (ld_glob J hg hm ?_ hdb)
  refine PySem.W.callWith_K (h₀ := X.base) J.ok.mod.kin hk ?_ he hpl
  refine thn (ha.run pos pins' s' σ' H' _ J q) ?_
  rintro us s1 ⟨vs1, H1, J1, rv, rfl, hsp⟩
  refine ⟨J1.kIn, ?_⟩
  have f1 := later J1
  have e0 : Env0 X.prog X.w X.K X.mg X.base X.A X.stack s1 H1 := J1.env0
  have r2 : Vals (vs1 ++ []) (us ++ []) := rv.append .nil
  have hl : (us ++ []).length = ps.length := r2.length.symm.trans (F.len _ _ _ _ hsp)
  have run := F.go X.A X.stack s1 (addP pl H1) ⟨us, []⟩ (us ++ []) (vs1 ++ []) _ E0 hgd hr
    (env0_add e0 f1 fun b ob eb => ⟨(beyond b ob eb).2.2, (beyond b ob eb).1⟩) (hb s1 us J1.kIn hl) r2 hsp
  refine wpAny_call (codeAny_mono run ?_)
  intro r s2 hq
  match r, hq with
  | .error er, hq => exact False.elim hq
  | .ok (.ret u), ⟨v, H2, os, bare, un, ok, ru, pn, qq⟩ => exact J1.after ⟨v, delP pl H2, os, bare, Un.unpin f1 un ok pn, pn.hok ok, ru, qq⟩
end
end Q
set_option Elab.async false
set_option linter.all false
set_option maxRecDepth 100000
set_option maxHeartbeats 4000000
/-! Tables of distances: what the rounds of shortening do to them. -/
namespace D7
open PySem L2
abbrev Tab := List (Str × Int)
def look (f : Tab) (x : Str) : Option Int := (f.find? fun p => decide (p.1 = x)).map (·.2)
def put (f : Tab) (x : Str) (v : Int) : Tab := if (look f x).isSome then f.map fun p => if p.1 = x then (p.1, v) else p else f ++ [(x, v)]
theorem look_nil (x : Str) : look [] x = none := rfl
theorem look_cons (p : Str × Int) (f : Tab) (x : Str) : look (p :: f) x = if p.1 = x then some p.2 else look f x := by
  unfold look
  rw [List.find?_cons]
  by_cases e : p.1 = x
  · simp [e]
  · simp [e]
theorem look_none {f : Tab} {x : Str} : look f x = none ↔ x ∉ f.map (·.1) := by
  induction f with
  | nil => simp [look_nil]
  | cons p f ih =>
    rw [look_cons]
    by_cases e : p.1 = x
    · rw [if_pos e]
      simp [e]
    · rw [if_neg e, ih, List.map_cons, List.mem_cons, not_or]
      exact ⟨fun z => ⟨fun y => e y.symm, z⟩, fun z => z.2⟩
theorem look_mem {f : Tab} {x : Str} {v : Int} (h : look f x = some v) : (x, v) ∈ f := by
  induction f with
  | nil => cases h
  | cons p f ih =>
    rw [look_cons] at h
    by_cases e : p.1 = x
    · rw [if_pos e] at h
      cases h
      rw [← e]
      exact List.mem_cons_self
    · rw [if_neg e] at h
      exact List.mem_cons_of_mem _ (ih h)
theorem look_of {f : Tab} (nd : (f.map (·.1)).Nodup) {p : Str × Int} (h : p ∈ f) : look f p.1 = some p.2 := by
  induction f with
  | nil => cases h
  | cons q f ih =>
    rw [look_cons]
    rw [List.map_cons, List.nodup_cons] at nd
    rcases List.mem_cons.mp h with rfl | h
    · rw [if_pos rfl]
    · rw [if_neg (fun e => nd.1 (by rw [e]; exact List.mem_map_of_mem h)), ih nd.2 h]
theorem look_map (f : Tab) (x y : Str) (v : Int) : look (f.map fun p => if p.1 = x then (p.1, v) else p) y = if y = x then (look f x).map (fun _ => v) else look f y := by
  induction f with
  | nil =>
    rw [List.map_nil, look_nil, look_nil]
    split <;> rfl
  | cons p f ih =>
    rw [List.map_cons, look_cons, look_cons, look_cons, ih]
    by_cases e : p.1 = x
    · rw [if_pos e]
      by_cases e2 : y = x
      · subst e2
        rw [if_pos e, if_pos rfl, if_pos e]
        rfl
      · rw [if_neg (fun z => e2 (z.symm.trans e)), if_neg e2, if_neg e2, if_neg (fun z => e2 (z.symm.trans e))]
    · rw [if_neg e]
      by_cases e2 : y = x
      · subst e2
        rw [if_neg e, if_pos rfl, if_pos rfl]
        rw [if_neg e]
      · rw [if_neg e2, if_neg e2]
theorem look_snoc (f : Tab) (x y : Str) (v : Int) (h : look f x = none) : look (f ++ [(x, v)]) y = if y = x then some v else look f y := by
  induction f with
  | nil =>
    rw [List.nil_append, look_cons, look_nil]
    by_cases e : y = x
    · rw [if_pos e, if_pos e.symm]
    · rw [if_neg e, if_neg (fun z => e z.symm)]
  | cons p f ih =>
    rw [look_cons] at h
    have e0 : ¬ p.1 = x := fun z => by
      rw [if_pos z] at h
      cases h
    rw [if_neg e0] at h
    rw [List.cons_append, look_cons, look_cons, ih h]
    by_cases e : p.1 = y
    · rw [if_pos e, if_pos e]
      rw [if_neg (fun z => e0 (e.trans z))]
    · rw [if_neg e, if_neg e]
theorem look_put (f : Tab) (x y : Str) (v : Int) : look (put f x v) y = if y = x then some v else look f y := by
  unfold put
  cases h : look f x with
  | none => exact look_snoc f x y v h
  | some u =>
    show look (f.map _) y = _
    rw [look_map, h]
    rfl
theorem keys_put {f : Tab} {x : Str} {v : Int} : (put f x v).map (·.1) = if (look f x).isSome then f.map (·.1) else f.map (·.1) ++ [x] := by
  unfold put
  split
  · rw [List.map_map]
    refine List.map_congr_left fun p _ => ?_
    show (if p.1 = x then (p.1, v) else p).1 = p.1
    split <;> rfl
  · rw [List.map_append]
    rfl
theorem nd_put {f : Tab} {x : Str} {v : Int} (h : (f.map (·.1)).Nodup) : ((put f x v).map (·.1)).Nodup := by
  rw [keys_put]
  split
  · exact h
  · rename_i e
    have e2 : look f x = none := by
      cases z : look f x with
      | none => rfl
      | some u => rw [z] at e; exact absurd rfl e
    refine List.nodup_append.mpr ⟨h, List.nodup_cons.mpr ⟨List.not_mem_nil, List.nodup_nil⟩, fun a ha b hb z => ?_⟩
    rw [List.mem_singleton.mp hb] at z
    subst z
    exact look_none.mp e2 ha
/-- as a dict -/
def V (f : Tab) : List (Key × L2.V) := f.map fun p => (.inr p.1, .int p.2)
theorem val_V (f : Tab) (x : Str) : valV (V f) (.inr x) = (look f x).map L2.V.int := by
  induction f with
  | nil => rfl
  | cons p f ih =>
    show valV ((.inr p.1, .int p.2) :: V f) (.inr x) = _
    rw [look_cons]
    by_cases e : p.1 = x
    · rw [if_pos e, valV_pos (by rw [e])]
      rfl
    · rw [if_neg e, valV_neg (fun z => e (Sum.inr.inj z)), ih]
theorem putK_V (f : Tab) (x : Str) (v : Int) : putK (V f) (.inr x) (.int v) = V (put f x v) := by
  unfold putK put
  rw [valV_any, val_V]
  cases h : look f x with
  | none =>
    show (V f ++ [(.inr x, .int v)]) = V (f ++ [(x, v)])
    unfold V
    rw [List.map_append]
    rfl
  | some u =>
    show (V f).map _ = V (f.map _)
    unfold V
    rw [List.map_map, List.map_map]
    refine List.map_congr_left fun p _ => ?_
    show (if (Sum.inr p.1 : Key) = .inr x then ((.inr p.1 : Key), L2.V.int v) else (.inr p.1, .int p.2)) = (.inr (if p.1 = x then (p.1, v) else p).1, .int (if p.1 = x then (p.1, v) else p).2)
    by_cases e : p.1 = x
    · rw [if_pos (by rw [e]), if_pos e]
    · rw [if_neg (fun z => e (Sum.inr.inj z)), if_neg e]
theorem len_V (f : Tab) : (V f).length = f.length := List.length_map ..
theorem nodup_len {α : Type} [DecidableEq α] : ∀ {l g : List α}, l.Nodup → (∀ x ∈ l, x ∈ g) → l.length ≤ g.length
  | [], g, _, _ => Nat.zero_le _
  | x :: l, g, nd, h => by
    rw [List.nodup_cons] at nd
    have hx := h x List.mem_cons_self
    have ih := nodup_len (l := l) (g := g.erase x) nd.2 fun y hy => (List.mem_erase_of_ne (fun e => nd.1 (by rw [← e]; exact hy))).mpr (h y (List.mem_cons_of_mem _ hy))
    rw [List.length_erase_of_mem hx] at ih
    have := List.length_pos_of_mem hx
    rw [List.length_cons]
    omega
/-- equal as dicts -/
def same (f g : Tab) : Bool := f.length == g.length && f.all fun p => decide (look g p.1 = some p.2)
theorem same_look {f g : Tab} (nf : (f.map (·.1)).Nodup) (ng : (g.map (·.1)).Nodup) (h : same f g = true) (x : Str) : look f x = look g x := by
  unfold same at h
  rw [Bool.and_eq_true, beq_iff_eq, List.all_eq_true] at h
  obtain ⟨hl, ha⟩ := h
  cases e : look f x with
  | some v =>
    have := of_decide_eq_true (ha _ (look_mem e))
    exact this.symm
  | none =>
    cases e2 : look g x with
    | none => rfl
    | some v =>
      exfalso
      have sub : ∀ y ∈ f.map (·.1), y ∈ g.map (·.1) := fun y hy => by
        obtain ⟨p, hp, rfl⟩ := List.mem_map.mp hy
        have := of_decide_eq_true (ha p hp)
        exact List.mem_map_of_mem (look_mem this)
      have mx : x ∈ g.map (·.1) := List.mem_map_of_mem (f := (·.1)) (look_mem e2)
      have nx : x ∉ f.map (·.1) := look_none.mp e
      have nd : (x :: f.map (·.1)).Nodup := List.nodup_cons.mpr ⟨nx, nf⟩
      have := nodup_len nd (g := g.map (·.1)) fun y hy => by
        rcases List.mem_cons.mp hy with rfl | hy
        · exact mx
        · exact sub y hy
      rw [List.length_cons, List.length_map, List.length_map] at this
      omega
theorem same_refl {f : Tab} (nf : (f.map (·.1)).Nodup) : same f f = true := by
  unfold same
  rw [Bool.and_eq_true, List.all_eq_true]
  exact ⟨by simp, fun p hp => decide_eq_true (look_of nf hp)⟩
/-! ### rounds of shortening -/
abbrev LK := Str → Str → Int → Prop
structure RelOk (R : LK) (zs : List Str) (L : Int) : Prop where
  few : zs.length ≤ 8
  nn : 0 ≤ L
  ok : ∀ a n x, R a n x → a ∈ zs ∧ n ∈ zs ∧ 1 ≤ x ∧ x ≤ L
structure Fd (R : LK) (zs : List Str) (d : Str) (L : Int) (f : Tab) : Prop where
  nd : (f.map (·.1)).Nodup
  sub : ∀ x v, look f x = some v → x ∈ zs ∧ 0 ≤ v ∧ v ≤ ((f.length : Int) - 1) * L
  zero : look f d = some 0
  par : ∀ x v, look f x = some v → x = d ∨ ∃ n u y, R x n y ∧ look f n = some u ∧ u + y ≤ v
theorem Fd.len {R : LK} {zs : List Str} {d : Str} {L : Int} {f : Tab} (h : Fd R zs d L f) : f.length ≤ zs.length := by
  have := nodup_len h.nd (g := zs) fun x hx => by
    cases e : look f x with
    | none => exact absurd hx (look_none.mp e)
    | some v => exact (h.sub x v e).1
  rwa [List.length_map] at this
def sh (f : Tab) (a n : Str) (x : Int) : Tab := match look f n with
  | none => f
  | some u => match look f a with
    | none => put f a (u + x)
    | some v => if u + x < v then put f a (u + x) else f
def Cl (f : Tab) (a n : Str) (x : Int) : Prop := ∀ u, look f n = some u → ∃ v, look f a = some v ∧ v ≤ u + x
def cost (L : Int) (f : Tab) (z : Str) : Nat := match look f z with
  | some v => v.toNat
  | none => (8 * L + 1).toNat
def M (zs : List Str) (L : Int) (f : Tab) : Nat := (zs.map (cost L f)).sum
theorem M_congr {zs : List Str} {L : Int} {f g : Tab} (h : ∀ x, look f x = look g x) : M zs L f = M zs L g := by
  unfold M
  congr 1
  refine List.map_congr_left fun z _ => ?_
  unfold cost
  rw [h]
theorem sum_le {g g' : Str → Nat} : ∀ {zs : List Str}, (∀ z ∈ zs, g' z ≤ g z) → (zs.map g').sum ≤ (zs.map g).sum
  | [], _ => Nat.le_refl _
  | z :: zs, h => by
    have := sum_le (zs := zs) fun y hy => h y (List.mem_cons_of_mem _ hy)
    have := h z List.mem_cons_self
    simp only [List.map_cons, List.sum_cons]
    omega
theorem sum_lt {g g' : Str → Nat} {a : Str} : ∀ {zs : List Str}, (∀ z ∈ zs, g' z ≤ g z) → a ∈ zs → g' a < g a → (zs.map g').sum < (zs.map g).sum
  | [], _, m, _ => nomatch m
  | z :: zs, h, m, l => by
    have h1 := sum_le (zs := zs) fun y hy => h y (List.mem_cons_of_mem _ hy)
    have h2 := h z List.mem_cons_self
    simp only [List.map_cons, List.sum_cons]
    rcases List.mem_cons.mp m with e | m
    · subst e
      omega
    · have := sum_lt (zs := zs) (fun y hy => h y (List.mem_cons_of_mem _ hy)) m l
      omega
theorem len_put {f : Tab} {x : Str} {v : Int} : (put f x v).length = if (look f x).isSome then f.length else f.length + 1 := by
  have := congrArg List.length (keys_put (f := f) (x := x) (v := v))
  rw [List.length_map] at this
  rw [this]
  split <;> simp
section
variable {R : LK} {zs : List Str} {d : Str} {L : Int} {f : Tab} {a n : Str} {x : Int}
/-- a lower value is written -/
theorem Fd.lower (h : Fd R zs d L f) (ro : RelOk R zs L) (r : R a n x) {u : Int} (hn : look f n = some u) (lo : ∀ v, look f a = some v → u + x < v) :
    Fd R zs d L (put f a (u + x)) ∧ M zs L (put f a (u + x)) < M zs L f := by
  obtain ⟨ma, mn, x1, xL⟩ := ro.ok a n x r
  obtain ⟨_, u0, uL⟩ := h.sub n u hn
  have ad : a ≠ d := fun e => by
    subst e
    have := lo 0 h.zero
    omega
  have an : n ≠ a := fun e => by
    subst e
    have := lo u hn
    omega
  have few := ro.few
  have hl := h.len
  have Fd' : Fd R zs d L (put f a (u + x)) := by
    refine ⟨nd_put h.nd, fun y v e => ?_, by rw [look_put, if_neg (fun e => ad e.symm)]; exact h.zero, fun y v e => ?_⟩
    · rw [look_put] at e
      rw [len_put]
      have key : ((f.length : Int) - 1) * L ≤ (((f.length + 1 : Nat) : Int) - 1) * L := Int.mul_le_mul_of_nonneg_right (by omega) ro.nn
      have key2 : ((f.length : Int) - 1) * L + L = (((f.length + 1 : Nat) : Int) - 1) * L := by
        rw [show (((f.length + 1 : Nat) : Int) - 1) = ((f.length : Int) - 1) + 1 by omega, Int.add_mul, Int.one_mul]
      by_cases ey : y = a
      · rw [if_pos ey] at e
        cases e
        subst ey
        refine ⟨ma, by omega, ?_⟩
        split
        · rename_i c
          cases z : look f y with
          | none => rw [z] at c; cases c
          | some v =>
            have := lo v z
            have := (h.sub y v z).2.2
            omega
        · omega
      · rw [if_neg ey] at e
        obtain ⟨q1, q2, q3⟩ := h.sub y v e
        refine ⟨q1, q2, ?_⟩
        split
        · exact q3
        · exact Int.le_trans q3 key
    · rw [look_put] at e
      by_cases ey : y = a
      · rw [if_pos ey] at e
        cases e
        subst ey
        exact .inr ⟨n, u, x, r, by rw [look_put, if_neg an]; exact hn, Int.le_refl _⟩
      · rw [if_neg ey] at e
        rcases h.par y v e with z | ⟨m, w, t, q1, q2, q3⟩
        · exact .inl z
        · refine .inr ?_
          by_cases em : m = a
          · subst em
            refine ⟨m, u + x, t, q1, by rw [look_put, if_pos rfl], ?_⟩
            have := lo w q2
            omega
          · exact ⟨m, w, t, q1, by rw [look_put, if_neg em]; exact q2, q3⟩
  refine ⟨Fd', ?_⟩
  have bnd := (Fd'.sub a (u + x) (by rw [look_put, if_pos rfl])).2
  have hl' := Fd'.len
  have b7 : u + x ≤ 7 * L := Int.le_trans bnd.2 (Int.mul_le_mul_of_nonneg_right (by omega) ro.nn)
  have at_a : cost L (D7.put f a (u + x)) a < cost L f a := by
    unfold cost
    rw [look_put, if_pos rfl]
    cases z : look f a with
    | none =>
      show (u + x).toNat < (8 * L + 1).toNat
      omega
    | some v =>
      have := lo v z
      show (u + x).toNat < v.toNat
      omega
  refine sum_lt (fun z _ => ?_) ma at_a
  by_cases e : z = a
  · subst e
    exact Nat.le_of_lt at_a
  · unfold cost
    rw [look_put, if_neg e]
    exact Nat.le_refl _
theorem sh_step (h : Fd R zs d L f) (ro : RelOk R zs L) (r : R a n x) : (sh f a n x = f ∧ Cl f a n x) ∨ (Fd R zs d L (sh f a n x) ∧ M zs L (sh f a n x) < M zs L f) := by
  unfold sh Cl
  cases hn : look f n with
  | none => exact .inl ⟨rfl, fun u e => nomatch e⟩
  | some u =>
    dsimp only
    cases ha : look f a with
    | none => exact .inr (h.lower ro r hn fun v e => by rw [ha] at e; cases e)
    | some v =>
      dsimp only
      by_cases c : u + x < v
      · rw [if_pos c]
        exact .inr (h.lower ro r hn fun w e => by rw [ha] at e; cases e; exact c)
      · rw [if_neg c]
        refine .inl ⟨rfl, fun w e => ?_⟩
        cases e
        exact ⟨v, rfl, by omega⟩
/-- in a round over the links that began with f0: f now, the links that were looked at -/
structure Rd (R : LK) (zs : List Str) (d : Str) (L : Int) (f0 f : Tab) (seen : Str → Str → Int → Prop) : Prop where
  fd : Fd R zs d L f
  alt : (f = f0 ∧ ∀ a n x, seen a n x → Cl f0 a n x) ∨ M zs L f < M zs L f0
theorem Rd.step {f0 : Tab} {seen seen' : Str → Str → Int → Prop} (h : Rd R zs d L f0 f seen) (ro : RelOk R zs L) (r : R a n x) (hs : ∀ b m y, seen' b m y → seen b m y ∨ (b = a ∧ m = n ∧ y = x)) :
    Rd R zs d L f0 (sh f a n x) seen' := by
  rcases sh_step h.fd ro r with ⟨e, c⟩ | ⟨q, l⟩
  · rw [e]
    refine ⟨h.fd, ?_⟩
    rcases h.alt with ⟨rfl, al⟩ | l
    · refine .inl ⟨rfl, fun b m y z => ?_⟩
      rcases hs b m y z with z | ⟨rfl, rfl, rfl⟩
      · exact al b m y z
      · exact c
    · exact .inr l
  · refine ⟨q, .inr ?_⟩
    rcases h.alt with ⟨rfl, _⟩ | l2
    · exact l
    · exact Nat.lt_trans l l2
/-- the distances -/
structure Dist (R : LK) (zs : List Str) (d : Str) (f : Tab) : Prop where
  nd : (f.map (·.1)).Nodup
  sub : ∀ x v, look f x = some v → x ∈ zs ∧ 0 ≤ v
  zero : look f d = some 0
  par : ∀ x v, look f x = some v → x = d ∨ ∃ n u y, R x n y ∧ look f n = some u ∧ v = u + y
  cl : ∀ a n x, R a n x → Cl f a n x
theorem Fd.dist (h : Fd R zs d L f) (c : ∀ a n x, R a n x → Cl f a n x) : Dist R zs d f := by
  refine ⟨h.nd, fun x v e => ⟨(h.sub x v e).1, (h.sub x v e).2.1⟩, h.zero, fun x v e => ?_, c⟩
  rcases h.par x v e with z | ⟨n, u, y, q1, q2, q3⟩
  · exact .inl z
  · refine .inr ⟨n, u, y, q1, q2, ?_⟩
    obtain ⟨w, e2, l⟩ := c x n y q1 u q2
    rw [e] at e2
    cases e2
    omega
theorem Fd.start (ro : RelOk R zs L) (hd : d ∈ zs) : Fd R zs d L [(d, 0)] := by
  have z : look [(d, (0 : Int))] d = some 0 := by rw [look_cons, if_pos rfl]
  refine ⟨by simp, fun x v e => ?_, z, fun x v e => ?_⟩
  · rw [look_cons, look_nil] at e
    split at e
    · rename_i q
      cases e
      have q : d = x := q
      subst q
      exact ⟨hd, Int.le_refl _, by simp⟩
    · cases e
  · rw [look_cons, look_nil] at e
    split at e
    · rename_i q
      exact .inl q.symm
    · cases e
/-- how many are nearer -/
def rk (f : Tab) (v : Int) : Nat := (f.filter fun p => decide (p.2 < v)).length
theorem rk_lt {n : Str} {u v : Int} (h : look f n = some u) (l : u < v) : rk f u < rk f v := by
  have mem := look_mem h
  unfold rk
  clear h
  induction f with
  | nil => cases mem
  | cons p f ih =>
    have mono : (f.filter fun p => decide (p.2 < u)).length ≤ (f.filter fun p => decide (p.2 < v)).length := by
      clear ih mem
      induction f with
      | nil => exact Nat.le_refl _
      | cons q f ih =>
        rw [List.filter_cons, List.filter_cons]
        by_cases c1 : q.2 < u
        · rw [if_pos (decide_eq_true c1), if_pos (decide_eq_true (by omega))]
          simpa using ih
        · rw [if_neg (by simpa using c1)]
          split
          · rw [List.length_cons]
            omega
          · exact ih
    rw [List.filter_cons, List.filter_cons]
    rcases List.mem_cons.mp mem with e | m
    · subst e
      rw [if_neg (by simp), if_pos (decide_eq_true l), List.length_cons]
      omega
    · have := ih m
      by_cases c1 : p.2 < u
      · rw [if_pos (decide_eq_true c1), if_pos (decide_eq_true (by omega))]
        simpa using this
      · rw [if_neg (by simpa using c1)]
        split
        · rw [List.length_cons]
          omega
        · exact this
theorem rk_le (v : Int) : rk f v ≤ f.length := List.length_filter_le _ _
end
end D7
set_option Elab.async false
set_option linter.all false
set_option maxRecDepth 100000
set_option maxHeartbeats 4000000
/-! != of two tables. -/
namespace D7
open PySem PySem.Spec PyProof.Rows L2
/-- the entries of one, asked in the other -/
theorem tab_hits {A : Around} {s : Shared} {g : Tab} {vb : List (Key × Value)} (rb : KV (V g) vb) : ∀ {f : Tab} {va : List (Key × Value)}, KV (V f) va →
    PySem.W.KeqHits A s vb va (f.all fun p => decide (look g p.1 = some p.2))
  | [], va, ra => by
    cases ra
    exact .nil
  | p :: f, va, ra => by
    obtain ⟨k, n⟩ := p
    have ra' : KV (((.inr k : Key), L2.V.int n) :: V f) va := ra
    unfold KV at ra'
    cases ra' with
    | @cons _ q _ qs h t =>
      obtain ⟨h1, h2⟩ := h
      obtain ⟨k', v⟩ := q
      have h1 : (Sum.inr k : Key) = k' := h1
      subst h1
      obtain ⟨tv, e2⟩ : ∃ t, v = Value.int n t := h2
      subst e2
      have ih := tab_hits (A := A) (s := s) rb (f := f) t
      have rr : RelO (valV (V g) (.inr k)) (valueAt vb (.inr k)) := rb.val (.inr k)
      rw [val_V] at rr
      rw [List.all_cons]
      cases e : look g k with
      | none =>
        rw [e] at rr
        have n0 : valueAt vb (.inr k) = none := by
          cases z : valueAt vb (.inr k) with
          | none => rfl
          | some y =>
            rw [z] at rr
            exact rr.elim
        rw [show (decide ((none : Option Int) = some n) && f.all fun p => decide (look g p.1 = some p.2)) = false from by simp]
        exact .miss n0
      | some m =>
        rw [e] at rr
        obtain ⟨y, hy, ry⟩ := RelO.some_of rr
        obtain ⟨ty, e3⟩ : ∃ t, y = Value.int m t := ry
        subst e3
        have eq := SeqAt.EqAt.int_int (A := A) (s := s) n tv m ty
        rw [show decide ((some m : Option Int) = some n) = (n == m) from by
          by_cases z : n = m
          · subst z
            simp
          · rw [decide_eq_false (fun q => z (Option.some.inj q).symm), beq_false_of_ne z]]
        exact .hit hy eq ih
section
variable {X : Cx}
def rNeTab : R2 := fun x y H Q => ∃ a b f g, x = .ref a ∧ y = .ref b ∧ H a = some (.dK (V f)) ∧ H b = some (.dK (V g)) ∧ Q (.bl (!same f g)) H
theorem op_neTab (hu1 : X.A.units + 1 < cLine) : OpR X (compareOp .NotEq) rNeTab := by
  have hu : X.A.units < cLine := Nat.lt_of_succ_lt hu1
  intro pins s σ H x y v u Q I rx ry h
  obtain ⟨a, b, f, g, rfl, rfl, ea, eb, q⟩ := h
  obtain rfl : v = Value.ref a := rx
  obtain rfl : u = Value.ref b := ry
  obtain ⟨_, ya, va, ra, da⟩ := (show ObjOk X.prog X.w H s.heap a (.dK (V f)) from I.hok a _ ea)
  obtain ⟨_, yb, vb, rb, db⟩ := (show ObjOk X.prog X.w H s.heap b (.dK (V g)) from I.hok b _ eb)
  have la : va.length = f.length := by rw [← ra.length, len_V]
  have lb : vb.length = g.length := by rw [← rb.length, len_V]
  refine PySem.W.keq_ne (knd := mixKind X.prog X.w) (r := f.all fun p => decide (look g p.1 = some p.2)) ya yb da db hu (fun _ => tab_hits rb ra) (fin_bl I q ?_)
  unfold same
  rw [la, lb]
end
end D7
set_option Elab.async false
set_option linter.all false
set_option maxRecDepth 100000
set_option maxHeartbeats 4000000
/-! A list beside an empty one; data, by its kinds. -/
namespace Q
open PySem PySem.Spec PyProof.Rows L2 PySem.W
section
variable {K : PySem.W.Frag} {H : Hp} {x : V} {d : PyData}
theorem Dd.odd (h : Dd K H x d) : Odd K H x := by
  cases h with
  | non => exact .non
  | bl b => exact .bl b
  | int i => exact .int i
  | str z => exact .str z
  | lst h _ => exact .lst h
  | tup h _ => exact .tup h
  | dic h _ _ => exact .dic h
def strV : V → Bool
  | .str _ => true
  | _ => false
theorem Dd.kit (h : Dd K H x d) : ∃ t, TyX K H x t ∧ kitOne K t (.type "str") = some (strV x) := by
  cases h with
  | non => exact ⟨_, .base .non, rfl⟩
  | bl b => exact ⟨_, .base (.bl b), rfl⟩
  | int i => exact ⟨_, .base (.int i), rfl⟩
  | str z => exact ⟨_, .base (.str z), rfl⟩
  | lst h _ =>
    rcases h with (h | ⟨o, h⟩) | ⟨o, its, n, e, c, _⟩
    · exact ⟨_, .base (.lst h), rfl⟩
    · exact ⟨_, .base (.frz h), rfl⟩
    · exact ⟨_, .kList e c, rfl⟩
  | tup h _ =>
    rcases h with (h | ⟨o, h⟩) | ⟨o, its, n, e, c, _⟩
    · exact ⟨_, .base (.tup h), rfl⟩
    · exact ⟨_, .fTuple h, rfl⟩
    · exact ⟨_, .kTuple e c, rfl⟩
  | dic h _ _ => exact ⟨_, .base (.dK h), rfl⟩
end
section
variable {X : Cx}
def rEqNil (K : PySem.W.Frag) : R2 := fun x y H Q => ∃ a b xs, x = .ref a ∧ y = .ref b ∧ SqL K H a xs ∧ SqL K H b [] ∧ Q (.bl xs.isEmpty) H
theorem op_eqNil (hu1 : X.A.units + 1 < cLine) : OpR X (compareOp .Eq) (rEqNil X.K) := by
  intro pins s σ H x y v u Q I rx ry h
  have hu : X.A.units < cLine := Nat.lt_of_succ_lt hu1
  obtain ⟨a, b, xs, rfl, rfl, ha, hb, q⟩ := h
  cases rx
  cases ry
  obtain ⟨its, r1, pl1, _⟩ := I.list ha
  obtain ⟨its2, r2, pl2, _⟩ := I.list hb
  cases r2
  cases xs with
  | nil =>
    cases r1
    refine SeqAt.eq_listAt (e := fun _ => true) pl1.isList pl2.isList rfl hu (fun j h1 _ => nomatch h1) ⟨.bl _, H, I, rfl, ?_⟩
    exact q
  | cons z zs =>
    cases r1
    refine SeqAt.eq_list_lengthsAt pl1.isList pl2.isList (by simp) hu ⟨.bl _, H, I, rfl, ?_⟩
    exact q
end
end Q
set_option Elab.async false
set_option linter.all false
set_option maxRecDepth 100000
set_option maxHeartbeats 4000000
/-! A list that is not the empty one. -/
namespace Q
open PySem PySem.Spec PyProof.Rows L2 PySem.W
section
variable {X : Cx}
def rNeNil (K : PySem.W.Frag) : R2 := fun x y H Q => ∃ a b xs, x = .ref a ∧ y = .ref b ∧ SqL K H a xs ∧ SqL K H b [] ∧ Q (.bl (!xs.isEmpty)) H
theorem op_neNil (hu1 : X.A.units + 1 < cLine) : OpR X (compareOp .NotEq) (rNeNil X.K) := by
  intro pins s σ H x y v u Q I rx ry h
  have hu : X.A.units < cLine := Nat.lt_of_succ_lt hu1
  obtain ⟨a, b, xs, rfl, rfl, ha, hb, q⟩ := h
  cases rx
  cases ry
  obtain ⟨its, r1, pl1, _⟩ := I.list ha
  obtain ⟨its2, r2, pl2, _⟩ := I.list hb
  cases r2
  cases xs with
  | nil =>
    cases r1
    refine SeqAt.RcNeAt.lists (e := fun _ => true) pl1.isList pl2.isList rfl hu (fun j h1 _ => nomatch h1) X.prog X.w _ _ ⟨.bl _, H, I, rfl, ?_⟩
    exact q
  | cons z zs =>
    cases r1
    refine SeqAt.RcNeAt.lists_lengths pl1.isList pl2.isList (by simp) hu X.prog X.w _ _ ⟨.bl _, H, I, rfl, ?_⟩
    exact q
end
end Q
set_option Elab.async false
set_option linter.all false
set_option maxRecDepth 100000
set_option maxHeartbeats 4000000
/-! A tuple beside the empty one. -/
namespace Q
open PySem PySem.Spec PyProof.Rows L2 PySem.W
section
variable {X : Cx}
def rNeNilT (K : PySem.W.Frag) : R2 := fun x y H Q => ∃ a b xs, x = .ref a ∧ y = .ref b ∧ SqT K H a xs ∧ SqT K H b [] ∧ Q (.bl (!xs.isEmpty)) H
def rEqNilT (K : PySem.W.Frag) : R2 := fun x y H Q => ∃ a b xs, x = .ref a ∧ y = .ref b ∧ SqT K H a xs ∧ SqT K H b [] ∧ Q (.bl xs.isEmpty) H
theorem op_neNilT (hu1 : X.A.units + 1 < cLine) : OpR X (compareOp .NotEq) (rNeNilT X.K) := by
  intro pins s σ H x y v u Q I rx ry h
  have hu : X.A.units < cLine := Nat.lt_of_succ_lt hu1
  obtain ⟨a, b, xs, rfl, rfl, ha, hb, q⟩ := h
  cases rx
  cases ry
  obtain ⟨its, r1, pl1, _⟩ := I.tuple ha
  obtain ⟨its2, r2, pl2, _⟩ := I.tuple hb
  cases r2
  refine SeqAt.RcNeAt.tuples (e := fun _ => true) pl1 pl2 hu (fun j _ h2 => absurd h2 (Nat.not_lt_zero _)) X.prog X.w _ _ ⟨.bl _, H, I, rfl, ?_⟩
  cases xs with
  | nil =>
    cases r1
    exact q
  | cons z zs =>
    cases r1
    exact q
theorem op_eqNilT (hu1 : X.A.units + 1 < cLine) : OpR X (compareOp .Eq) (rEqNilT X.K) := by
  intro pins s σ H x y v u Q I rx ry h
  have hu : X.A.units < cLine := Nat.lt_of_succ_lt hu1
  obtain ⟨a, b, xs, rfl, rfl, ha, hb, q⟩ := h
  cases rx
  cases ry
  obtain ⟨its, r1, pl1, _⟩ := I.tuple ha
  obtain ⟨its2, r2, pl2, _⟩ := I.tuple hb
  cases r2
  refine SeqAt.RcAt.tuples (e := fun _ => true) pl1 pl2 hu (fun j _ h2 => absurd h2 (Nat.not_lt_zero _)) X.prog X.w _ _ ⟨.bl _, H, I, rfl, ?_⟩
  cases xs with
  | nil =>
    cases r1
    exact q
  | cons z zs =>
    cases r1
    exact q
end
end Q
set_option Elab.async false
set_option linter.all false
set_option maxRecDepth 100000
set_option maxHeartbeats 4000000
/-! t[::-1] of a tuple. -/
namespace Q
open PySem PySem.Spec PyProof.Rows L2 HT
theorem fm_all : ∀ l : List Value, ((List.range l.length).filterMap fun k => l[k]?) = l
  | [] => rfl
  | a :: l => by
    rw [List.length_cons, List.range_succ_eq_map, List.filterMap_cons]
    show a :: List.filterMap _ _ = a :: l
    rw [List.filterMap_map]
    exact congrArg (a :: ·) (fm_all l)
theorem fm_congr {α β : Type} {f g : α → Option β} : ∀ {l : List α}, (∀ x ∈ l, f x = g x) → l.filterMap f = l.filterMap g
  | [], _ => rfl
  | a :: l, h => by
    rw [List.filterMap_cons, List.filterMap_cons, h a List.mem_cons_self, fm_congr fun x hx => h x (List.mem_cons_of_mem _ hx)]
theorem pick_rev (xs : Array Value) : ((List.range xs.size).filterMap fun (m : Nat) => xs[(((xs.size : Int) - 1) + (m : Int) * (-1)).toNat]?).toArray = xs.toList.reverse.toArray := by
  congr 1
  have l : xs.toList.reverse.length = xs.size := by rw [List.length_reverse, Array.length_toList]
  have e := fm_all xs.toList.reverse
  rw [l] at e
  refine Eq.trans (fm_congr fun k hk => ?_) e
  have hk2 : k < xs.size := List.mem_range.mp hk
  rw [List.getElem?_reverse (by rw [Array.length_toList]; exact hk2), Array.getElem?_toList, Array.length_toList]
  congr 1
  omega
section
variable {prog : Program} {w : World} {A : Around} {E : Value → Shared → Prop} {s : Shared}
theorem part_at {v : Value} {o : Option Int} {Q : Option Int → Shared → Prop} (p : IsPart v o) (h : Q o s) : wpAny (model prog w) A (Builtin.Slice.slicePartIndex v) Q E s := by
  cases p with
  | none => exact slicePart_none h
  | int i t => exact slicePart_int h
theorem applied_rev {sl : Addr} {vl vu vs : Value} {n : Nat} {Q : Int × Int × Nat → Shared → Prop} (hs : s.heap.IsSliceOf sl vl vu vs) (pl : IsPart vl none) (pu : IsPart vu none) (ps : IsPart vs (some (-1)))
    (h : Q ((n : Int) - 1, -1, n) s) : wpAny (model prog w) A (Builtin.Slice.sliceApplied (.ref sl) (pure (n : Int))) Q E s := by
  obtain ⟨o, ho, _, hd⟩ := id hs
  unfold Builtin.Slice.sliceApplied Builtin.Slice.sliceFields
  refine wpAny_bind (wpAny_bind (wpAny_field ho hd (x := vl) rfl (wpAny_bind (wpAny_field ho hd (x := vu) rfl (wpAny_bind (wpAny_field ho hd (x := vs) rfl (wpAny_pure ?_)))))))
  refine wpAny_bind (part_at ps ?_)
  show wpAny _ _ (if ((-1 : Int) == 0) = true then _ else _) _ _ s
  rw [if_neg (by decide)]
  refine wpAny_bind (part_at pl (wpAny_bind (part_at pu (wpAny_bind (wpAny_pure ?_)))))
  have e1 : Builtin.Slice.sliceAdjust none none (-1) (n : Int) = ((n : Int) - 1, -1) := rfl
  have e2 : Builtin.Slice.slicePlaces ((n : Int) - 1) (-1) (-1) = n := by
    unfold Builtin.Slice.slicePlaces
    rw [if_neg (by decide)]
    split
    · rw [Int.neg_neg, Int.ediv_one]; omega
    · omega
  show wpAny _ _ (match Builtin.Slice.sliceAdjust none none (-1) (n : Int) with | (a, b) => pure (a, (-1 : Int), Builtin.Slice.slicePlaces a b (-1))) _ _ s
  rw [e1]
  show wpAny _ _ (pure ((n : Int) - 1, (-1 : Int), Builtin.Slice.slicePlaces ((n : Int) - 1) (-1) (-1))) _ _ s
  rw [e2]
  exact wpAny_pure h
theorem item_rev {t sl : Addr} {items : Array Value} {vl vu vs : Value} {Q : Value → Shared → Prop} (ht : IsTup s.heap t items) (hs : s.heap.IsSliceOf sl vl vu vs) (pl : IsPart vl none) (pu : IsPart vu none) (ps : IsPart vs (some (-1)))
    (h : Q (.ref s.heap.objs.size) { s with heap := s.heap.push { cls := .type "tuple", data := .seq items.toList.reverse.toArray } }) (hsz : items.size ≤ sizeLine) : wpAny (model prog w) A (getItem (.ref t) (.ref sl)) Q E s := by
  have fits : sizeOk (.seq items.toList.reverse.toArray) := by
    show items.toList.reverse.toArray.size ≤ sizeLine
    rw [List.size_toArray, List.length_reverse, Array.length_toList]; exact hsz
  obtain ⟨o, ho, hc, hd⟩ := id hs
  have ty : s.TypeIs (.ref sl) "slice" := ⟨o, ho, hc⟩
  unfold getItem
  try with_reducible refine wpAny_holding ?_
  first | (refine wpAny_bind (wpAny_pure ?_)) | skip
  refine wpAny_bind (wpAny_sequenceKey ht.typeIs (by decide) (wpAny_bind (wpAny_callSpecial?_slot (name := Str.ofString "__getitem__") ht.typeIs PyProof.Rows.slot_tuple_getitem (wpAny_call_entry PyProof.Rows.slot_tuple_getitem ht.typeIs entry_tuple_getitem ?_ (args_tuple_getitem _ _)))))
  show wpAny _ _ (Builtin.Tuple.tupleItemsOf (.ref t) >>= fun _ => _) _ _ s
  refine wpAny_bind (tupleItemsOf_ ht (wpAny_bind (wpAny_typeOf ty ?_))); rw [if_pos (by decide)]
  refine wpAny_bind (applied_rev (n := items.size) hs pl pu ps ?_)
  show wpAny _ _ (if (((items.size : Int) - 1 == 0) && ((-1 : Int) == 1) && (items.size == items.size)) = true then _ else _) _ _ s
  rw [if_neg (by simp), pick_rev]
  first
    | exact wpAny_bind (m := Builtin.Tuple.tupleExact _) (wpAny_newObj_type (wpAny_pure ⟨_, rfl, wpAny_pure h⟩) fits)
    | exact wpAny_bind (m := Builtin.Tuple.tupleExact _) (wpAny_newObj_type (wpAny_bind (wpAny_pure (wpAny_pure ⟨_, rfl, wpAny_pure h⟩))) fits)
    | exact wpAny_bind (wpAny_bind (m := Builtin.Tuple.tupleExact _) (wpAny_newObj_type (wpAny_pure (wpAny_pure ⟨_, rfl, wpAny_pure h⟩)) fits))
    | exact wpAny_bind (wpAny_bind (m := Builtin.Tuple.tupleExact _) (wpAny_newObj_type (wpAny_pure ⟨_, rfl, wpAny_pure h⟩) fits))
end
/-- t[::-1] -/
def tRevT (K : PySem.W.Frag) (te : TE) : TE := fun σ H Q => te σ H fun x H1 => ∃ a xs, x = .ref a ∧ SqT K H1 a xs ∧ ∀ p, H1 p = none → Q (.ref p) (upd H1 p (.tup xs.reverse))
section
variable {X : Cx}
theorem pe_revT {e : Expr} {te : TE} {k : Nat} {p1 p2 p3 pos : Pos} (he : PE X e te) : PE X (.Subscript e (.Slice none none (some (.UnaryOp .USub (.Constant (.int 1) k p1) p2)) p3) pos) (tRevT X.K te) := by
  refine ⟨fun pins s σ H Q I h => Subscript_ (thn (he.run pins s σ H _ I h) fun v s1 ⟨x, H1, I1, r1, a, xs, ex, hx, q⟩ => ?_)⟩
  subst ex
  cases r1
  have step : PO X (some (.UnaryOp .USub (.Constant (.int 1) k p1) p2)) (tPart (tUn (rU fun i => .int (-i)) (tC (.int 1)))) := po_some (pe_un un_neg pe_int)
  refine wpAny_Slice (thn (po_none.run pins s1 σ H1 (fun o H2 => o = none ∧ H2 = H1) I1 ⟨rfl, rfl⟩) fun vl s2 ⟨l, H2, I2, pl, el, e2⟩ => ?_); subst el e2
  refine thn (po_none.run pins s2 σ H2 (fun o H3 => o = none ∧ H3 = H2) I2 ⟨rfl, rfl⟩) fun vu s3 ⟨u, H3, I3, pu, eu, e3⟩ => ?_; subst eu e3
  refine thn (step.run pins s3 σ H3 (fun o H4 => o = some (-1) ∧ H4 = H3) I3 ⟨1, rfl, -1, rfl, rfl, rfl⟩) fun vs s4 ⟨o, H4, I4, ps, eo, e4⟩ => ?_; subst eo e4
  have I5 : Inv X pins σ H4 { s4 with heap := s4.heap.push { cls := .type "slice", data := .fields #[vl, vu, vs] } } := I4.kept (t' := s4.toks) fun b ob q => Heap.get?_push_of_some _ q
  obtain ⟨its, r, ht, hz⟩ := I5.tuple hx
  have len := r.length
  show wpAny (model X.prog X.w) X.A (subscriptTail e (.Slice none none (some (.UnaryOp .USub (.Constant (.int 1) k p1) p2)) p3) (.ref a) (.ref s4.heap.objs.size)) (EP X pins σ Q) X.xe { s4 with heap := s4.heap.push { cls := .type "slice", data := .fields #[vl, vu, vs] } }
  refine tail_any (ops := [.ref a, .ref s4.heap.objs.size]) ht.typeIs PyProof.Rows.slot_tuple_getitem.lookup ?_ (by with_unfolding_all rfl)
  refine item_rev ht (Heap.IsSliceOf.new _ vl vu vs) pl pu ps ?_ (by rw [List.size_toArray]; omega)
  refine ⟨.ref _, _, I5.laid (t' := s4.toks) (o := .tup xs.reverse) (fun b ob q => Heap.get?_push_of_some _ q) (Nat.le_refl _) ?_, rfl, q _ (I5.hok.fresh (Nat.le_refl _))⟩
  exact ⟨by rw [List.length_reverse]; exact hz, _, r.reverse, IsTup.new _ _⟩
end
end Q
set_option Elab.async false
set_option linter.all false
set_option maxRecDepth 100000
set_option maxHeartbeats 4000000
/-! == and != by an own __eq__, whatever it answers. -/
namespace Q
open PySem PySem.Spec PyProof.Rows L2
section
variable {prog : Program} {w : World} {A : Around} {E : Value → Shared → Prop} {s : Shared} {K : PySem.W.Frag} {x C f : Addr} {ox : Obj} {od : Option Obj} {b tb : Value}
theorem bound_ne {M : Model} {args : List Value} {Q : Option Value → Shared → Prop} (X : K.In s.heap) (I : PySem.W.InstAt s.heap x ox C od) (hs : PySem.W.findIn K (.ref C) "__ne__" = some (some (.builtin "object.__ne__")))
    (h : wpAny M A (call (.builtin "object.__ne__") (.ref x :: args)) (fun v => Q (some v)) E s) : wpAny M A (callSpecialIfBound? (.ref x) "__ne__" args) Q E s := by
  have last : wpAny M A (call (.builtin "object.__ne__") ([.ref x] ++ args) >>= fun v => pure (some v)) Q E s := wpAny_bind (wpAny_mono h (fun _ _ z => wpAny_pure z) fun _ _ z => z)
  unfold callSpecialIfBound? bindSpecialIfBound?
  refine wpAny_holding (wpAny_bind (wpAny_bind (wpAny_bind (I.type.here ((PySem.W.looks_findIn X hs).here (wpAny_bind (wpAny_askSetting (wpAny_ite ?_))))))))
  split
  · exact wpAny_bind (wpAny_of_eq (F.cmp_object.ne.bind _) (wpAny_pure (by exact last)))
  · exact wpAny_tryCatch (wpAny_bind (wpAny_of_eq (F.cmp_object.ne.bind _) (wpAny_pure (by exact last))))
theorem entry_ne (X : K.In s.heap) (I : PySem.W.InstAt s.heap x ox C od) (he : PySem.W.findIn K (.ref C) "__eq__" = some (some (.ref f))) (hf : PySem.W.isFn K (.ref f) = true) (hu : A.units < cLine) {Q : Fin → Shared → Prop}
    (h : wpAny (model prog w) A (call (.ref f) [.ref x, b]) (fun v s' => ∃ c, v = .bool c ∧ Q (.done (.ret (.bool (!c)))) s') E s) : wpAny (model prog w) A (Builtin.«object.__ne__» ⟨[.ref x, b], []⟩) Q E s := by
  obtain ⟨hp, g, d, t, os⟩ := s
  unfold Builtin.«object.__ne__»
  repeat (first
    | with_reducible refine wpAny_cRoomFor hu ?_
    | (refine wpAny_bind (m := callSpecialIfBound? (.ref x) (Str.ofString "__eq__") [b]) (PySem.W.ifBound_K X I he hf (wpAny_mono h (fun r s' hr => by
        obtain ⟨c, rfl, hq⟩ := hr
        repeat (first | exact hq | exact wpAny_pure hq | exact wpAny_truthy_bool hq | (refine wpAny_bind (m := truthy (.bool _)) (wpAny_truthy_bool ?_)) | wp_step)) fun _ _ e => e)))
    | wp_step)
theorem ne_own (hu : A.units + 1 < cLine) (X : K.In s.heap) (I : PySem.W.InstAt s.heap x ox C od) (hb : PySem.W.Looks (model prog w) s.heap (typeOf b) tb) (hn : PySem.W.notFirst K C tb = true)
    (he : PySem.W.findIn K (.ref C) "__eq__" = some (some (.ref f))) (hf : PySem.W.isFn K (.ref f) = true) (hne : PySem.W.findIn K (.ref C) "__ne__" = some (some (.builtin "object.__ne__"))) (hm : PySem.W.mroIn K C (.type "object") = some true) {Q : Value → Shared → Prop}
    (h : wpAny (model prog w) A.in1 (call (.ref f) [.ref x, b]) (fun v s' => ∃ c, v = .bool c ∧ Q (.bool (!c)) s') E s) : wpAny (model prog w) A (richCompare .NotEq (.ref x) b) Q E s := by
  have one : wpAny (model prog w) A (tryCompare (.ref x) "__ne__" b) (fun r s' => ∃ c, r = some (.bool c) ∧ Q (.bool c) s') E s := by
    unfold tryCompare
    refine wpAny_bind (bound_ne X I hne (wpAny_call (codeAny_call_builtin F.cmp_object.ne.plain F.cmpEntry_ne (PySem.W.check_slot F.cmpKind_ne F.cmpSplit_ne (I.type.andThen (PySem.W.looks_mroIn X hm)) (F.cmpArgs_ne _ _)
      (entry_ne X I he hf (Nat.lt_of_le_of_lt (Nat.le_refl _) hu) (wpAny_mono h (fun v s' hv => ?_) fun _ _ e => e))))))
    obtain ⟨c, rfl, hq⟩ := hv
    refine ⟨c, rfl, ?_⟩
    first | exact wpAny_pure ⟨_, rfl, hq⟩ | exact ⟨_, rfl, hq⟩ | exact wpAny_pure (wpAny_pure ⟨_, rfl, hq⟩)
  unfold richCompare
  simp only [oneThing_ref]
  refine wpAny_holding (wpAny_bind (wpAny_cRoomFor (Nat.lt_of_succ_lt hu) (wpAny_bind (I.type.here (wpAny_bind (hb.here ?_))))))
  have fin : ∀ {rest : Option Value → Sem Value}, (∀ v s', Q v s' → wpAny (model prog w) A (rest (some v)) Q E s') → wpAny (model prog w) A (tryCompare (.ref x) (cmpInfo .NotEq).2.1 b >>= rest) Q E s := fun k =>
    wpAny_bind (wpAny_mono one (fun r s' z => by obtain ⟨c, rfl, hq⟩ := z; exact k _ _ hq) fun _ _ e => e)
  split
  · rename_i q
    have e : PySem.W.subIn K tb (.ref C) = some false := by
      rcases Bool.or_eq_true_iff.mp hn with e | e
      · rw [beq_iff_eq.mp e] at q; simp at q
      · exact beq_iff_eq.mp e
    refine wpAny_bind ((PySem.W.looks_subIn X e).here ?_)
    simp only [Bool.false_eq_true, if_false]
    exact fin fun v s' hq => wpAny_pure hq
  · refine wpAny_bind (wpAny_pure ?_)
    simp only [Bool.false_eq_true, if_false]
    exact fin fun v s' hq => wpAny_pure hq
end
section
variable {X : Cx} {n : Nat}
/-- a call of an own def by its value, from somewhere below the running body -/
theorem own_call {f : Addr} {fd : FuncData} {ps : List Str} {sp : Sp} (F : FnOk X.prog X.w X.K X.mg X.base CX0 n f fd ps sp) (hb : Binds X.K fd ps []) {A : Around} (sb : Sub X n A) {pins : List (Addr × Obj)} {σ : L2.St} {H : Hp} {s : Shared}
    (I : Inv X pins σ H s) {xs : List V} {us : List Value} (r : Vals xs us) {Q : VK} (h : sp xs H Q fun _ _ _ => False) :
    wpAny (model X.prog X.w) A (call (.ref f) us) (fun u s' => ∃ v H', Inv X pins σ H' s' ∧ RelV v u ∧ Q v H') X.xe s := by
  have e0 : Env0 X.prog X.w X.K X.mg X.base A X.stack s H := by
    have e := I.env0
    exact ⟨sb.fr.trans e.frames, e.mod, e.bs, e.bsz, e.funs, e.frf, e.hok, e.bare⟩
  have len : us.length = ps.length := r.length.symm.trans (F.len _ _ _ _ h)
  refine wpAny_call (codeAny_mono (F.run A X.stack s H ⟨us, []⟩ us xs _ _ sb.room e0 (by simpa using hb s us I.kIn (by simpa using len)) r h) fun z s' hq => ?_)
  cases z with
  | error e => exact pass0 pins σ H s e s' I hq
  | ok fl =>
    cases fl with
    | ret u =>
      obtain ⟨v, H', I', rv, q⟩ := I.after hq
      exact ⟨v, H', I', rv, q⟩
    | next => exact False.elim hq
    | brk => exact False.elim hq
    | cont => exact False.elim hq
/-- what stands on the right: an instance of the same class, or a value of a built-in kind -/
def Beside (K : PySem.W.Frag) (C : Addr) (H : Hp) (y : V) : Prop := (∃ b dy gs, y = .ref b ∧ H b = some (.ins C dy gs)) ∨ ∃ t, TyX K H y t ∧ PySem.W.notFirst K C t = true
theorem Beside.look {C : Addr} {pins : List (Addr × Obj)} {σ : L2.St} {H : Hp} {s : Shared} {y : V} {v : Value} (I : Inv X pins σ H s) (ry : RelV y v) (h : Beside X.K C H y) :
    ∃ tb, PySem.W.Looks (model X.prog X.w) s.heap (typeOf v) tb ∧ PySem.W.notFirst X.K C tb = true := by
  rcases h with ⟨b, dy, gs, rfl, hb⟩ | ⟨t, ty, hn⟩
  · cases ry
    obtain ⟨mB, J, _⟩ := ins_get I.hok hb
    obtain ⟨od, J, _⟩ := J.look
    exact ⟨_, J.type, by simp [PySem.W.notFirst]⟩
  · obtain ⟨P, Z, p, _⟩ := kit_of I ry ty
    exact ⟨t, Z.ty _ _ I.kIn p, hn⟩
def rEqO (K : PySem.W.Frag) (C : Addr) (sp : Sp) (ne : Bool) : R2 := fun x y H Q => ∃ a dx fs, x = .ref a ∧ H a = some (.ins C dx fs) ∧ Beside K C H y ∧ sp [x, y] H (fun v H' => ∃ b, v = .bl b ∧ Q (.bl (if ne then !b else b)) H') fun _ _ _ => False
theorem op_eqO {C f : Addr} {fd : FuncData} {ps : List Str} {sp : Sp} (F : FnOk X.prog X.w X.K X.mg X.base CX0 n f fd ps sp) (hb : Binds X.K fd ps [])
    (hs : PySem.W.findIn X.K (.ref C) "__eq__" = some (some (.ref f))) (hf : PySem.W.isFn X.K (.ref f) = true) (hr : Room n X.A) : OpR X (compareOp .Eq) (rEqO X.K C sp false) := by
  intro pins s σ H x y u u' Q I rx ry h
  obtain ⟨a, dx, fs, rfl, ha, bs, q⟩ := h
  cases rx
  obtain ⟨tb, L, hn⟩ := bs.look I ry
  obtain ⟨mA, J, _⟩ := ins_get I.hok ha
  obtain ⟨od, J, _⟩ := J.look
  obtain ⟨m, hF⟩ := I.fr
  refine PySem.W.cmp_K (op := .Eq) (tb := tb) hr.units0 hF I.ok.mod.kin J L hn hs hf ?_
  refine wpAny_mono (own_call F hb ⟨hr, rfl⟩ I (show Vals [V.ref a, y] [Value.ref a, u'] from .cons rfl (.cons ry .nil)) q) (fun r s' z => ?_) fun _ _ e => e
  obtain ⟨z, H', I', rz, b, rfl, q⟩ := z
  cases rz
  exact ⟨.bl _, H', I', rfl, q⟩
theorem op_neO {C f : Addr} {fd : FuncData} {ps : List Str} {sp : Sp} (F : FnOk X.prog X.w X.K X.mg X.base CX0 n f fd ps sp) (hb : Binds X.K fd ps [])
    (hs : PySem.W.findIn X.K (.ref C) "__eq__" = some (some (.ref f))) (hf : PySem.W.isFn X.K (.ref f) = true) (hne : PySem.W.findIn X.K (.ref C) "__ne__" = some (some (.builtin "object.__ne__"))) (hm : PySem.W.mroIn X.K C (.type "object") = some true)
    (hr : Room (n + 1) X.A) : OpR X (compareOp .NotEq) (rEqO X.K C sp true) := by
  intro pins s σ H x y u u' Q I rx ry h
  obtain ⟨a, dx, fs, rfl, ha, bs, q⟩ := h
  cases rx
  obtain ⟨tb, L, hn⟩ := bs.look I ry
  obtain ⟨mA, J, _⟩ := ins_get I.hok ha
  obtain ⟨od, J, _⟩ := J.look
  have sb : Sub X (n + 1) X.A := ⟨hr, rfl⟩
  refine ne_own (tb := tb) (by have := hr.un; omega) I.kIn J L hn hs hf hne hm ?_
  refine wpAny_mono (own_call F hb sb.in1 I (show Vals [V.ref a, y] [Value.ref a, u'] from .cons rfl (.cons ry .nil)) q) (fun r s' z => ?_) fun _ _ e => e
  obtain ⟨z, H', I', rz, b, rfl, q⟩ := z
  cases rz
  exact ⟨_, rfl, .bl _, H', I', rfl, q⟩
end
end Q
set_option Elab.async false
set_option linter.all false
set_option maxRecDepth 100000
set_option maxHeartbeats 4000000
/-! a, *b = a list; enumerate(a list, start=k) -/
namespace Q
open PySem PySem.Spec PyProof.Rows L2 PySem.W
section
variable {prog : Program} {w : World} {A : Around} {E : Value → Shared → Prop} {s : Shared}
theorem head_rest {l : Addr} {items : Array Value} {x : Value} {xs : List Value} {Q : List Value → Shared → Prop} (isL : s.heap.IsList l items) (calm0 : A.handled = none) (ei : items.toList = x :: xs) (few : items.size ≤ 10000)
    (next : ∀ (hb : Heap) (tk : Nat), (∀ b o, s.heap.get? b = some o → hb.get? b = some o) → Q [x, .ref hb.objs.size] { s with heap := hb.push { cls := .type "list", data := .seq xs.toArray }, toks := tk }) :
    wpAny (model prog w) A (unpackItems (.ref l) 2 (some 1)) Q E s := by
  have nl : l ≠ s.heap.objs.size := let ⟨_, q, _⟩ := isL; Nat.ne_of_lt (Heap.lt_size q)
  have sz : items.size = xs.length + 1 := by rw [← Array.length_toList, ei, List.length_cons]
  unfold unpackItems notIterableAtAll
  refine wpAny_bind (wpAny_bind (wpAny_specialOf isL.typeIs slot_list_iter.lookup (wpAny_pure ?_)))
  rw [if_neg (by simp)]
  refine wpAny_bind (wpAny_holding (wpAny_pyIter_list isL (wpAny_bind (wpAny_holding ?_))))
  refine kun_draw nl 1 0 _ _ ⟨_, Heap.get?_push_size _ rfl, rfl, rfl⟩ (isL.push _) (by omega) fun ha ita sa => ?_
  have la : ha.IsList l items := (isL.push _).extBut sa.extBut nl
  have e1 : (items.toList.drop 0).take 1 = [x] := by rw [ei]; rfl
  rw [e1, if_neg (by simp)]
  have l1 : s.heap.objs.size < ha.objs.size := let ⟨_, q, _⟩ := ita; Heap.lt_size q
  have l2 : l < ha.objs.size := let ⟨_, q, _⟩ := la; Heap.lt_size q
  refine wpAny_bind (wpAny_holding (kun_collect (items := items) (s := { s with heap := ha }) (St := fun k h => h.IsListIter s.heap.objs.size l k ∧ h.IsList l items) (.inr (.inr (.inl rfl))) (Walks.list (A := A.in1) calm0 _ l nl items) (fun j u st => st.1.typeIs) (k := 1) (by omega) ⟨ita, la⟩ l1 l2 (fun hb tk kb => ?_) (by rw [sizeLine_eq]; omega)))
  have e2 : items.toList.drop 1 = xs := by rw [ei]; rfl
  rw [e2]
  dsimp only
  rw [if_neg (by omega)]
  rw [show xs.length - (2 - 1 - 1) = xs.length by omega, List.take_length, List.drop_length]
  refine wpAny_bind (wpAny_newList (wpAny_pure ?_) (by rw [sizeLine_eq]; omega))
  have up : ∀ b o, s.heap.get? b = some o → hb.get? b = some o := fun b o q => kb b o (fun z => by rw [z] at q; exact absurd (Heap.lt_size q) (Nat.lt_irrefl _)) (sa.extBut b o (fun z => by rw [z] at q; exact absurd (Heap.lt_size q) (Nat.lt_irrefl _)) (Heap.get?_push_of_some _ q))
  exact next hb tk up
end
def gHd (K : PySem.W.Frag) (t1 t2 : TG) : TG := fun v σ H Q => ∃ a x xs, v = .ref a ∧ SqL K H a (x :: xs) ∧ xs.length ≤ 9000 ∧ ∀ p, H p = none → t1 x σ (upd H p (.lst xs)) fun σ1 H1 => t2 (.ref p) σ1 H1 Q
theorem pg_hd {X : Cx} {e1 e2 : Expr} {k : Nat} {pos sp : Pos} {t1 t2 : TG} (hc : X.calm = true) (h1 : PG X e1 t1) (h2 : PG X e2 t2)
    (hs : assignEach [e1, .Starred e2 sp] X.env = [(false, assign e1 X.env), (true, assign e2 X.env)] := by rfl) : PG X (.Tuple [e1, .Starred e2 sp] k pos) (gHd X.K t1 t2) := by
  refine ⟨fun pins s σ H v u Q I r h => ?_⟩
  obtain ⟨a, x, xs, rfl, hq, few, h⟩ := h
  obtain rfl : u = Value.ref a := r
  obtain ⟨its, rv, pl, _⟩ := I.list hq
  cases rv with
  | @cons _ y _ ys rx rxs =>
    rw [PyProof.Rows.assign_Tuple]
    refine wpAny_bind (wpAny_standAt ?_)
    unfold unpack
    rw [hs]
    refine wpAny_bind (wpAny_holding (head_rest pl.isList (I.ok.hd hc) (x := y) (xs := ys) rfl (by have := rxs.length; rw [List.size_toArray, List.length_cons]; omega) fun hb tk up => ?_))
    have nD : H hb.objs.size = none := by
      cases e : H hb.objs.size with
      | none => rfl
      | some o => exact absurd ((I.hok.kept up).lt e) (Nat.lt_irrefl _)
    have hD : s.heap.get? hb.objs.size = none := by
      cases e : s.heap.get? hb.objs.size with
      | none => rfl
      | some o => exact absurd (Heap.lt_size (up _ _ e)) (Nat.lt_irrefl _)
    have I1 : Inv X pins σ (upd H hb.objs.size (.lst xs)) { s with heap := hb.push { cls := .type "list", data := .seq ys.toArray }, toks := tk } :=
      I.laidN (fun b o q => Heap.get?_push_of_some _ (up b o q)) hD nD ⟨by rw [sizeLine_eq]; omega, ys, 0, rxs, Heap.get?_push_size _ rfl⟩
    show wpAny _ _ (assignInOrder [assign e1 X.env, assign e2 X.env] [y, .ref hb.objs.size]) _ _ _
    refine assignInOrder_cons (thn (h1.run pins _ σ _ _ _ _ I1 rx (h _ nD)) fun _ s1 ⟨σ1, H1, J, q1⟩ => ?_)
    refine assignInOrder_cons (thn (h2.run pins s1 σ1 H1 (V.ref hb.objs.size) (Value.ref hb.objs.size) _ J rfl q1) fun _ s2 ⟨σ2, H2, J2, q2⟩ => ?_)
    exact wpAny_pure ⟨σ2, H2, J2, q2⟩
/-! enumerate(a list, start=k) -/
theorem draws_from {prog : Program} {w : World} {A : Around} (hh : A.handled = none) (it l : Addr) (nl : l ≠ it) (items : Array Value) (k : Nat) :
    Draws prog w A it [it, l] (k + items.size) (fun i v => ∃ j, i = k + j ∧ items[j]? = some v) (fun i h => ∃ j, i = k + j ∧ h.IsListIter it l j ∧ h.IsList l items) where
  live := fun i h ⟨j, _, st⟩ => (Draws.list (prog := prog) (w := w) hh it l nl items).live j h st
  frame := fun i h h' ⟨j, e, st⟩ kp => ⟨j, e, (Draws.list (prog := prog) (w := w) hh it l nl items).frame j h h' st kp⟩
  item := fun i s Q E hi ⟨j, e, st⟩ q => (Draws.list (prog := prog) (w := w) hh it l nl items).item j s Q E (by omega) st fun v h' tk hp st2 sb => q v h' tk ⟨j, e, hp⟩ ⟨j + 1, by omega, st2⟩ sb
  done := fun s Q E ⟨j, e, st⟩ q => (Draws.list (prog := prog) (w := w) hh it l nl items).done s Q E (by
    have z : j = items.size := by omega
    rw [← z]
    exact st) q
/-- the list at a as it stands at each turn, each item in a new pair with its number from k on -/
def ItS (K : PySem.W.Frag) (a : Addr) (k : Nat) : It where
  go := fun i H => ∃ (xs : List V) (x : V), SqL K H a xs ∧ xs[i]? = some x
  yld := fun i H v H' => ∃ T x, v = .ref T ∧ H T = none ∧ H' = upd H T (.tup [.int ((k + i : Nat) : Int), x]) ∧ ∀ xs, SqL K H a xs → xs[i]? = some x
  stop := fun i H => ∃ xs : List V, SqL K H a xs ∧ i = xs.length
theorem turn_enumS {P : Program} {w : World} {K : PySem.W.Frag} {elts : List Expr} {kk : Nat} {tpos : Pos} (a e it : Addr) (k : Nat) :
    Turn P w K (.Tuple elts kk tpos) (ItS K a k) [e, it] e (fun i h => (∃ old, IsEnum h e it ((k + i : Nat) : Int) old) ∧ h.IsListIter it a i ∧ e ≠ it ∧ a ≠ it ∧ a ≠ e) where
  mem := List.mem_cons_self
  obj := fun i h st b hb => by
    obtain ⟨⟨old, ie⟩, ⟨o, q, _, d⟩, _⟩ := st
    rcases List.mem_cons.mp hb with z | z
    · rw [z]
      exact ⟨_, ie, fun v y => nomatch y⟩
    · rw [List.mem_singleton.mp z]
      exact ⟨o, q, fun v y => by rw [d] at y; cases y⟩
  keep := fun i h h' st kp => by
    obtain ⟨⟨old, ie⟩, ⟨o, q, r⟩, ne⟩ := st
    exact ⟨⟨old, kp e (by simp) _ ie⟩, ⟨o, kp it (by simp) o q, r⟩, ne⟩
  item := by
    intro X e1 e2 e3 hc i pins s σ H E I hf st hg
    subst e1 e2 e3
    obtain ⟨⟨old, ie⟩, ti, ne, ne2, ne3⟩ := st
    obtain ⟨xs, x, hq, hx⟩ := hg
    obtain ⟨its, rv, pl, _⟩ := I.list hq
    obtain ⟨u, hu, ru⟩ := rv.get hx
    have le : e < s.heap.objs.size := Heap.lt_size ie
    have lit : it < s.heap.objs.size := let ⟨_, q, _⟩ := ti; Heap.lt_size q
    have lt : i < its.toArray.size := by
      have := (List.getElem?_eq_some_iff.mp hu).1
      rw [List.size_toArray]
      exact this
    have hh : X.A.in1.handled = none := I.ok.hd hc
    refine wpAny_pyNext_enum_itemD (draws_from hh it a ne2 its.toArray k) ie ⟨i, rfl, ti, pl.isList⟩ (by omega) ne (by
      simp only [List.mem_cons, List.not_mem_nil, or_false, not_or]
      exact ⟨ne, fun z => ne3 z.symm⟩) fun u2 h' tk pu io st2 hT _ hk => ?_
    obtain ⟨j, ej, ti2, _⟩ := st2
    obtain rfl : i + 1 = j := by omega
    obtain rfl : u2 = u := by
      obtain ⟨j2, e2, pu⟩ := pu
      obtain rfl : i = j2 := by omega
      have q : its[i]? = some u2 := by simpa using pu
      rw [hu] at q
      exact (Option.some.inj q).symm
    refine ⟨_, rfl, wpAny_letOwnedTupleGo_enum (s := { s with heap := h', toks := tk + 1 }) io fun h'' ie2 sb => ?_⟩
    have hT2 : h''.get? s.heap.objs.size = some { cls := .type "tuple", data := .seq #[.int ((k + i : Nat) : Int) tk, u2] } := (sb.2 _ (Nat.ne_of_gt le)).trans hT
    have new : ObjOk X.prog X.w (upd H s.heap.objs.size (.tup [.int ((k + i : Nat) : Int), x])) h'' s.heap.objs.size (.tup [.int ((k + i : Nat) : Int), x]) :=
      ⟨by show 2 ≤ sizeLine; decide, [.int ((k + i : Nat) : Int) tk, u2], .cons ⟨_, rfl⟩ (.cons ru .nil), ⟨_, hT2, rfl, _, rfl⟩⟩
    have I1 : Inv X pins σ (upd H s.heap.objs.size (.tup [.int ((k + i : Nat) : Int), x])) { s with heap := h'', toks := tk + 1 } :=
      I.turnedNew (ch := [e, it]) (fun b o nb q => (sb.2 b fun z => nb (by simp [z])).trans (hk b o (fun z => nb (by simp [z])) (fun z => nb (by simp [z])) q)) hf (Nat.le_refl _) new
    refine ⟨.ref s.heap.objs.size, _, I1, rfl, ⟨_, x, rfl, I.hok.fresh (Nat.le_refl _), rfl, fun ys hy => by rw [I.list_inj hy hq]; exact hx⟩, ⟨⟨u2, ?_⟩, ti2.at fun o q => (sb.2 it (Ne.symm ne)).trans q, ne, ne2, ne3⟩, fun b hb => ?_⟩
    · rw [show ((k + (i + 1) : Nat) : Int) = ((k + i : Nat) : Int) + 1 by omega]
      exact ie2
    · have lb : b < s.heap.objs.size := by
        rcases List.mem_cons.mp hb with z | z
        · rw [z]; exact le
        · rw [List.mem_singleton.mp z]; exact lit
      rw [upd_ne (Nat.ne_of_lt lb)]
      exact (hf b hb).1
  done := by
    intro X e1 e2 e3 hc i pins s σ H E I hf st hg
    subst e1 e2 e3
    obtain ⟨⟨old, ie⟩, ti, ne, ne2, ne3⟩ := st
    obtain ⟨xs, hq, hx⟩ := hg
    obtain ⟨its, rv, pl, _⟩ := I.list hq
    obtain ⟨f0, f1, f2, f3, f4, f5⟩ := hf it (by simp)
    have hl := rv.length
    subst hx
    have hh : X.A.in1.handled = none := I.ok.hd hc
    exact wpAny_pyNext_enum_endD (draws_from hh it a ne2 its.toArray k) ie ⟨_, by rw [List.size_toArray, hl], ti, pl.isList⟩ fun h' eb => ⟨rfl, I.turned (t' := s.toks) (fun b o hb q => eb b o hb q) f0 f1 f3 f4 f5⟩
  self := fun A i s Q E st h => by
    obtain ⟨⟨_, ie⟩, _⟩ := st
    exact wpAny_pyIter_enum ie h
theorem type_kw {M : Model} {A : Around} {E : Value → Shared → Prop} {s : Shared} {pos : Pos} {T : String} {args : List (Bool × Sem Value)} {kws : List (Option Str × Sem Value)} {Q : Value → Shared → Prop} (pl : args.any (·.1) = false) (nm : kws.any (·.1.isNone) = false)
    (h : wpAny M A (evalArgs (.type T) true args kws) (fun a t => wpAny M A (call (.type T) a.pos a.kw) Q E t) E s) : wpAny M A (callWith pos (.type T) [] args kws) Q E s := by
  unfold callWith
  refine wpAny_bind (wpAny_holding (wpAny_mono h (fun a t q => wpAny_bind (wpAny_standAt ?_)) fun _ _ z => z))
  simp only [pl, nm, Bool.or_false]
  exact wpAny_bind (wpAny_pure (wpAny_bind (wpAny_mono q (fun r t2 q2 => wpAny_bind (wpAny_holding (wpAny_point (wpAny_pure q2)))) fun _ _ z => z)))
theorem walk_enumS {K : PySem.W.Frag} {a : Addr} {k : Nat} {xs : List V} : Walk (ItS K a k) xs.length (fun H => SqL K H a xs) (YPair (fun i => some (.int ((k + i : Nat) : Int))) (fun i => xs[i]?)) := by
  refine ⟨fun i _ hi q => ⟨xs, xs[i], q, by simp [hi]⟩, fun _ q => ⟨xs, q, rfl⟩, fun i H v H' _ q y => ?_⟩
  obtain ⟨T, x, h1, h2, h3, h4⟩ := y
  exact ⟨T, _, x, h1, h2, h3, rfl, h4 xs q⟩
def iEnumS (K : PySem.W.Frag) (t tk : TA) : TI := fun σ H R => t σ H fun vs H1 => tk σ H1 fun zs H2 => ∃ (a : Addr) (xs : List V) (k : Nat), vs = [.ref a] ∧ zs = [.int (k : Int)] ∧ k < 1000 ∧ SqL K H2 a xs ∧ R (ItS K a k) H2
theorem pi_enumS {X : Cx} {e : Expr} {kws : List Keyword} {t tk : TA} {p pos tpos : Pos} {elts : List Expr} {kk : Nat} (hg : Gl X "enumerate") (hm : X.mg "enumerate" = none) (ha : PA X [e] t) (hk : PK X kws tk)
    (st : backTo pos (starEach [e] X.env) = (false, eval e X.env) :: backTo pos (starEach [] X.env) := by rfl) (pl : (backTo pos (starEach [e] X.env)).any (·.1) = false := by rfl)
    (all : (backToKw pos (keywordEach kws X.env)).all (·.1.isSome) = true := by rfl) (nm : (backToKw pos (keywordEach kws X.env)).any (·.1.isNone) = false := by rfl) (ns : (backToKw pos (keywordEach kws X.env)).filterMap (·.1) = [Str.ofString "start"] := by rfl) :
    PI X (.Tuple elts kk tpos) (.Call (.Name "enumerate" p) [e] kws pos) (iEnumS X.K t tk) := by
  refine ⟨fun pins s σ H R I h => ?_⟩
  refine wpAny_Call_Name_kw (ld_blt I hg hm boot_enumerate (type_kw pl nm ?_))
  rw [st]
  refine evalArgs_kwB all ?_
  rw [← st]
  refine thn (ha.run pos pins s σ H _ I h) fun us s1 ⟨vs, H1, I1, r1, q1⟩ => thn (hk.run pos pins s1 σ H1 _ I1 q1) fun ws s2 ⟨zs, H2, I2, r2, q2⟩ => ?_
  obtain ⟨a, xs, k, rfl, rfl, lk, hq, q⟩ := q2
  rw [ns, Vals.ref1 r1]
  obtain ⟨w1, rfl, tk, rfl⟩ : ∃ w1, ws = [w1] ∧ ∃ tk, w1 = .int (k : Int) tk := by
    cases r2 with
    | cons r rr =>
      cases rr
      obtain ⟨tk, rfl⟩ := r
      exact ⟨_, rfl, _, rfl⟩
  obtain ⟨its, rv, pl2, _⟩ := I2.list hq
  have la : a < s2.heap.objs.size := let ⟨_, q, _⟩ := pl2.isList; Heap.lt_size q
  show wpAny _ _ (call (.type "enumerate") [.ref a] [(Str.ofString "start", .int (k : Int) tk)]) _ _ _
  refine enum_begins_start (begins_list a its.toArray) pl2.isList (by omega) (by omega) fun h' ie ti _ up => wpAny_pyIter_enum ie ?_
  have I3 : Inv X pins σ H2 { s2 with heap := h' } := I2.kept (t' := s2.toks) up
  refine ⟨s2.heap.objs.size + 1, [s2.heap.objs.size + 1, s2.heap.objs.size], _, _, H2, rfl, I3, turn_enumS a (s2.heap.objs.size + 1) s2.heap.objs.size k,
    ⟨⟨.none, ie⟩, ⟨_, ti, rfl, rfl⟩, Nat.succ_ne_self _, Nat.ne_of_lt la, Nat.ne_of_lt (Nat.lt_succ_of_lt la)⟩, fun b hb => ?_, q⟩
  have le : s2.heap.objs.size ≤ b := by
    rcases List.mem_cons.mp hb with z | z
    · rw [z]; exact Nat.le_succ _
    · rw [List.mem_singleton.mp z]; exact Nat.le_refl _
  exact I2.fpOk le (I2.hok.fresh le)
end Q
set_option Elab.async false
set_option linter.all false
set_option maxRecDepth 100000
set_option maxHeartbeats 4000000
namespace Toy
open PySem L2 Q
def topS (i : Nat) : Stmt := PySem.Challenge.pw_quietturns_k63_nets_as_texts.main.body.getD i (.Pass ⟨0, 0, 0, 0⟩)
abbrev s__wall : Stmt := topS 0
abbrev N__wall : List Str := ["k"]
theorem sc__wall : FnScope N__wall ["k"] (defScope s__wall) := ⟨rfl, rfl, rfl, by decide +kernel, rfl, by decide +kernel, by decide +kernel⟩
abbrev s_is_integer : Stmt := topS 9
abbrev N_is_integer : List Str := ["value"]
theorem sc_is_integer : FnScope N_is_integer ["value"] (defScope s_is_integer) := ⟨rfl, rfl, rfl, by decide +kernel, rfl, by decide +kernel, by decide +kernel⟩
abbrev s_is_integer_from : Stmt := topS 10
abbrev N_is_integer_from : List Str := ["value", "least"]
theorem sc_is_integer_from : FnScope N_is_integer_from ["value", "least"] (defScope s_is_integer_from) := ⟨rfl, rfl, rfl, by decide +kernel, rfl, by decide +kernel, by decide +kernel⟩
abbrev s_is_name : Stmt := topS 11
abbrev N_is_name : List Str := ["value", "letter"]
theorem sc_is_name : FnScope N_is_name ["value"] (defScope s_is_name) := ⟨rfl, rfl, rfl, by decide +kernel, rfl, by decide +kernel, by decide +kernel⟩
abbrev s_is_rising : Stmt := topS 12
abbrev N_is_rising : List Str := ["values", "low", "high"]
theorem sc_is_rising : FnScope N_is_rising ["values"] (defScope s_is_rising) := ⟨rfl, rfl, rfl, by decide +kernel, rfl, by decide +kernel, by decide +kernel⟩
abbrev s_number_of : Stmt := topS 15
abbrev N_number_of : List Str := ["word", "digit"]
theorem sc_number_of : FnScope N_number_of ["word"] (defScope s_number_of) := ⟨rfl, rfl, rfl, by decide +kernel, rfl, by decide +kernel, by decide +kernel⟩
abbrev s_need_routers : Stmt := topS 21
abbrev N_need_routers : List Str := ["net", "a", "b"]
theorem sc_need_routers : FnScope N_need_routers ["net", "a", "b"] (defScope s_need_routers) := ⟨rfl, rfl, rfl, by decide +kernel, rfl, by decide +kernel, by decide +kernel⟩
abbrev s_need_router : Stmt := topS 22
abbrev N_need_router : List Str := ["net", "value"]
theorem sc_need_router : FnScope N_need_router ["net", "value"] (defScope s_need_router) := ⟨rfl, rfl, rfl, by decide +kernel, rfl, by decide +kernel, by decide +kernel⟩
abbrev s_is_length : Stmt := topS 23
abbrev N_is_length : List Str := ["value"]
theorem sc_is_length : FnScope N_is_length ["value"] (defScope s_is_length) := ⟨rfl, rfl, rfl, by decide +kernel, rfl, by decide +kernel, by decide +kernel⟩
abbrev s_are_routers : Stmt := topS 24
abbrev N_are_routers : List Str := ["value", "name"]
theorem sc_are_routers : FnScope N_are_routers ["value"] (defScope s_are_routers) := ⟨rfl, rfl, rfl, by decide +kernel, rfl, by decide +kernel, by decide +kernel⟩
abbrev s_are_links : Stmt := topS 25
abbrev N_are_links : List Str := ["value", "routers", "link"]
theorem sc_are_links : FnScope N_are_links ["value", "routers"] (defScope s_are_links) := ⟨rfl, rfl, rfl, by decide +kernel, rfl, by decide +kernel, by decide +kernel⟩
abbrev s_is_link : Stmt := topS 26
abbrev N_is_link : List Str := ["value", "routers", "a", "b", "there", "back"]
theorem sc_is_link : FnScope N_is_link ["value", "routers"] (defScope s_is_link) := ⟨rfl, rfl, rfl, by decide +kernel, rfl, by decide +kernel, by decide +kernel⟩
abbrev s_show_net : Stmt := topS 28
abbrev N_show_net : List Str := ["net", "rows", "a", "b", "there", "back"]
theorem sc_show_net : FnScope N_show_net ["net"] (defScope s_show_net) := ⟨rfl, rfl, rfl, by decide +kernel, rfl, by decide +kernel, by decide +kernel⟩
abbrev s_read_net : Stmt := topS 29
abbrev N_read_net : List Str := ["text", "routers", "links"]
theorem sc_read_net : FnScope N_read_net ["text"] (defScope s_read_net) := ⟨rfl, rfl, rfl, by decide +kernel, rfl, by decide +kernel, by decide +kernel⟩
abbrev s_rows_of : Stmt := topS 30
abbrev N_rows_of : List Str := ["text"]
theorem sc_rows_of : FnScope N_rows_of ["text"] (defScope s_rows_of) := ⟨rfl, rfl, rfl, by decide +kernel, rfl, by decide +kernel, by decide +kernel⟩
abbrev s_net_parts : Stmt := topS 31
abbrev N_net_parts : List Str := ["rows", "routers", "links", "at", "row", "link"]
theorem sc_net_parts : FnScope N_net_parts ["rows"] (defScope s_net_parts) := ⟨rfl, rfl, rfl, by decide +kernel, rfl, by decide +kernel, by decide +kernel⟩
abbrev s_routers_of : Stmt := topS 32
abbrev N_routers_of : List Str := ["row", "word", "names", "name"]
theorem sc_routers_of : FnScope N_routers_of ["row"] (defScope s_routers_of) := ⟨rfl, rfl, rfl, by decide +kernel, rfl, by decide +kernel, by decide +kernel⟩
abbrev s_link_of : Stmt := topS 33
abbrev N_link_of : List Str := ["row", "words", "a", "b", "there", "back"]
theorem sc_link_of : FnScope N_link_of ["row"] (defScope s_link_of) := ⟨rfl, rfl, rfl, by decide +kernel, rfl, by decide +kernel, by decide +kernel⟩
abbrev s_l_pot : Stmt := topS 35
abbrev N_l_pot : List Str := ["_law_script", "_law_k", "_law_cell", "_law_own"]
theorem sc_l_pot : FnScope N_l_pot ["_law_script", "_law_k"] (defScope s_l_pot) := ⟨rfl, rfl, rfl, by decide +kernel, rfl, by decide +kernel, by decide +kernel⟩
abbrev s_l_take : Stmt := topS 36
abbrev N_l_take : List Str := ["_law_pot_here", "_law_upto", "_law_digit", "_law_prime", "_law_stirred"]
theorem sc_l_take : FnScope N_l_take ["_law_pot_here", "_law_upto"] (defScope s_l_take) := ⟨rfl, rfl, rfl, by decide +kernel, rfl, by decide +kernel, by decide +kernel⟩
abbrev s_l_pots : Stmt := topS 37
abbrev N_l_pots : List Str := ["_law_script", "_law_most", "_law_k"]
theorem sc_l_pots : FnScope N_l_pots ["_law_script", "_law_most"] (defScope s_l_pots) := ⟨rfl, rfl, rfl, by decide +kernel, rfl, by decide +kernel, by decide +kernel⟩
abbrev s_l_of : Stmt := topS 38
abbrev N_l_of : List Str := ["_law_pot_here", "_law_some"]
theorem sc_l_of : FnScope N_l_of ["_law_pot_here", "_law_some"] (defScope s_l_of) := ⟨rfl, rfl, rfl, by decide +kernel, rfl, by decide +kernel, by decide +kernel⟩
abbrev s_l_turned : Stmt := topS 39
abbrev N_l_turned : List Str := ["_law_pot_here", "_law_some", "_law_at", "_law_row"]
theorem sc_l_turned : FnScope N_l_turned ["_law_pot_here", "_law_some"] (defScope s_l_turned) := ⟨rfl, rfl, rfl, by decide +kernel, rfl, by decide +kernel, by decide +kernel⟩
abbrev s_l_names : Stmt := topS 40
abbrev N_l_names : List Str := ["_law_pot_here", "_law_many", "_law_small", "_law_stem", "_law_turn", "_law_spot", "_law_at", "_law_found", "_law_k"]
theorem sc_l_names : FnScope N_l_names ["_law_pot_here", "_law_many"] (defScope s_l_names) := ⟨rfl, rfl, rfl, by decide +kernel, rfl, by decide +kernel, by decide +kernel⟩
abbrev s_l_far : Stmt := topS 41
abbrev N_l_far : List Str := ["_law_pot_here"]
theorem sc_l_far : FnScope N_l_far ["_law_pot_here"] (defScope s_l_far) := ⟨rfl, rfl, rfl, by decide +kernel, rfl, by decide +kernel, by decide +kernel⟩
abbrev s_l_pairs : Stmt := topS 42
abbrev N_l_pairs : List Str := ["_law_pot_here", "_law_routers", "_law_many", "_law_order", "_law_found", "_law_is_joined", "_law_at", "_law_other", "_law_rest", "_law_a", "_law_b"]
theorem sc_l_pairs : FnScope N_l_pairs ["_law_pot_here", "_law_routers", "_law_many"] (defScope s_l_pairs) := ⟨rfl, rfl, rfl, by decide +kernel, rfl, by decide +kernel, by decide +kernel⟩
abbrev s_l_world : Stmt := topS 43
abbrev N_l_world : List Str := ["_law_pot_here", "_law_least", "_law_most", "_law_more", "_law_many", "_law_routers", "_law_pairs_here", "_law_links", "_law_is_even", "_law_a", "_law_b", "_law_there"]
theorem sc_l_world : FnScope N_l_world ["_law_pot_here", "_law_least", "_law_most", "_law_more"] (defScope s_l_world) := ⟨rfl, rfl, rfl, by decide +kernel, rfl, by decide +kernel, by decide +kernel⟩
abbrev s_l_made : Stmt := topS 44
abbrev N_l_made : List Str := ["_law_world_here"]
theorem sc_l_made : FnScope N_l_made ["_law_world_here"] (defScope s_l_made) := ⟨rfl, rfl, rfl, by decide +kernel, rfl, by decide +kernel, by decide +kernel⟩
abbrev s_l_net_page : Stmt := topS 45
abbrev N_l_net_page : List Str := ["_law_world_here", "_law_rows", "_law_a", "_law_b", "_law_there", "_law_back"]
theorem sc_l_net_page : FnScope N_l_net_page ["_law_world_here"] (defScope s_l_net_page) := ⟨rfl, rfl, rfl, by decide +kernel, rfl, by decide +kernel, by decide +kernel⟩
abbrev s_l_fine : Stmt := topS 46
abbrev N_l_fine : List Str := ["_law_pot_here", "_law_world_here", "_law_far_here", "_law_a", "_law_b", "_law_there", "_law_back", "_law_net", "_law_page", "_law_read"]
theorem sc_l_fine : FnScope N_l_fine ["_law_pot_here"] (defScope s_l_fine) := ⟨rfl, rfl, rfl, by decide +kernel, rfl, by decide +kernel, by decide +kernel⟩
abbrev s_law : Stmt := topS 47
abbrev N_law : List Str := ["_law_script", "_law_pot_here", "_law_turn"]
theorem sc_law : FnScope N_law ["_law_script"] (defScope s_law) := ⟨rfl, rfl, rfl, by decide +kernel, rfl, by decide +kernel, by decide +kernel⟩
abbrev s_m_init : Stmt := inClass (topS 20) 0
abbrev N_m_init : List Str := ["self", "routers", "links"]
theorem sc_m_init : FnScope N_m_init ["self", "routers", "links"] (defScope s_m_init) := ⟨rfl, rfl, rfl, by decide +kernel, rfl, by decide +kernel, by decide +kernel⟩
abbrev s_m_routers : Stmt := inClass (topS 20) 1
abbrev N_m_routers : List Str := ["self"]
theorem sc_m_routers : FnScope N_m_routers ["self"] (defScope s_m_routers) := ⟨rfl, rfl, rfl, by decide +kernel, rfl, by decide +kernel, by decide +kernel⟩
abbrev s_m_links : Stmt := inClass (topS 20) 2
abbrev N_m_links : List Str := ["self"]
theorem sc_m_links : FnScope N_m_links ["self"] (defScope s_m_links) := ⟨rfl, rfl, rfl, by decide +kernel, rfl, by decide +kernel, by decide +kernel⟩
abbrev s_m_u_eq_ : Stmt := inClass (topS 20) 3
abbrev N_m_u_eq_ : List Str := ["self", "other"]
theorem sc_m_u_eq_ : FnScope N_m_u_eq_ ["self", "other"] (defScope s_m_u_eq_) := ⟨rfl, rfl, rfl, by decide +kernel, rfl, by decide +kernel, by decide +kernel⟩
abbrev s_m_length : Stmt := inClass (topS 20) 4
abbrev N_m_length : List Str := ["self", "a", "b", "low", "high", "there", "back"]
theorem sc_m_length : FnScope N_m_length ["self", "a", "b"] (defScope s_m_length) := ⟨rfl, rfl, rfl, by decide +kernel, rfl, by decide +kernel, by decide +kernel⟩
abbrev s_m_with_link : Stmt := inClass (topS 20) 5
abbrev N_m_with_link : List Str := ["self", "a", "b", "there", "back"]
theorem sc_m_with_link : FnScope N_m_with_link ["self", "a", "b", "there", "back"] (defScope s_m_with_link) := ⟨rfl, rfl, rfl, by decide +kernel, rfl, by decide +kernel, by decide +kernel⟩
abbrev s_m_without : Stmt := inClass (topS 20) 6
abbrev N_m_without : List Str := ["self", "a", "b", "others"]
theorem sc_m_without : FnScope N_m_without ["self", "a", "b"] (defScope s_m_without) := ⟨rfl, rfl, rfl, by decide +kernel, rfl, by decide +kernel, by decide +kernel⟩
abbrev s_m_u_links_without : Stmt := inClass (topS 20) 7
abbrev N_m_u_links_without : List Str := ["self", "a", "b", "link"]
theorem sc_m_u_links_without : FnScope N_m_u_links_without ["self", "a", "b"] (defScope s_m_u_links_without) := ⟨rfl, rfl, rfl, by decide +kernel, rfl, by decide +kernel, by decide +kernel⟩

/-- what the written part says of NetError -/
structure ErrN (K : PySem.W.Frag) (mg : Str → Option Value) (C : Addr) : Prop where
  g : mg "NetError" = some (.ref C)
  xL : ∃ nm q N bs sn sub ab col dd k0 k1 k2 k3 k5, K.lookup C = some (excClassObj nm q C N bs PySem.HandSPX.veTail true sn sub ab col dd k0 k1 k2 k3 k5 "ValueError.__new__")
/-- .. and of a class below it -/
structure ErrC (K : PySem.W.Frag) (mg : Str → Option Value) (nm : Str) (C Cn : Addr) : Prop where
  g : mg nm = some (.ref C)
  xL : ∃ nm q N bs sn sub ab col dd k0 k1 k2 k3 k5, K.lookup C = some (excClassObj nm q C N bs (.ref Cn :: PySem.HandSPX.veTail) true sn sub ab col dd k0 k1 k2 k3 k5 "ValueError.__new__")
  sa : PySem.W.findIn K (.ref C) "__setattr__" = some (some (.builtin "object.__setattr__"))
  ga : PySem.W.findIn K (.ref C) "__getattribute__" = some (some (.builtin "BaseException.__getattribute__"))
  gg : PySem.W.findIn K (.ref C) "__getattr__" = some none
  hc : PySem.W.findIn K (.ref C) "__class__" = some (some (.builtin "object.__class__"))
  kC : PySem.W.keepIn K (.ref C) = true
structure Txt (K : PySem.W.Frag) (mg : Str → Option Value) (ca ia fa : Nat → Addr) (fd fi : Nat → FuncData) : Prop where
  n_abs : mg "abs" = none
  n_all : mg "all" = none
  n_any : mg "any" = none
  n_bool : mg "bool" = none
  n_enumerate : mg "enumerate" = none
  n_int : mg "int" = none
  n_isinstance : mg "isinstance" = none
  n_len : mg "len" = none
  n_list : mg "list" = none
  n_max : mg "max" = none
  n_min : mg "min" = none
  n_range : mg "range" = none
  n_repr : mg "repr" = none
  n_set : mg "set" = none
  n_sorted : mg "sorted" = none
  n_str : mg "str" = none
  n_tuple : mg "tuple" = none
  n_zip : mg "zip" = none
  v_LONGEST_NAME : ∃ t, mg "LONGEST_NAME" = some (.int 8 t)
  v_MOST_DIGITS : ∃ t, mg "MOST_DIGITS" = some (.int 9 t)
  v_FEWEST_ROUTERS : ∃ t, mg "FEWEST_ROUTERS" = some (.int 2 t)
  v_MOST_ROUTERS : ∃ t, mg "MOST_ROUTERS" = some (.int 8 t)
  v_MOST_LINKS : ∃ t, mg "MOST_LINKS" = some (.int 16 t)
  hn : PySem.W.specialIn K (.builtin "object.__class__") "__get__" = some (some (.builtin "getset_descriptor.__get__"))
  ht : PySem.W.takesIn K (.builtin "object.__class__") = some true
  cN : ErrN K mg (ca 2)
  c_BadNet : ErrC K mg "BadNet" (ca 3) (ca 2)
  FI_BadNet : Fun K "__init__" "BadNet.__init__" (inClass (topS 3) 0) (ia 3) (fi 3)
  iC_BadNet : PySem.W.findIn K (.ref (ca 3)) "__init__" = some (some (.ref (ia 3)))
  tI_BadNet : PySem.W.typeIn K (.ref (ia 3)) = some (.type "function")
  no_BadNet_value : PySem.W.findIn K (.ref (ca 3)) "value" = some none
  c_NoRouter : ErrC K mg "NoRouter" (ca 4) (ca 2)
  FI_NoRouter : Fun K "__init__" "NoRouter.__init__" (inClass (topS 4) 0) (ia 4) (fi 4)
  iC_NoRouter : PySem.W.findIn K (.ref (ca 4)) "__init__" = some (some (.ref (ia 4)))
  tI_NoRouter : PySem.W.typeIn K (.ref (ia 4)) = some (.type "function")
  no_NoRouter_value : PySem.W.findIn K (.ref (ca 4)) "value" = some none
  c_NoLink : ErrC K mg "NoLink" (ca 5) (ca 2)
  FI_NoLink : Fun K "__init__" "NoLink.__init__" (inClass (topS 5) 0) (ia 5) (fi 5)
  iC_NoLink : PySem.W.findIn K (.ref (ca 5)) "__init__" = some (some (.ref (ia 5)))
  tI_NoLink : PySem.W.typeIn K (.ref (ia 5)) = some (.type "function")
  no_NoLink_value : PySem.W.findIn K (.ref (ca 5)) "value" = some none
  c_BadText : ErrC K mg "BadText" (ca 6) (ca 2)
  FI_BadText : Fun K "__init__" "BadText.__init__" (inClass (topS 6) 0) (ia 6) (fi 6)
  iC_BadText : PySem.W.findIn K (.ref (ca 6)) "__init__" = some (some (.ref (ia 6)))
  tI_BadText : PySem.W.typeIn K (.ref (ia 6)) = some (.type "function")
  no_BadText_value : PySem.W.findIn K (.ref (ca 6)) "value" = some none
  g_Net : mg "Net" = some (.ref (ca 20))
  nd : ([ca 2, ca 3, ca 4, ca 5, ca 6] : List Addr).Nodup
  cl_Net : Cls K (ca 20)
  M_Net : Mk K (ca 20) (ia 100)
  no_Net_routers : NoAttr K (ca 20) "_routers"
  no_Net_links : NoAttr K (ca 20) "_links"
  F_m_init : Fun K "__init__" "Net.__init__" s_m_init (ia 100) (fi 100)
  F_m_routers : Fun K "routers" "Net.routers" s_m_routers (ia 101) (fi 101)
  P_routers : ∃ pa, PropOf K (ca 20) "routers" pa (ia 101)
  F_m_links : Fun K "links" "Net.links" s_m_links (ia 102) (fi 102)
  P_links : ∃ pa, PropOf K (ca 20) "links" pa (ia 102)
  F_m_u_eq_ : Fun K "__eq__" "Net.__eq__" s_m_u_eq_ (ia 103) (fi 103)
  E_Net : PySem.W.findIn K (.ref (ca 20)) "__eq__" = some (some (.ref (ia 103))) ∧ PySem.W.isFn K (.ref (ia 103)) = true
  N_Net : PySem.W.findIn K (.ref (ca 20)) "__ne__" = some (some (.builtin "object.__ne__"))
  O_Net : PySem.W.mroIn K (ca 20) (.type "object") = some true
  H_Net : PySem.W.findIn K (.ref (ca 20)) "__class__" = some (some (.builtin "object.__class__"))
  I_Net : PySem.W.typeIn K (.ref (ca 20)) = some (.type "type")
  F_m_length : Fun K "length" "Net.length" s_m_length (ia 104) (fi 104)
  Me_m_length : Meth K (ca 20) "length" (ia 104)
  F_m_with_link : Fun K "with_link" "Net.with_link" s_m_with_link (ia 105) (fi 105)
  F_m_without : Fun K "without" "Net.without" s_m_without (ia 106) (fi 106)
  Me_m_without : Meth K (ca 20) "without" (ia 106)
  F_m_u_links_without : Fun K "_links_without" "Net._links_without" s_m_u_links_without (ia 107) (fi 107)
  Me_m_u_links_without : Meth K (ca 20) "_links_without" (ia 107)
  F__wall : Fun K "_wall" "_wall" s__wall (fa 0) (fd 0)
  g__wall : mg "_wall" = some (.ref (fa 0))
  F_is_integer : Fun K "is_integer" "is_integer" s_is_integer (fa 9) (fd 9)
  g_is_integer : mg "is_integer" = some (.ref (fa 9))
  F_is_integer_from : Fun K "is_integer_from" "is_integer_from" s_is_integer_from (fa 10) (fd 10)
  g_is_integer_from : mg "is_integer_from" = some (.ref (fa 10))
  F_is_name : Fun K "is_name" "is_name" s_is_name (fa 11) (fd 11)
  g_is_name : mg "is_name" = some (.ref (fa 11))
  F_is_rising : Fun K "is_rising" "is_rising" s_is_rising (fa 12) (fd 12)
  g_is_rising : mg "is_rising" = some (.ref (fa 12))
  F_number_of : Fun K "number_of" "number_of" s_number_of (fa 15) (fd 15)
  g_number_of : mg "number_of" = some (.ref (fa 15))
  F_need_routers : Fun K "need_routers" "need_routers" s_need_routers (fa 21) (fd 21)
  g_need_routers : mg "need_routers" = some (.ref (fa 21))
  F_need_router : Fun K "need_router" "need_router" s_need_router (fa 22) (fd 22)
  g_need_router : mg "need_router" = some (.ref (fa 22))
  F_is_length : Fun K "is_length" "is_length" s_is_length (fa 23) (fd 23)
  g_is_length : mg "is_length" = some (.ref (fa 23))
  F_are_routers : Fun K "are_routers" "are_routers" s_are_routers (fa 24) (fd 24)
  g_are_routers : mg "are_routers" = some (.ref (fa 24))
  F_are_links : Fun K "are_links" "are_links" s_are_links (fa 25) (fd 25)
  g_are_links : mg "are_links" = some (.ref (fa 25))
  F_is_link : Fun K "is_link" "is_link" s_is_link (fa 26) (fd 26)
  g_is_link : mg "is_link" = some (.ref (fa 26))
  F_show_net : Fun K "show_net" "show_net" s_show_net (fa 28) (fd 28)
  g_show_net : mg "show_net" = some (.ref (fa 28))
  F_read_net : Fun K "read_net" "read_net" s_read_net (fa 29) (fd 29)
  g_read_net : mg "read_net" = some (.ref (fa 29))
  F_rows_of : Fun K "rows_of" "rows_of" s_rows_of (fa 30) (fd 30)
  g_rows_of : mg "rows_of" = some (.ref (fa 30))
  F_net_parts : Fun K "net_parts" "net_parts" s_net_parts (fa 31) (fd 31)
  g_net_parts : mg "net_parts" = some (.ref (fa 31))
  F_routers_of : Fun K "routers_of" "routers_of" s_routers_of (fa 32) (fd 32)
  g_routers_of : mg "routers_of" = some (.ref (fa 32))
  F_link_of : Fun K "link_of" "link_of" s_link_of (fa 33) (fd 33)
  g_link_of : mg "link_of" = some (.ref (fa 33))
  F_l_pot : Fun K "_law_pot" "_law_pot" s_l_pot (fa 35) (fd 35)
  g_l_pot : mg "_law_pot" = some (.ref (fa 35))
  F_l_take : Fun K "_law_take" "_law_take" s_l_take (fa 36) (fd 36)
  g_l_take : mg "_law_take" = some (.ref (fa 36))
  F_l_pots : Fun K "_law_pots" "_law_pots" s_l_pots (fa 37) (fd 37)
  g_l_pots : mg "_law_pots" = some (.ref (fa 37))
  F_l_of : Fun K "_law_of" "_law_of" s_l_of (fa 38) (fd 38)
  g_l_of : mg "_law_of" = some (.ref (fa 38))
  F_l_turned : Fun K "_law_turned" "_law_turned" s_l_turned (fa 39) (fd 39)
  g_l_turned : mg "_law_turned" = some (.ref (fa 39))
  F_l_names : Fun K "_law_names" "_law_names" s_l_names (fa 40) (fd 40)
  g_l_names : mg "_law_names" = some (.ref (fa 40))
  F_l_far : Fun K "_law_far" "_law_far" s_l_far (fa 41) (fd 41)
  g_l_far : mg "_law_far" = some (.ref (fa 41))
  F_l_pairs : Fun K "_law_pairs" "_law_pairs" s_l_pairs (fa 42) (fd 42)
  g_l_pairs : mg "_law_pairs" = some (.ref (fa 42))
  F_l_world : Fun K "_law_world" "_law_world" s_l_world (fa 43) (fd 43)
  g_l_world : mg "_law_world" = some (.ref (fa 43))
  F_l_made : Fun K "_law_made" "_law_made" s_l_made (fa 44) (fd 44)
  g_l_made : mg "_law_made" = some (.ref (fa 44))
  F_l_net_page : Fun K "_law_net_page" "_law_net_page" s_l_net_page (fa 45) (fd 45)
  g_l_net_page : mg "_law_net_page" = some (.ref (fa 45))
  F_l_fine : Fun K "_law_fine" "_law_fine" s_l_fine (fa 46) (fd 46)
  g_l_fine : mg "_law_fine" = some (.ref (fa 46))
  F_law : Fun K "law" "law" s_law (fa 47) (fd 47)
  g_law : mg "law" = some (.ref (fa 47))
section
variable {P : Program} {w : World} {K : PySem.W.Frag} {mg : Str → Option Value} {base : Heap} {ca ia fa : Nat → Addr} {fd fi : Nat → FuncData}
theorem Txt.k__wall (T : Txt K mg ca ia fa fd fi) : PySem.W.keepIn K (.ref (fa 0)) = true := T.F__wall.kp
theorem Txt.b__wall (T : Txt K mg ca ia fa fd fi) : Binds K (fd 0) ["k"] [] :=
  T.F__wall.binds (ps := ["k"]) fun _ _ _ _ _ _ us hl => match us, hl with | [_], _ => rfl
theorem Txt.k_is_integer (T : Txt K mg ca ia fa fd fi) : PySem.W.keepIn K (.ref (fa 9)) = true := T.F_is_integer.kp
theorem Txt.b_is_integer (T : Txt K mg ca ia fa fd fi) : Binds K (fd 9) ["value"] [] :=
  T.F_is_integer.binds (ps := ["value"]) fun _ _ _ _ _ _ us hl => match us, hl with | [_], _ => rfl
theorem Txt.k_is_integer_from (T : Txt K mg ca ia fa fd fi) : PySem.W.keepIn K (.ref (fa 10)) = true := T.F_is_integer_from.kp
theorem Txt.b_is_integer_from (T : Txt K mg ca ia fa fd fi) : Binds K (fd 10) ["value", "least"] [] :=
  T.F_is_integer_from.binds (ps := ["value", "least"]) fun _ _ _ _ _ _ us hl => match us, hl with | [_, _], _ => rfl
theorem Txt.k_is_name (T : Txt K mg ca ia fa fd fi) : PySem.W.keepIn K (.ref (fa 11)) = true := T.F_is_name.kp
theorem Txt.b_is_name (T : Txt K mg ca ia fa fd fi) : Binds K (fd 11) ["value"] [] :=
  T.F_is_name.binds (ps := ["value"]) fun _ _ _ _ _ _ us hl => match us, hl with | [_], _ => rfl
theorem Txt.k_is_rising (T : Txt K mg ca ia fa fd fi) : PySem.W.keepIn K (.ref (fa 12)) = true := T.F_is_rising.kp
theorem Txt.b_is_rising (T : Txt K mg ca ia fa fd fi) : Binds K (fd 12) ["values"] [] :=
  T.F_is_rising.binds (ps := ["values"]) fun _ _ _ _ _ _ us hl => match us, hl with | [_], _ => rfl
theorem Txt.k_number_of (T : Txt K mg ca ia fa fd fi) : PySem.W.keepIn K (.ref (fa 15)) = true := T.F_number_of.kp
theorem Txt.b_number_of (T : Txt K mg ca ia fa fd fi) : Binds K (fd 15) ["word"] [] :=
  T.F_number_of.binds (ps := ["word"]) fun _ _ _ _ _ _ us hl => match us, hl with | [_], _ => rfl
theorem Txt.k_need_routers (T : Txt K mg ca ia fa fd fi) : PySem.W.keepIn K (.ref (fa 21)) = true := T.F_need_routers.kp
theorem Txt.b_need_routers (T : Txt K mg ca ia fa fd fi) : Binds K (fd 21) ["net", "a", "b"] [] :=
  T.F_need_routers.binds (ps := ["net", "a", "b"]) fun _ _ _ _ _ _ us hl => match us, hl with | [_, _, _], _ => rfl
theorem Txt.k_need_router (T : Txt K mg ca ia fa fd fi) : PySem.W.keepIn K (.ref (fa 22)) = true := T.F_need_router.kp
theorem Txt.b_need_router (T : Txt K mg ca ia fa fd fi) : Binds K (fd 22) ["net", "value"] [] :=
  T.F_need_router.binds (ps := ["net", "value"]) fun _ _ _ _ _ _ us hl => match us, hl with | [_, _], _ => rfl
theorem Txt.k_is_length (T : Txt K mg ca ia fa fd fi) : PySem.W.keepIn K (.ref (fa 23)) = true := T.F_is_length.kp
theorem Txt.b_is_length (T : Txt K mg ca ia fa fd fi) : Binds K (fd 23) ["value"] [] :=
  T.F_is_length.binds (ps := ["value"]) fun _ _ _ _ _ _ us hl => match us, hl with | [_], _ => rfl
theorem Txt.k_are_routers (T : Txt K mg ca ia fa fd fi) : PySem.W.keepIn K (.ref (fa 24)) = true := T.F_are_routers.kp
theorem Txt.b_are_routers (T : Txt K mg ca ia fa fd fi) : Binds K (fd 24) ["value"] [] :=
  T.F_are_routers.binds (ps := ["value"]) fun _ _ _ _ _ _ us hl => match us, hl with | [_], _ => rfl
theorem Txt.k_are_links (T : Txt K mg ca ia fa fd fi) : PySem.W.keepIn K (.ref (fa 25)) = true := T.F_are_links.kp
theorem Txt.b_are_links (T : Txt K mg ca ia fa fd fi) : Binds K (fd 25) ["value", "routers"] [] :=
  T.F_are_links.binds (ps := ["value", "routers"]) fun _ _ _ _ _ _ us hl => match us, hl with | [_, _], _ => rfl
theorem Txt.k_is_link (T : Txt K mg ca ia fa fd fi) : PySem.W.keepIn K (.ref (fa 26)) = true := T.F_is_link.kp
theorem Txt.b_is_link (T : Txt K mg ca ia fa fd fi) : Binds K (fd 26) ["value", "routers"] [] :=
  T.F_is_link.binds (ps := ["value", "routers"]) fun _ _ _ _ _ _ us hl => match us, hl with | [_, _], _ => rfl
theorem Txt.k_show_net (T : Txt K mg ca ia fa fd fi) : PySem.W.keepIn K (.ref (fa 28)) = true := T.F_show_net.kp
theorem Txt.b_show_net (T : Txt K mg ca ia fa fd fi) : Binds K (fd 28) ["net"] [] :=
  T.F_show_net.binds (ps := ["net"]) fun _ _ _ _ _ _ us hl => match us, hl with | [_], _ => rfl
theorem Txt.k_read_net (T : Txt K mg ca ia fa fd fi) : PySem.W.keepIn K (.ref (fa 29)) = true := T.F_read_net.kp
theorem Txt.b_read_net (T : Txt K mg ca ia fa fd fi) : Binds K (fd 29) ["text"] [] :=
  T.F_read_net.binds (ps := ["text"]) fun _ _ _ _ _ _ us hl => match us, hl with | [_], _ => rfl
theorem Txt.k_rows_of (T : Txt K mg ca ia fa fd fi) : PySem.W.keepIn K (.ref (fa 30)) = true := T.F_rows_of.kp
theorem Txt.b_rows_of (T : Txt K mg ca ia fa fd fi) : Binds K (fd 30) ["text"] [] :=
  T.F_rows_of.binds (ps := ["text"]) fun _ _ _ _ _ _ us hl => match us, hl with | [_], _ => rfl
theorem Txt.k_net_parts (T : Txt K mg ca ia fa fd fi) : PySem.W.keepIn K (.ref (fa 31)) = true := T.F_net_parts.kp
theorem Txt.b_net_parts (T : Txt K mg ca ia fa fd fi) : Binds K (fd 31) ["rows"] [] :=
  T.F_net_parts.binds (ps := ["rows"]) fun _ _ _ _ _ _ us hl => match us, hl with | [_], _ => rfl
theorem Txt.k_routers_of (T : Txt K mg ca ia fa fd fi) : PySem.W.keepIn K (.ref (fa 32)) = true := T.F_routers_of.kp
theorem Txt.b_routers_of (T : Txt K mg ca ia fa fd fi) : Binds K (fd 32) ["row"] [] :=
  T.F_routers_of.binds (ps := ["row"]) fun _ _ _ _ _ _ us hl => match us, hl with | [_], _ => rfl
theorem Txt.k_link_of (T : Txt K mg ca ia fa fd fi) : PySem.W.keepIn K (.ref (fa 33)) = true := T.F_link_of.kp
theorem Txt.b_link_of (T : Txt K mg ca ia fa fd fi) : Binds K (fd 33) ["row"] [] :=
  T.F_link_of.binds (ps := ["row"]) fun _ _ _ _ _ _ us hl => match us, hl with | [_], _ => rfl
theorem Txt.k_l_pot (T : Txt K mg ca ia fa fd fi) : PySem.W.keepIn K (.ref (fa 35)) = true := T.F_l_pot.kp
theorem Txt.b_l_pot (T : Txt K mg ca ia fa fd fi) : Binds K (fd 35) ["_law_script", "_law_k"] [] :=
  T.F_l_pot.binds (ps := ["_law_script", "_law_k"]) fun _ _ _ _ _ _ us hl => match us, hl with | [_, _], _ => rfl
theorem Txt.k_l_take (T : Txt K mg ca ia fa fd fi) : PySem.W.keepIn K (.ref (fa 36)) = true := T.F_l_take.kp
theorem Txt.b_l_take (T : Txt K mg ca ia fa fd fi) : Binds K (fd 36) ["_law_pot_here", "_law_upto"] [] :=
  T.F_l_take.binds (ps := ["_law_pot_here", "_law_upto"]) fun _ _ _ _ _ _ us hl => match us, hl with | [_, _], _ => rfl
theorem Txt.k_l_pots (T : Txt K mg ca ia fa fd fi) : PySem.W.keepIn K (.ref (fa 37)) = true := T.F_l_pots.kp
theorem Txt.b_l_pots (T : Txt K mg ca ia fa fd fi) : Binds K (fd 37) ["_law_script", "_law_most"] [] :=
  T.F_l_pots.binds (ps := ["_law_script", "_law_most"]) fun _ _ _ _ _ _ us hl => match us, hl with | [_, _], _ => rfl
theorem Txt.k_l_of (T : Txt K mg ca ia fa fd fi) : PySem.W.keepIn K (.ref (fa 38)) = true := T.F_l_of.kp
theorem Txt.b_l_of (T : Txt K mg ca ia fa fd fi) : Binds K (fd 38) ["_law_pot_here", "_law_some"] [] :=
  T.F_l_of.binds (ps := ["_law_pot_here", "_law_some"]) fun _ _ _ _ _ _ us hl => match us, hl with | [_, _], _ => rfl
theorem Txt.k_l_turned (T : Txt K mg ca ia fa fd fi) : PySem.W.keepIn K (.ref (fa 39)) = true := T.F_l_turned.kp
theorem Txt.b_l_turned (T : Txt K mg ca ia fa fd fi) : Binds K (fd 39) ["_law_pot_here", "_law_some"] [] :=
  T.F_l_turned.binds (ps := ["_law_pot_here", "_law_some"]) fun _ _ _ _ _ _ us hl => match us, hl with | [_, _], _ => rfl
theorem Txt.k_l_names (T : Txt K mg ca ia fa fd fi) : PySem.W.keepIn K (.ref (fa 40)) = true := T.F_l_names.kp
theorem Txt.b_l_names (T : Txt K mg ca ia fa fd fi) : Binds K (fd 40) ["_law_pot_here", "_law_many"] [] :=
  T.F_l_names.binds (ps := ["_law_pot_here", "_law_many"]) fun _ _ _ _ _ _ us hl => match us, hl with | [_, _], _ => rfl
theorem Txt.k_l_far (T : Txt K mg ca ia fa fd fi) : PySem.W.keepIn K (.ref (fa 41)) = true := T.F_l_far.kp
theorem Txt.b_l_far (T : Txt K mg ca ia fa fd fi) : Binds K (fd 41) ["_law_pot_here"] [] :=
  T.F_l_far.binds (ps := ["_law_pot_here"]) fun _ _ _ _ _ _ us hl => match us, hl with | [_], _ => rfl
theorem Txt.k_l_pairs (T : Txt K mg ca ia fa fd fi) : PySem.W.keepIn K (.ref (fa 42)) = true := T.F_l_pairs.kp
theorem Txt.b_l_pairs (T : Txt K mg ca ia fa fd fi) : Binds K (fd 42) ["_law_pot_here", "_law_routers", "_law_many"] [] :=
  T.F_l_pairs.binds (ps := ["_law_pot_here", "_law_routers", "_law_many"]) fun _ _ _ _ _ _ us hl => match us, hl with | [_, _, _], _ => rfl
theorem Txt.k_l_world (T : Txt K mg ca ia fa fd fi) : PySem.W.keepIn K (.ref (fa 43)) = true := T.F_l_world.kp
theorem Txt.b_l_world (T : Txt K mg ca ia fa fd fi) : Binds K (fd 43) ["_law_pot_here", "_law_least", "_law_most", "_law_more"] [] :=
  T.F_l_world.binds (ps := ["_law_pot_here", "_law_least", "_law_most", "_law_more"]) fun _ _ _ _ _ _ us hl => match us, hl with | [_, _, _, _], _ => rfl
theorem Txt.k_l_made (T : Txt K mg ca ia fa fd fi) : PySem.W.keepIn K (.ref (fa 44)) = true := T.F_l_made.kp
theorem Txt.b_l_made (T : Txt K mg ca ia fa fd fi) : Binds K (fd 44) ["_law_world_here"] [] :=
  T.F_l_made.binds (ps := ["_law_world_here"]) fun _ _ _ _ _ _ us hl => match us, hl with | [_], _ => rfl
theorem Txt.k_l_net_page (T : Txt K mg ca ia fa fd fi) : PySem.W.keepIn K (.ref (fa 45)) = true := T.F_l_net_page.kp
theorem Txt.b_l_net_page (T : Txt K mg ca ia fa fd fi) : Binds K (fd 45) ["_law_world_here"] [] :=
  T.F_l_net_page.binds (ps := ["_law_world_here"]) fun _ _ _ _ _ _ us hl => match us, hl with | [_], _ => rfl
theorem Txt.k_l_fine (T : Txt K mg ca ia fa fd fi) : PySem.W.keepIn K (.ref (fa 46)) = true := T.F_l_fine.kp
theorem Txt.b_l_fine (T : Txt K mg ca ia fa fd fi) : Binds K (fd 46) ["_law_pot_here"] [] :=
  T.F_l_fine.binds (ps := ["_law_pot_here"]) fun _ _ _ _ _ _ us hl => match us, hl with | [_], _ => rfl
theorem Txt.k_law (T : Txt K mg ca ia fa fd fi) : PySem.W.keepIn K (.ref (fa 47)) = true := T.F_law.kp
theorem Txt.b_law (T : Txt K mg ca ia fa fd fi) : Binds K (fd 47) ["_law_script"] [] :=
  T.F_law.binds (ps := ["_law_script"]) fun _ _ _ _ _ _ us hl => match us, hl with | [_], _ => rfl
theorem Txt.b_m_init (T : Txt K mg ca ia fa fd fi) : Binds K (fi 100) ["self", "routers", "links"] [] :=
  T.F_m_init.binds (ps := ["self", "routers", "links"]) fun _ _ _ _ _ _ us hl => match us, hl with | [_, _, _], _ => rfl
theorem Txt.b_m_routers (T : Txt K mg ca ia fa fd fi) : Binds K (fi 101) ["self"] [] :=
  T.F_m_routers.binds (ps := ["self"]) fun _ _ _ _ _ _ us hl => match us, hl with | [_], _ => rfl
theorem Txt.b_m_links (T : Txt K mg ca ia fa fd fi) : Binds K (fi 102) ["self"] [] :=
  T.F_m_links.binds (ps := ["self"]) fun _ _ _ _ _ _ us hl => match us, hl with | [_], _ => rfl
theorem Txt.b_m_u_eq_ (T : Txt K mg ca ia fa fd fi) : Binds K (fi 103) ["self", "other"] [] :=
  T.F_m_u_eq_.binds (ps := ["self", "other"]) fun _ _ _ _ _ _ us hl => match us, hl with | [_, _], _ => rfl
theorem Txt.b_m_length (T : Txt K mg ca ia fa fd fi) : Binds K (fi 104) ["self", "a", "b"] [] :=
  T.F_m_length.binds (ps := ["self", "a", "b"]) fun _ _ _ _ _ _ us hl => match us, hl with | [_, _, _], _ => rfl
theorem Txt.b_m_with_link (T : Txt K mg ca ia fa fd fi) : Binds K (fi 105) ["self", "a", "b", "there", "back"] [] :=
  T.F_m_with_link.binds (ps := ["self", "a", "b", "there", "back"]) fun _ _ _ _ _ _ us hl => match us, hl with | [_, _, _, _, _], _ => rfl
theorem Txt.b_m_without (T : Txt K mg ca ia fa fd fi) : Binds K (fi 106) ["self", "a", "b"] [] :=
  T.F_m_without.binds (ps := ["self", "a", "b"]) fun _ _ _ _ _ _ us hl => match us, hl with | [_, _, _], _ => rfl
theorem Txt.b_m_u_links_without (T : Txt K mg ca ia fa fd fi) : Binds K (fi 107) ["self", "a", "b"] [] :=
  T.F_m_u_links_without.binds (ps := ["self", "a", "b"]) fun _ _ _ _ _ _ us hl => match us, hl with | [_, _, _], _ => rfl
theorem Txt.bi_BadNet (T : Txt K mg ca ia fa fd fi) : Binds K (fi 3) ["self", "value"] [] :=
  T.FI_BadNet.binds (ps := ["self", "value"]) fun _ _ _ _ _ _ us hl => match us, hl with | [_, _], _ => rfl
theorem Txt.bi_NoRouter (T : Txt K mg ca ia fa fd fi) : Binds K (fi 4) ["self", "value"] [] :=
  T.FI_NoRouter.binds (ps := ["self", "value"]) fun _ _ _ _ _ _ us hl => match us, hl with | [_, _], _ => rfl
theorem Txt.bi_NoLink (T : Txt K mg ca ia fa fd fi) : Binds K (fi 5) ["self", "value"] [] :=
  T.FI_NoLink.binds (ps := ["self", "value"]) fun _ _ _ _ _ _ us hl => match us, hl with | [_, _], _ => rfl
theorem Txt.bi_BadText (T : Txt K mg ca ia fa fd fi) : Binds K (fi 6) ["self", "value"] [] :=
  T.FI_BadText.binds (ps := ["self", "value"]) fun _ _ _ _ _ _ us hl => match us, hl with | [_, _], _ => rfl
end
end Toy
set_option Elab.async false
set_option linter.all false
set_option maxRecDepth 100000
set_option maxHeartbeats 4000000
namespace Toy
open PySem L2 Q

/-! ### pots -/
abbrev potL (o s c : Int) : List V := [.int o, .int s, .int c]
/-- a pot at p, at most B draws of its second kind so far -/
def Pot (H : Hp) (p : Addr) (B : Nat) : Prop := ∃ o s c : Int, H p = some (.lst (potL o s c)) ∧ 0 ≤ o ∧ 0 ≤ s ∧
  s < 2305843009213693952 ∧ 0 ≤ c ∧ c ≤ (B : Int)
/-- all that is tracked but the pot at p is kept -/
def But (p : Addr) (H H' : Hp) : Prop := ∀ b o, b ≠ p → H b = some o → H' b = some o
theorem But.refl (p : Addr) (H : Hp) : But p H H := fun _ _ _ e => e
theorem But.trans {p : Addr} {H H1 H2 : Hp} (a : But p H H1) (b : But p H1 H2) : But p H H2 := fun c o n e => b c o n (a c o n e)
theorem But.of {p : Addr} {H H' : Hp} (s : Same H H') : But p H H' := fun b o _ e => s b o e
theorem Pot.mono {H : Hp} {p : Addr} {B B' : Nat} (h : Pot H p B) (l : B ≤ B') : Pot H p B' := by
  obtain ⟨o, s, c, e, h1, h2, h3, h4, h5⟩ := h
  exact ⟨o, s, c, e, h1, h2, h3, h4, by omega⟩
theorem Pot.same {H H' : Hp} {p : Addr} {B : Nat} (h : Pot H p B) (e : Same H H') : Pot H' p B := by
  obtain ⟨o, s, c, q, r⟩ := h
  exact ⟨o, s, c, e _ _ q, r⟩
theorem same_new {H : Hp} {a : Addr} {o : HO} (n : H a = none) : Same H (upd H a o) := fun b u e => by
  rw [upd_ne (ne_of_none e n)]
  exact e
theorem but_upd {H : Hp} {a : Addr} {o : HO} : But a H (upd H a o) := fun b u n e => by rw [upd_ne n]; exact e
/-- items read -/
theorem ixl {K : PySem.W.Frag} {H : Hp} {p : Addr} {xs : List V} {z : V} {Q : VK} (j : Nat) (h : SqL K H p xs)
    (e : xs[j]? = some z) (q : Q z H) : rIx K (.ref p) (.int (j : Int)) H Q :=
  .inl ⟨p, xs, (j : Int), z, rfl, rfl, h, atI_nat e, q⟩
theorem emod_lt31 {a b : Int} (hb : 0 < b) (h : b < 2147483648) : 0 ≤ a % b ∧ a % b < 2147483648 :=
  ⟨Int.emod_nonneg _ (by omega), Int.lt_trans (Int.emod_lt_of_pos _ hb) h⟩
theorem modN (a : Int) {n : Int} (hn : 0 < n) : ∃ d : Nat, a % n = (d : Int) ∧ (d : Int) < n := by
  obtain ⟨d, hd⟩ := Int.eq_ofNat_of_zero_le (Int.emod_nonneg a (show n ≠ 0 by omega))
  exact ⟨d, hd, hd ▸ Int.emod_lt_of_pos a hn⟩

/-- an assignment, its value's reading apart -/
theorem asg {te : TE} {g : TG} {D : Ends} {σ : L2.St} {H : Hp} (P : V → Hp → Prop)
    (h : ∀ Q : VK, (∀ v H', P v H' → Q v H') → te σ H Q) (k : ∀ v H', P v H' → g v σ H' D.nx) : tAsg te g D σ H := h _ k
theorem seqA {te : TE} {g : TG} {u : TS} {D : Ends} {σ : L2.St} {H : Hp} (P : V → Hp → Prop)
    (h : ∀ Q : VK, (∀ v H', P v H' → Q v H') → te σ H Q) (k : ∀ v H', P v H' → g v σ H' (u D)) : tSeq (tAsg te g) u D σ H := h _ k
theorem seqS {te : TE} {i : Nat} {u : TS} {D : Ends} {σ : L2.St} {H : Hp} (P : V → Hp → Prop)
    (h : ∀ Q : VK, (∀ v H', P v H' → Q v H') → te σ H Q) (k : ∀ v H', P v H' → u D (σ.set i (some v)) H') : tSeq (tAsg te (gName i)) u D σ H := h _ k
theorem ret {te : TE} {D : Ends} {σ : L2.St} {H : Hp} (P : V → Hp → Prop)
    (h : ∀ Q : VK, (∀ v H', P v H' → Q v H') → te σ H Q) (k : ∀ v H', P v H' → D.rt v H') : tRet te D σ H := h _ k
theorem nxt {f : L2.St → Hp → Prop} {rt : VK} {bk ct : L2.St → Hp → Prop} {σ : L2.St} {H : Hp} (h : f σ H) : Ends.nx ⟨f, rt, bk, ct⟩ σ H := h
theorem stepH {α : Type} {G : α → Hp → Prop} {σ : α} {H0 : Hp} (P : Hp → Prop) (h : P H0) (k : ∀ H', P H' → G σ H') : G σ H0 := k H0 h
abbrev primes : List V := [.int 2147483647, .int 2147483629, .int 2147483587, .int 2147483579, .int 2147483563]
theorem prime_at {d : Nat} (h : d < 5) : ∃ pr : Int, primes[d]? = some (.int pr) ∧ 0 < pr ∧ pr < 2147483648 := by
  match d, h with
  | 0, _ => exact ⟨_, rfl, by decide, by decide⟩
  | 1, _ => exact ⟨_, rfl, by decide, by decide⟩
  | 2, _ => exact ⟨_, rfl, by decide, by decide⟩
  | 3, _ => exact ⟨_, rfl, by decide, by decide⟩
  | 4, _ => exact ⟨_, rfl, by decide, by decide⟩
theorem mulOk {i j : Int} (hi : i.natAbs < 2 ^ 64) (hj : j.natAbs < 2 ^ 64) : CMulW i j :=
  wide_mul hi hj (by decide) (by decide) (by decide)
/-- _law_take(pot, n): some number from 0 below n -/
def spTake (K : PySem.W.Frag) : Sp := fun vs H Q _ => ∃ (p : Addr) (n : Int) (B : Nat), vs = [.ref p, .int n] ∧ Pot H p B ∧
  0 < n ∧ n < 1073741824 ∧ B < 1000000 ∧
  ∀ (d : Nat) (H' : Hp), (d : Int) < n → But p H H' → Pot H' p (B + 1) → Q (.int d) H'
theorem pw_bound {s c : Int} (h1 : 0 ≤ s) (h2 : s < 2305843009213693952) (h3 : 0 ≤ c) (h4 : c ≤ 1000001) :
    (s + 99989 * c * c + 71).natAbs < 2 ^ 64 := by
  have h5 : 99989 * c * c ≤ 99989 * 1000001 * 1000001 := by
    have a : 99989 * c ≤ 99989 * 1000001 := by omega
    exact Int.le_trans (Int.mul_le_mul_of_nonneg_right a h3) (Int.mul_le_mul_of_nonneg_left h4 (by omega))
  have h6 : 0 ≤ 99989 * c * c := Int.mul_nonneg (by omega) h3
  omega
section
variable {P : Program} {w : World} {K : PySem.W.Frag} {mg : Str → Option Value} {base : Heap} {ca ia fa : Nat → Addr} {fd fi : Nat → FuncData}
theorem ok_take (T : Txt K mg ca ia fa fd fi) : FnOk P w K mg base CX0 1 (fa 36) (fd 36) ["_law_pot_here", "_law_upto"] (spTake K) := by
  refine T.F_l_take.ok sc_l_take (fun vs H Q E h => ?_) (fun cdv A outer s H vs Q E hr h => ?_)
  · obtain ⟨p, n, B, rfl, _⟩ := h
    rfl
  · obtain ⟨p, n, B, rfl, ⟨o, sd, c, hp, h1, h2, h3, h4, h5⟩, hn, hn2, hB, k⟩ := h
    refine ⟨_, (pss_cons (ps_if (pt_cmpR op_gt (pe_ix ix_seq (pv 0) pe_int (fun _ _ => rfl)) pe_int (nomark _)) (pss_cons (ps_set (i := 2) sc_l_take.nd rfl (Or.inl rfl) (pe_op op_mod (pe_callTy call_int1 (by rfl) T.n_int (by decide +kernel) (pa_cons (pe_ix ix_seq (pv 0) pe_int (fun _ _ => rfl)) pa_nil)) (pv 1)))
      (pss_cons (ps_asg (pe_op op_fdiv (pe_ix ix_seq (pv 0) pe_int (fun _ _ => rfl)) (pv 1)) (pg_sub (pv 0) pe_int set_list))
      (pss_one (ps_ret (pv 2))))) pss_nil)
      (pss_cons (ps_asg (pe_op op_add (pe_ix ix_seq (pv 0) pe_int (fun _ _ => rfl)) pe_int) (pg_sub (pv 0) pe_int set_list))
      (pss_cons (ps_set (i := 3) sc_l_take.nd rfl (Or.inl rfl) (pe_ix ix_seq (pe_lst (pa_cons pe_int (pa_cons pe_int (pa_cons pe_int (pa_cons pe_int (pa_cons pe_int pa_nil)))))) (pe_op op_mod (pe_callTy call_int1 (by rfl) T.n_int (by decide +kernel) (pa_cons (pe_ix ix_seq (pv 0) pe_int (fun _ _ => rfl)) pa_nil)) pe_int) (fun _ _ => rfl)))
      (pss_cons (ps_set (i := 4) sc_l_take.nd rfl (Or.inl rfl) (pe_op op_mod (pe_callTy call_int1 (by rfl) T.n_int (by decide +kernel) (pa_cons (pe_op op_pw (pe_callTy call_int1 (by rfl) T.n_int (by decide +kernel) (pa_cons (pe_op op_add (pe_op op_add (pe_ix ix_seq (pv 0) pe_int (fun _ _ => rfl)) (pe_op op_mulW (pe_op op_mulW pe_int (pe_ix ix_seq (pv 0) pe_int (fun _ _ => rfl))) (pe_ix ix_seq (pv 0) pe_int (fun _ _ => rfl)))) pe_int) pa_nil)) pe_int) pa_nil)) (pv 3)))
      (pss_cons (ps_set (i := 4) sc_l_take.nd rfl (Or.inl rfl) (pe_op op_mod (pe_callTy call_int1 (by rfl) T.n_int (by decide +kernel) (pa_cons (pe_op op_mulW (pv 4) (pe_op op_add (pe_op op_mod (pe_callTy call_int1 (by rfl) T.n_int (by decide +kernel) (pa_cons (pv 4) pa_nil)) pe_int) (pe_op op_mulW pe_int (pe_ix ix_seq (pv 0) pe_int (fun _ _ => rfl))))) pa_nil)) pe_int))
      (pss_one (ps_ret (pe_op op_mod (pe_callTy call_int1 (by rfl) T.n_int (by decide +kernel) (pa_cons (pe_op op_fdiv (pv 4) pe_int) pa_nil)) (pv 1))))))))), ?_⟩
    refine ⟨_, rfl, ixl 0 (SqL.of hp) rfl ⟨_, _, rfl, rfl, _, rfl, ite2 (fun ho => ?_) (fun ho => ?_)⟩⟩
    · have ho : 0 < o := of_decide_eq_true ho
      refine ⟨_, rfl, ixl 0 (SqL.of hp) rfl (.inl ⟨_, rfl, _, rfl, _, _, rfl, rfl, by omega, ?_⟩)⟩
      refine ⟨_, rfl, ixl 0 (SqL.of hp) rfl ⟨_, rfl, _, _, rfl, rfl, ⟨hn, hn2⟩, ?_⟩⟩
      refine ⟨_, rfl, p, _, 0, 0, rfl, rfl, hp, rfl, ?_⟩
      refine ⟨_, rfl, ?_⟩
      obtain ⟨d, hd, hl⟩ := modN o hn
      show Q (.int (o % n)) _
      rw [hd]
      exact k d _ hl but_upd ⟨o / n, sd, c, upd_same, Int.ediv_nonneg h1 (by omega), h2, h3, h4, by omega⟩
    · have ho : ¬ 0 < o := fun z => ho (decide_eq_true z)
      -- the counter goes up
      refine ⟨_, rfl, ixl 2 (SqL.of hp) rfl ⟨_, _, rfl, rfl, _, rfl, p, _, 2, 2, rfl, rfl, hp, rfl, ?_⟩⟩
      refine stepH (fun H1 => H1 p = some (.lst (potL o sd (c + 1))) ∧ But p H H1) ⟨upd_same, but_upd⟩ ?_
      rintro H1 ⟨e1, b1⟩
      -- the prime
      refine nxt ?_
      refine seqA (fun v H2 => (∃ pr : Int, v = .int pr ∧ 0 < pr ∧ pr < 2147483648) ∧ H2 p = some (.lst (potL o sd (c + 1))) ∧ But p H H2) (fun Q k => ?_) ?_
      · refine ⟨by show 5 ≤ sizeLine; decide, fun l hl => ?_⟩
        refine ⟨_, rfl, ixl 2 (SqL.of (same_new hl _ _ e1)) rfl (.inl ⟨_, rfl, _, _, rfl, rfl, (show (0 : Int) < 5 by decide), ?_⟩)⟩
        obtain ⟨d, hd, hl5⟩ := modN (c + 1) (show (0 : Int) < 5 by decide)
        obtain ⟨pr, hpr, p0, p1⟩ := prime_at (show d < 5 by omega)
        show rIx K (.ref l) (.int ((c + 1) % 5)) _ Q
        rw [hd]
        exact ixl d (SqL.of upd_same) hpr (k _ _ ⟨⟨pr, rfl, p0, p1⟩, same_new hl _ _ e1, b1.trans (But.of (same_new hl))⟩)
      rintro _ H2 ⟨⟨pr, rfl, p0, p1⟩, e2, b2⟩
      -- stirred
      have z0 : 0 ≤ c + 1 := by omega
      have z1 : c + 1 ≤ 1000001 := by omega
      have k1 := mulOk (show (99989 : Int).natAbs < 2 ^ 64 by decide) (show (c + 1).natAbs < 2 ^ 64 by omega)
      have k2 := mulOk (show (99989 * (c + 1)).natAbs < 2 ^ 64 by omega) (show (c + 1).natAbs < 2 ^ 64 by omega)
      have k3 := pw_bound h2 h3 z0 z1
      refine seqA (fun v H3 => H2 = H3 ∧ ∃ s1 : Nat, v = .int (s1 : Int) ∧ (s1 : Int) < 2147483648) (fun Q k => ?_) ?_
      · refine ⟨_, rfl, ixl 1 (SqL.of e2) rfl ⟨_, rfl, ixl 2 (SqL.of e2) rfl ⟨_, _, rfl, rfl, k1, _, rfl, ixl 2 (SqL.of e2) rfl ⟨_, _, rfl, rfl, k2, ?_⟩⟩⟩⟩
        refine ⟨_, _, rfl, rfl, _, _, rfl, rfl, .inl ⟨_, rfl, _, _, rfl, rfl, ⟨by decide, 64, k3, by decide⟩, ?_⟩⟩
        refine .inl ⟨_, rfl, _, rfl, _, _, rfl, rfl, p0, ?_⟩
        obtain ⟨s1, hs1, l1⟩ := modN ((sd + 99989 * (c + 1) * (c + 1) + 71) ^ (3 : Int).toNat) p0
        exact k _ _ ⟨rfl, s1, congrArg V.int hs1, by omega⟩
      rintro _ _ ⟨rfl, s1, rfl, l1⟩
      -- stirred again
      refine seqA (fun v H3 => H2 = H3 ∧ ∃ s1 : Nat, v = .int (s1 : Int)) (fun Q k => ?_) ?_
      · obtain ⟨s2, hs2, l2⟩ := modN (s1 : Int) (show (0 : Int) < 10007 by decide)
        have k4 := mulOk (show (83 : Int).natAbs < 2 ^ 64 by decide) (show (c + 1).natAbs < 2 ^ 64 by omega)
        have k5 := mulOk (show (s1 : Int).natAbs < 2 ^ 64 by omega) (show ((s1 : Int) % 10007 + 83 * (c + 1)).natAbs < 2 ^ 64 by omega)
        refine ⟨_, rfl, _, rfl, .inl ⟨_, rfl, _, _, rfl, rfl, (show (0 : Int) < 10007 by decide), _, rfl, ixl 2 (SqL.of e2) rfl ⟨_, _, rfl, rfl, k4, _, _, rfl, rfl, ?_⟩⟩⟩
        refine ⟨_, _, rfl, rfl, k5, .inl ⟨_, rfl, _, _, rfl, rfl, (show (0 : Int) < 2305843009213693907 by decide), ?_⟩⟩
        obtain ⟨s3, hs3, l3⟩ := modN ((s1 : Int) * ((s1 : Int) % 10007 + 83 * (c + 1))) (show (0 : Int) < 2305843009213693907 by decide)
        exact k _ _ ⟨rfl, s3, congrArg V.int hs3⟩
      rintro _ _ ⟨rfl, s3, rfl⟩
      refine ⟨_, rfl, _, _, rfl, rfl, ⟨by decide, by decide⟩, .inl ⟨_, rfl, _, rfl, _, _, rfl, rfl, hn, ?_⟩⟩
      obtain ⟨s4, hs4, l4⟩ := modN ((s3 : Int) / 103) hn
      show Q (.int (((s3 : Int) / 103) % n)) _
      rw [hs4]
      exact k s4 _ l4 b2 ⟨o, sd, c + 1, e2, h1, h2, h3, z0, by omega⟩
end
end Toy
set_option Elab.async false
set_option linter.all false
set_option maxRecDepth 100000
set_option maxHeartbeats 4000000
namespace Toy
open PySem L2 Q
/-- a sequence that can be drawn from while the pot is at p: its items -/
def Items (K : PySem.W.Frag) (H : Hp) (p : Addr) (x : V) (xs : List V) : Prop :=
  (∃ a, x = .ref a ∧ a ≠ p ∧ SqL K H a xs) ∨ (∃ a, x = .ref a ∧ SqT K H a xs) ∨
    (∃ z : Str, x = .str z ∧ xs = z.cps.toList.map (fun c => V.str ⟨#[c]⟩) ∧ z.length ≤ sizeLine)
theorem seq_but {K : PySem.W.Frag} {p a : Addr} {H H' : Hp} {xs : List V} (b : But p H H') (n : a ≠ p) (h : SqL K H a xs) : SqL K H' a xs := by
  rcases h with (h | ⟨o, h⟩) | h
  · exact .inl (.inl (b _ _ n h))
  · exact .inl (.inr ⟨o, b _ _ n h⟩)
  · exact .inr h
theorem tup_but {K : PySem.W.Frag} {p a : Addr} {H H' : Hp} {xs : List V} (b : But p H H') {q : List V} (hp : H p = some (.lst q)) (h : SqT K H a xs) : SqT K H' a xs := by
  rcases h with (h | ⟨o, h⟩) | h
  · refine .inl (.inl (b _ _ ?_ h))
    rintro rfl
    rw [hp] at h
    cases h
  · refine .inl (.inr ⟨o, b _ _ ?_ h⟩)
    rintro rfl
    rw [hp] at h
    cases h
  · exact .inr h
/-- _law_of(pot, some): one of them -/
def spOf (K : PySem.W.Frag) : Sp := fun vs H Q _ => ∃ (p : Addr) (x : V) (xs : List V) (B : Nat), vs = [.ref p, x] ∧ Pot H p B ∧ B < 1000000 ∧
  Items K H p x xs ∧ 0 < xs.length ∧ xs.length < 1073741824 ∧
  ∀ (d : Nat) (v : V) (H' : Hp), xs[d]? = some v → But p H H' → Pot H' p (B + 1) → Q v H'
/-- _law_pot(script, k): a new pot -/
def spPot (K : PySem.W.Frag) : Sp := fun vs H Q _ => ∃ (a : Addr) (ns : List Int) (k : Nat), vs = [.ref a, .int (k : Int)] ∧ SqL K H a (ns.map V.int) ∧ k < 1000 ∧
  ns.length ≤ 63 ∧ ∀ (p : Addr) (H' : Hp), Same H H' → H p = none → Pot H' p 0 → Q (.ref p) H'
/-- _law_pots(script, n): some new pots, each by itself -/
def spPots (K : PySem.W.Frag) : Sp := fun vs H Q _ => ∃ (a : Addr) (ns : List Int) (n : Nat), vs = [.ref a, .int (n : Int)] ∧ SqL K H a (ns.map V.int) ∧ n < 1000 ∧
  ns.length ≤ 63 ∧ ∀ (l : Addr) (ps : List Addr) (H' : Hp), Same H H' → H' l = some (.lst (ps.map V.ref)) → ps.length ≤ 1000 → ps.Nodup → l ∉ ps →
    (∀ p ∈ ps, Pot H' p 0) → Q (.ref l) H'
theorem b01 (b : Bool) : (if b = true then (1 : Int) else 0).natAbs < 2 ^ 4 ∧ (0 : Int) ≤ (if b = true then (1 : Int) else 0) := by
  cases b <;> decide
theorem two60 : (10 : Int) ^ (60 : Int).toNat = 10 ^ 60 := by decide
theorem big_nn : (0 : Int) < ((10 : Int) ^ (60 : Int).toNat) ^ (5 : Int).toNat := by decide +kernel
theorem big_lt {x : Int} (h : x < ((10 : Int) ^ (60 : Int).toNat) ^ (5 : Int).toNat) (h0 : 0 ≤ x) : x.natAbs < 2 ^ 1000 := by
  have e : ((10 : Int) ^ (60 : Int).toNat) ^ (5 : Int).toNat < 2 ^ 1000 := by decide +kernel
  omega
section
variable {P : Program} {w : World} {K : PySem.W.Frag} {mg : Str → Option Value} {base : Heap} {ca ia fa : Nat → Addr} {fd fi : Nat → FuncData}
theorem ok_of (T : Txt K mg ca ia fa fd fi) : FnOk P w K mg base CX0 2 (fa 38) (fd 38) ["_law_pot_here", "_law_some"] (spOf K) := by
  have G_l_take := ok_take (P := P) (w := w) (base := base) T
  refine T.F_l_of.ok sc_l_of (fun vs H Q E h => ?_) (fun cdv A outer s H vs Q E hr h => ?_)
  · obtain ⟨p, x, xs, B, rfl, _⟩ := h
    rfl
  · obtain ⟨p, x, xs, B, rfl, hp, hB, hx, h0, h1, k⟩ := h
    obtain ⟨o, sd, c, hpp, _⟩ := id hp
    refine ⟨_, (pss_one (ps_ret (pe_ix ix_seq (pv 1) (pe_call G_l_take (hr.mono (by decide)) rfl T.g_l_take T.k_l_take T.b_l_take .nil pass0 (pa_cons (pv 0) (pa_cons (pe_callB call_len (by rfl) T.n_len (by decide +kernel) (pa_cons (pv 1) pa_nil)) pa_nil))) (fun _ _ => rfl)))), ?_⟩
    have lenV : LenV K x H xs.length := by
      rcases hx with ⟨a, rfl, _, h⟩ | ⟨a, rfl, h⟩ | ⟨z, rfl, e, hz⟩
      · exact .inl ⟨xs, h, rfl⟩
      · exact .inr ⟨xs, h, rfl⟩
      · refine ⟨hz, ?_⟩
        rw [e, List.length_map]
        rfl
    refine ⟨_, rfl, _, rfl, _, rfl, _, _, rfl, lenV, p, _, B, rfl, hp, by omega, by omega, hB, fun d H' hd hb hp' => ?_⟩
    obtain ⟨v, hv⟩ : ∃ v, xs[d]? = some v := ⟨_, List.getElem?_eq_getElem (show d < xs.length by omega)⟩
    have fin := k d v H' hv hb hp'
    rcases hx with ⟨a, rfl, ne, h⟩ | ⟨a, rfl, h⟩ | ⟨z, rfl, e, hz⟩
    · exact .inl ⟨a, xs, d, v, rfl, rfl, seq_but hb ne h, atI_nat hv, fin⟩
    · exact .inr (.inl ⟨a, xs, d, v, rfl, rfl, tup_but hb hpp h, atI_nat hv, fin⟩)
    · rw [e, List.getElem?_map] at hv
      obtain ⟨c', hc, rfl⟩ := Option.map_eq_some_iff.mp hv
      exact .inr (.inr ⟨z, d, c', rfl, rfl, hz, atI_nat hc, fin⟩)
theorem int_id {i : Int} {H : Hp} {Q : VK} (q : Q (.int i) H) : (∃ j, ([V.int i] : List V) = [V.int j] ∧ Q (.int j) H) ∨ (∃ k, ([V.int i] : List V) = [V.bl k] ∧ Q (.int (if k then 1 else 0)) H) := .inl ⟨i, rfl, q⟩
theorem ok_pot (T : Txt K mg ca ia fa fd fi) : FnOk P w K mg base CX0 1 (fa 35) (fd 35) ["_law_script", "_law_k"] (spPot K) := by
  refine T.F_l_pot.ok sc_l_pot (fun vs H Q E h => ?_) (fun cdv A outer s H vs Q E hr h => ?_)
  · obtain ⟨a, ns, k, rfl, _⟩ := h
    rfl
  · obtain ⟨a, ns, k, rfl, hs, hk, hn, q⟩ := h
    refine ⟨_, (pss_cons (ps_set (i := 2) sc_l_pot.nd rfl (Or.inl rfl) (pe_ifExp (pt_cmpR op_lt (pv 1) (pe_callB call_len (by rfl) T.n_len (by decide +kernel) (pa_cons (pv 0) pa_nil)) (nomark _)) (pe_ix ix_seq (pv 0) (pv 1) (fun _ _ => rfl)) (pe_op op_add (pe_op op_mulW pe_int (pv 1)) pe_int)))
      (pss_cons (ps_set (i := 3) sc_l_pot.nd rfl (Or.inl rfl) (pe_op op_mulW (pe_op op_mod (pe_callTy call_int1 (by rfl) T.n_int (by decide +kernel) (pa_cons (pe_callB call_abs (by rfl) T.n_abs (by decide +kernel) (pa_cons (pv 2) pa_nil)) pa_nil)) (pe_op op_pw (pe_op op_pw pe_int pe_int) pe_int)) (pe_callTy call_int1 (by rfl) T.n_int (by decide +kernel) (pa_cons (pe_cmpR op_ge (pe_callB call_abs (by rfl) T.n_abs (by decide +kernel) (pa_cons (pv 2) pa_nil)) (pe_op op_pw pe_int pe_int) (nomark _)) pa_nil))))
      (pss_one (ps_ret (pe_lst (pa_cons (pv 3) (pa_cons (pe_op op_mod (pe_callTy call_int1 (by rfl) T.n_int (by decide +kernel) (pa_cons (pe_op op_add (pe_op op_add (pe_op op_mulW (pe_op op_mod (pe_callTy call_int1 (by rfl) T.n_int (by decide +kernel) (pa_cons (pv 2) pa_nil)) pe_int) pe_int) (pe_op op_mulW (pe_op op_mulW pe_int (pv 1)) (pv 1))) pe_int) pa_nil)) pe_int) (pa_cons pe_int pa_nil)))))))), ?_⟩
    refine seqS (fun v H' => H = H' ∧ ∃ z : Int, v = .int z) (fun Q k' => ?_) ?_
    · refine ⟨_, rfl, _, rfl, _, _, rfl, .inl ⟨_, hs, rfl⟩, _, _, rfl, rfl, _, rfl, ite2 (fun h => ?_) (fun _ => ?_)⟩
      · have h : (k : Int) < ((ns.map V.int).length : Nat) := of_decide_eq_true h
        rw [List.length_map] at h
        have hz : (ns.map V.int)[k]? = some (.int (ns[k]'(by omega))) := by
          rw [List.getElem?_map, List.getElem?_eq_getElem (by omega)]
          rfl
        exact ⟨_, rfl, _, rfl, ixl k hs hz (k' _ _ ⟨rfl, _, rfl⟩)⟩
      · refine ⟨_, rfl, _, _, rfl, rfl, mulOk (by decide) (by omega), _, _, rfl, rfl, ?_⟩
        exact k' _ _ ⟨rfl, _, rfl⟩
    rintro _ _ ⟨rfl, z, rfl⟩
    have pw1 : CPw 10 60 := ⟨by decide, 4, by decide, by decide⟩
    have pw2 : CPw ((10 : Int) ^ (60 : Int).toNat) 5 := ⟨by decide, 200, by decide +kernel, by decide⟩
    have pw3 : CPw 10 18 := ⟨by decide, 4, by decide, by decide⟩
    refine seqS (fun v H' => H = H' ∧ ∃ z : Int, v = .int z ∧ 0 ≤ z) (fun Q k' => ?_) ?_
    · refine ⟨_, rfl, _, rfl, .inl ⟨_, rfl, _, _, rfl, rfl, pw1, _, _, rfl, rfl, pw2, _, _, rfl, rfl, big_nn, ?_⟩⟩
      obtain ⟨d, hd, hl⟩ := modN (if z < 0 then -z else z) big_nn
      refine ⟨_, rfl, _, rfl, _, _, rfl, rfl, pw3, _, _, rfl, rfl, .inr ⟨_, rfl, ?_⟩⟩
      have ⟨h2, h3⟩ := b01 (decide ((10 : Int) ^ (18 : Int).toNat ≤ if z < 0 then -z else z))
      refine ⟨_, _, rfl, rfl, ?_, ?_⟩
      · show CMulW ((if z < 0 then -z else z) % _) _
        rw [hd]
        exact wide_mul (big_lt hl (by omega)) h2 (by decide) (by decide) (by decide)
      · refine k' _ _ ⟨rfl, _, rfl, ?_⟩
        show 0 ≤ ((if z < 0 then -z else z) % _) * _
        rw [hd]
        exact Int.mul_nonneg (by omega) h3
    rintro _ _ ⟨rfl, own, rfl, hown⟩
    have hp61 : (0 : Int) < 2305843009213693951 := by decide
    obtain ⟨d, hd, hl⟩ := modN z hp61
    have m1 : CMulW (z % 2305843009213693951) 69389 := by
      rw [hd]
      exact mulOk (by omega) (by decide)
    have m2 : CMulW 7561 (k : Int) := mulOk (by decide) (by omega)
    have m3 : CMulW (7561 * (k : Int)) (k : Int) := mulOk (by omega) (by omega)
    refine ⟨_, rfl, _, rfl, .inl ⟨_, rfl, _, _, rfl, rfl, hp61, _, _, rfl, rfl, m1, _, rfl, _, _, rfl, rfl, m2, _, rfl, _, _, rfl, rfl, m3, ?_⟩⟩
    refine ⟨_, _, rfl, rfl, _, _, rfl, rfl, .inl ⟨_, rfl, _, _, rfl, rfl, (show (0 : Int) < 2305843009213693921 by decide), ?_⟩⟩
    refine ⟨by show 3 ≤ sizeLine; decide, fun p hp => ?_⟩
    obtain ⟨d2, hd2, hl2⟩ := modN (z % 2305843009213693951 * 69389 + 7561 * (k : Int) * (k : Int) + 83) (show (0 : Int) < 2305843009213693921 by decide)
    refine q p _ (same_new hp) hp ⟨own, (d2 : Int), 0, ?_, hown, by omega, by omega, by decide, by decide⟩
    rw [← hd2]
    exact upd_same
end
end Toy
set_option Elab.async false
set_option linter.all false
set_option maxRecDepth 100000
set_option maxHeartbeats 4000000
namespace Toy
open PySem L2 Q
section
variable {P : Program} {w : World} {K : PySem.W.Frag} {mg : Str → Option Value} {base : Heap} {ca ia fa : Nat → Addr} {fd fi : Nat → FuncData}
theorem ok_pots (T : Txt K mg ca ia fa fd fi) : FnOk P w K mg base CX0 2 (fa 37) (fd 37) ["_law_script", "_law_most"] (spPots K) := by
  have G_l_pot := ok_pot (P := P) (w := w) (base := base) T
  refine T.F_l_pots.ok sc_l_pots (fun vs H Q E h => ?_) (fun cdv A outer s H vs Q E hr h => ?_)
  · obtain ⟨a, ns, n, rfl, _⟩ := h
    rfl
  · obtain ⟨a, ns, n, rfl, hs, hn, hl, q⟩ := h
    refine ⟨_, (pss_one (ps_ret (pe_lc (own := [("_law_k", 2)]) (g := (gName 2)) (tt := tYes) rfl sc_l_pots.nd (pi_range1 rfl T.n_range (pa_cons (pe_callB (call_max2 rfl) (by rfl) T.n_max (by decide +kernel) (pa_cons pe_int (pa_cons (pe_callB (call_min2 rfl) (by rfl) T.n_min (by decide +kernel) (pa_cons (pe_callTy call_int1 (by rfl) T.n_int (by decide +kernel) (pa_cons (pv 1) pa_nil)) (pa_cons (pe_callB call_len (by rfl) T.n_len (by decide +kernel) (pa_cons (pv 0) pa_nil)) pa_nil))) pa_nil))) pa_nil)) (blkOk_by (own := [("_law_k", 2)]) (N := N_l_pots) (sc := defScope s_l_pots) (by decide +kernel)) (fun _ _ _ _ _ => (pg_name (i := 2) sc_l_pots.nd rfl (Or.inl rfl))) (fun _ _ _ _ _ => pts_nil) (fun _ _ _ _ _ => by exact (pe_call G_l_pot (hr.mono (by decide)) rfl T.g_l_pot T.k_l_pot T.b_l_pot .nil pass0 (pa_cons (pv 0) (pa_cons (pv 2) pa_nil))))))), ?_⟩
    refine ⟨_, rfl, .inl ⟨_, rfl, _, rfl, _, _, rfl, .inl ⟨_, hs, rfl⟩, _, _, rfl, _, _, rfl, ?_⟩⟩
    obtain ⟨m, hm, hm2⟩ : ∃ m : Nat, (if (if ((ns.map V.int).length : Int) < (n : Int) then ((ns.map V.int).length : Int) else (n : Int)) > 1
        then (if ((ns.map V.int).length : Int) < (n : Int) then ((ns.map V.int).length : Int) else (n : Int)) else 1) = (m : Int) ∧ m ≤ 1000 := by
      refine ⟨((if (if ((ns.map V.int).length : Int) < (n : Int) then ((ns.map V.int).length : Int) else (n : Int)) > 1
        then (if ((ns.map V.int).length : Int) < (n : Int) then ((ns.map V.int).length : Int) else (n : Int)) else 1)).toNat, ?_, ?_⟩ <;> repeat' split <;> omega
    rw [hm]
    refine ⟨_, rfl, by omega, by omega, fun D hD => ?_⟩
    refine lc_range (lo := 0) (n := (m : Int).toNat) (fun i H' => ∃ ps : List Addr, ps.length = i ∧ H' D = some (.lst (ps.map V.ref)) ∧ Same H H' ∧ ps.Nodup ∧ D ∉ ps ∧ ∀ p ∈ ps, Pot H' p 0)
      ⟨[], rfl, upd_same, same_new hD, List.nodup_nil, List.not_mem_nil, fun _ z => nomatch z⟩ ?_ ?_
    · rintro i H1 hi ⟨ps, hlen, h1, s1, nd, nD, hp⟩
      refine ⟨rfl, ?_⟩
      dsimp only [tYes]
      rw [if_pos rfl]
      refine ⟨_, rfl, _, rfl, a, ns, i, by rw [Int.zero_add] <;> rfl, s1.seq hs, by omega, hl, fun p H2 s2 np hpot => ?_⟩
      have npD : p ≠ D := fun z => by rw [z, h1] at np; cases np
      have s3 : ∀ {o}, ∀ b u, b ≠ D → H2 b = some u → upd H2 D o b = some u := fun b u n e => by rw [upd_ne n]; exact e
      refine ⟨_, s2 _ _ h1, ?_, ps ++ [p], by simp [hlen], ?_, ?_, ?_, ?_, ?_⟩
      · rw [List.length_map]
        exact small1000 (by omega)
      · rw [upd_same, List.map_append]
        rfl
      · intro b u e
        exact s3 b u (ne_of_none e hD) (s2 _ _ (s1 _ _ e))
      · refine List.nodup_append.mpr ⟨nd, by simp, ?_⟩
        intro x hx y hy e
        have e2 : y = p := by simpa using hy
        subst e2
        obtain ⟨_, _, _, z, _⟩ := hp x hx
        rw [e, np] at z
        cases z
      · intro z
        rcases List.mem_append.mp z with z | z
        · exact nD z
        · exact npD (by simpa using z : D = p).symm
      · intro x hx
        have nx : x ≠ D := by
          rcases List.mem_append.mp hx with z | z
          · rintro rfl
            exact nD z
          · have e2 : x = p := by simpa using z
            rw [e2]
            exact npD
        have px : Pot H2 x 0 := by
          rcases List.mem_append.mp hx with z | z
          · exact (hp x z).same s2
          · have e2 : x = p := by simpa using z
            rw [e2]
            exact hpot
        obtain ⟨o, sd, c, e, r⟩ := px
        exact ⟨o, sd, c, s3 _ _ nx e, r⟩
    · rintro H1 ⟨ps, hlen, h1, s1, nd, nD, hp⟩
      exact q D ps H1 s1 h1 (by omega) nd nD hp
end
end Toy
set_option Elab.async false
set_option linter.all false
set_option maxRecDepth 100000
set_option maxHeartbeats 4000000
namespace Toy
open PySem L2 Q
/-- _law_turned(pot, xs): the items, turned about, in a new list -/
def spTurned (K : PySem.W.Frag) : Sp := fun vs H Q _ => ∃ (p a : Addr) (xs : List V) (B : Nat), vs = [.ref p, .ref a] ∧ Pot H p B ∧ B < 999990 ∧ a ≠ p ∧
  SqL K H a xs ∧ 0 < xs.length ∧ xs.length < 1000000 ∧
  ∀ (ys : List V) (q : Addr) (H' : Hp), ys.Perm xs → But p H H' → Pot H' p (B + 2) → H q = none → H' q = some (.lst ys) → Q (.ref q) H'
/-- _law_far(pot): a length from 1 to 90 -/
def spFar (K : PySem.W.Frag) : Sp := fun vs H Q _ => ∃ (p : Addr) (B : Nat), vs = [.ref p] ∧ Pot H p B ∧ B < 999990 ∧
  ∀ (n : Nat) (H' : Hp), 1 ≤ n → n ≤ 90 → But p H H' → Pot H' p (B + 3) → Q (.int (n : Int)) H'
theorem cut_drop (xs : List V) (d : Nat) : cutV xs (some (d : Int)) none = xs.drop d := by
  unfold cutV
  rw [HT.sIx_nat, HT.sIx_none, List.take_of_length_le (by rw [List.length_drop]; omega)]
  rcases Nat.le_total d xs.length with h | h
  · rw [Nat.min_eq_left h]
  · rw [Nat.min_eq_right h, List.drop_eq_nil_of_le (Nat.le_refl _), List.drop_eq_nil_of_le h]
theorem cut_take (xs : List V) (d : Nat) : cutV xs none (some (d : Int)) = xs.take d := by
  unfold cutV
  rw [HT.sIx_nat, HT.sIx_none, List.drop_zero, Nat.sub_zero]
  rcases Nat.le_total d xs.length with h | h
  · rw [Nat.min_eq_left h]
  · rw [Nat.min_eq_right h, List.take_of_length_le (Nat.le_refl _), List.take_of_length_le h]
theorem rot_perm (xs : List V) (d : Nat) : (xs.drop d ++ xs.take d).Perm xs := by
  have h : (xs.drop d ++ xs.take d).Perm (xs.take d ++ xs.drop d) := List.perm_append_comm
  rw [List.take_append_drop] at h
  exact h
theorem pot_none {H : Hp} {p q : Addr} {B : Nat} (h : Pot H p B) (n : H q = none) : q ≠ p := by
  rintro rfl
  obtain ⟨o, s, c, e, _⟩ := h
  rw [e] at n
  cases n
theorem but_none {H H' : Hp} {p q : Addr} {B : Nat} (b : But p H H') (h : Pot H' p B) (n : H' q = none) : H q = none := by
  cases e : H q with
  | none => rfl
  | some o =>
    rw [b q o (pot_none h n) e] at n
    cases n
theorem pot_but {H H' : Hp} {p a : Addr} {o : HO} (n : H a = none) (h : ∃ B, Pot H p B) (b : But p (upd H a o) H') : H' a = some o := by
  obtain ⟨B, h⟩ := h
  exact b _ _ (pot_none h n) upd_same
section
variable {P : Program} {w : World} {K : PySem.W.Frag} {mg : Str → Option Value} {base : Heap} {ca ia fa : Nat → Addr} {fd fi : Nat → FuncData}
theorem ok_turned (T : Txt K mg ca ia fa fd fi) : FnOk P w K mg base CX0 2 (fa 39) (fd 39) ["_law_pot_here", "_law_some"] (spTurned K) := by
  have G_l_take := ok_take (P := P) (w := w) (base := base) T
  refine T.F_l_turned.ok sc_l_turned (fun vs H Q E h => ?_) (fun cdv A outer s H vs Q E hr h => ?_)
  · obtain ⟨p, a, xs, B, rfl, _⟩ := h
    rfl
  · obtain ⟨p, a, xs, B, rfl, hp, hB, nap, hx, h0, h1, k⟩ := h
    refine ⟨_, (pss_cons (ps_set (i := 2) sc_l_turned.nd rfl (Or.inl rfl) (pe_call G_l_take (hr.mono (by decide)) rfl T.g_l_take T.k_l_take T.b_l_take .nil pass0 (pa_cons (pv 0) (pa_cons (pe_callB call_len (by rfl) T.n_len (by decide +kernel) (pa_cons (pv 1) pa_nil)) pa_nil))))
      (pss_cons (ps_set (i := 3) sc_l_turned.nd rfl (Or.inl rfl) (pe_op op_cat (pe_slice sl_list (pv 1) (po_some (pv 2)) po_none) (pe_slice sl_list (pv 1) po_none (po_some (pv 2)))))
      (pss_one (ps_ret (pe_ifExp (pt_cmpR op_eq (pe_call G_l_take (hr.mono (by decide)) rfl T.g_l_take T.k_l_take T.b_l_take .nil pass0 (pa_cons (pv 0) (pa_cons pe_int pa_nil))) pe_int (nomark _)) (pe_revL (pv 3)) (pv 3)))))), ?_⟩
    refine seqS (fun v H' => ∃ d : Nat, v = .int (d : Int) ∧ But p H H' ∧ Pot H' p (B + 1)) (fun Q k' => ?_) ?_
    · refine ⟨_, rfl, _, rfl, _, _, rfl, .inl ⟨xs, hx, rfl⟩, p, _, B, rfl, hp, by omega, by omega, by omega, fun d H' hd hb hp' => k' _ _ ⟨d, rfl, hb, hp'⟩⟩
    rintro _ H1 ⟨d, rfl, b1, p1⟩
    have hx1 := seq_but b1 nap hx
    refine seqS (fun v H' => ∃ q, v = .ref q ∧ Same H1 H' ∧ H1 q = none ∧ H' q = some (.lst (xs.drop d ++ xs.take d))) (fun Q k' => ?_) ?_
    · refine ⟨_, rfl, _, rfl, _, rfl, a, xs, rfl, hx1, fun l1 n1 => ?_⟩
      refine ⟨_, rfl, _, rfl, _, rfl, a, xs, rfl, (same_new n1).seq hx1, fun l2 n2 => ?_⟩
      have e1 := cut_drop xs d
      have e2 := cut_take xs d
      refine ⟨l1, l2, xs.drop d, xs.take d, rfl, rfl, ?_, ?_, ?_, fun q nq => k' _ _ ⟨q, rfl, ?_, ?_, upd_same⟩⟩
      · rw [same_new n2 _ _ upd_same, e1]
      · rw [upd_same, e2]
      · rw [List.length_drop, List.length_take, sizeLine_eq]
        omega
      · exact ((same_new n1).trans (same_new n2)).trans (same_new nq)
      · cases e : H1 q with
        | none => rfl
        | some o =>
          rw [((same_new n1).trans (same_new n2)) _ _ e] at nq
          cases nq
    rintro _ H2 ⟨q, rfl, s2, nq, hq⟩
    have p2 := p1.same s2
    have nqp : q ≠ p := pot_none p1 nq
    have nH : H q = none := but_none b1 p1 nq
    refine ⟨_, rfl, p, 2, B + 1, rfl, p2, by decide, by decide, by omega, fun d2 H3 hd2 b3 p3 => ?_⟩
    have h3 : H3 q = some (.lst (xs.drop d ++ xs.take d)) := b3 _ _ nqp hq
    have b13 : But p H H3 := (b1.trans (But.of s2)).trans b3
    refine ⟨rfl, _, rfl, ite2 (fun _ => ?_) (fun _ => ?_)⟩
    · refine ⟨_, rfl, q, _, rfl, SqL.of h3, fun r nr => ?_⟩
      exact k _ r _ ((List.reverse_perm _).trans (rot_perm xs d)) (b13.trans (But.of (same_new nr))) (p3.same (same_new nr)) (but_none b13 p3 nr) upd_same
    · exact ⟨_, rfl, k _ q _ (rot_perm xs d) b13 p3 nH h3⟩
theorem ok_far (T : Txt K mg ca ia fa fd fi) : FnOk P w K mg base CX0 3 (fa 41) (fd 41) ["_law_pot_here"] (spFar K) := by
  have G_l_take := ok_take (P := P) (w := w) (base := base) T
  have G_l_of := ok_of (P := P) (w := w) (base := base) T
  refine T.F_l_far.ok sc_l_far (fun vs H Q E h => ?_) (fun cdv A outer s H vs Q E hr h => ?_)
  · obtain ⟨p, B, rfl, _⟩ := h
    rfl
  · obtain ⟨p, B, rfl, hp, hB, k⟩ := h
    refine ⟨_, (pss_one (ps_ret (pe_call G_l_of (hr.mono (by decide)) rfl T.g_l_of T.k_l_of T.b_l_of .nil pass0 (pa_cons (pv 0) (pa_cons (pe_lst (pa_cons pe_int (pa_cons pe_int (pa_cons pe_int (pa_cons pe_int (pa_cons pe_int (pa_cons pe_int (pa_cons pe_int (pa_cons pe_int (pa_cons pe_int (pa_cons pe_int (pa_cons (pe_op op_add pe_int (pe_call G_l_take (hr.mono (by decide)) rfl T.g_l_take T.k_l_take T.b_l_take .nil pass0 (pa_cons (pv 0) (pa_cons pe_int pa_nil)))) (pa_cons (pe_op op_add pe_int (pe_call G_l_take (hr.mono (by decide)) rfl T.g_l_take T.k_l_take T.b_l_take .nil pass0 (pa_cons (pv 0) (pa_cons pe_int pa_nil)))) pa_nil))))))))))))) pa_nil))))), ?_⟩
    refine ⟨_, rfl, ?_⟩
    refine ⟨_, rfl, p, 12, B, rfl, hp, by decide, by decide, by omega, fun d1 H1 hd1 b1 p1 => ?_⟩
    refine ⟨_, _, rfl, rfl, _, rfl, p, 90, B + 1, rfl, p1, by decide, by decide, by omega, fun d2 H2 hd2 b2 p2 => ?_⟩
    refine ⟨_, _, rfl, rfl, by show 12 ≤ sizeLine; decide, fun l nl => ?_⟩
    have b12 := b1.trans b2
    have nlp : l ≠ p := pot_none p2 nl
    refine ⟨p, .ref l, _, B + 2, rfl, p2.same (same_new nl), by omega, .inl ⟨l, rfl, nlp, SqL.of upd_same⟩, by show 0 < 12; decide, by show 12 < 1073741824; decide, fun d v H3 hv b3 p3 => ?_⟩
    have b13 := (b12.trans (But.of (same_new nl))).trans b3
    have out : ∃ n : Nat, v = .int (n : Int) ∧ 1 ≤ n ∧ n ≤ 90 := by
      match d, hv with
      | 0, hv => cases hv; exact ⟨1, rfl, by decide, by decide⟩
      | 1, hv => cases hv; exact ⟨1, rfl, by decide, by decide⟩
      | 2, hv => cases hv; exact ⟨2, rfl, by decide, by decide⟩
      | 3, hv => cases hv; exact ⟨2, rfl, by decide, by decide⟩
      | 4, hv => cases hv; exact ⟨3, rfl, by decide, by decide⟩
      | 5, hv => cases hv; exact ⟨1, rfl, by decide, by decide⟩
      | 6, hv => cases hv; exact ⟨4, rfl, by decide, by decide⟩
      | 7, hv => cases hv; exact ⟨2, rfl, by decide, by decide⟩
      | 8, hv => cases hv; exact ⟨5, rfl, by decide, by decide⟩
      | 9, hv => cases hv; exact ⟨3, rfl, by decide, by decide⟩
      | 10, hv =>
        cases hv
        exact ⟨1 + d1, by simp, by omega, by omega⟩
      | 11, hv =>
        cases hv
        exact ⟨1 + d2, by simp, by omega, by omega⟩
      | d + 12, hv => cases hv
    obtain ⟨n, rfl, n1, n2⟩ := out
    exact k n H3 n1 n2 b13 p3
end
end Toy
set_option Elab.async false
set_option linter.all false
set_option maxRecDepth 100000
set_option maxHeartbeats 4000000
namespace Toy
open PySem L2 Q
abbrev Low (z : Str) : Prop := ∀ c ∈ z.cps.toList, 97 ≤ c ∧ c ≤ 122
abbrev small : Str := Str.ofString "abcdefghijklmnopqrstuvwxyz"
/-- a right name -/
abbrev NameOk (z : Str) : Prop := 1 ≤ z.length ∧ z.length ≤ 8 ∧ Low z
theorem small_at {j : Nat} (h : j < 26) : small.cps.toList[j]? = some (97 + j) := by
  have all : ∀ j : Fin 26, small.cps.toList[j.val]? = some (97 + j.val) := by decide +kernel
  exact all ⟨j, h⟩
theorem small_len : small.cps.toList.length = 26 := by decide +kernel
theorem roomU {k : Nat} {A : Around} (h : Room k A) : A.units + 2 < cLine := by
  have q := h.units
  omega
theorem len_list (z : Str) : z.length = z.cps.toList.length := rfl
theorem joinL_nil : ∀ ls : List (List Nat), TL.joinL [] ls = ls.flatten
  | [] => rfl
  | [p] => by simp [TL.joinL]
  | p :: q :: r => by
    rw [TL.joinL, joinL_nil (q :: r), List.flatten_cons (L := q :: r), List.nil_append]
theorem join_cps (ys : List Str) : (Txt.join (Str.ofString "") ys).cps.toList = (ys.map (·.cps.toList)).flatten := by
  rw [TL.join_eq]
  have e := TL.tl_join (Str.ofString "") ys
  have e0 : TL.tl (Str.ofString "") = [] := by decide +kernel
  rw [e0, joinL_nil] at e
  exact e
theorem flat_low : ∀ {ys : List Str}, (∀ y ∈ ys, y.length = 1 ∧ Low y) → (ys.map (·.cps.toList)).flatten.length = ys.length ∧ (∀ c ∈ (ys.map (·.cps.toList)).flatten, 97 ≤ c ∧ c ≤ 122) ∧
    (ys.map (·.length)).sum = ys.length
  | [], _ => ⟨rfl, fun _ h => (by cases h), rfl⟩
  | y :: ys, h => by
    obtain ⟨h1, h2⟩ := h y List.mem_cons_self
    obtain ⟨q1, q2, q3⟩ := flat_low fun z hz => h z (List.mem_cons_of_mem _ hz)
    rw [len_list] at h1
    refine ⟨?_, ?_, ?_⟩
    · rw [List.map_cons, List.flatten_cons, List.length_append, h1, q1, List.length_cons]
      omega
    · intro c hc
      rw [List.map_cons, List.flatten_cons, List.mem_append] at hc
      exact hc.elim (h2 c) (q2 c)
    · rw [List.map_cons, List.sum_cons, q3, len_list, h1, List.length_cons]
      omega
abbrev rPlus : R2 := fun x y H Q => ∃ i j, x = .str i ∧ y = .str j ∧ i.length + j.length ≤ sizeLine ∧ Q (.str (i ++ j)) H
abbrev rInt1 : List V → Hp → VK → Prop := fun xs H Q => (∃ i, xs = [.int i] ∧ Q (.int i) H) ∨ ∃ k, xs = [.bl k] ∧ Q (.int (if k then 1 else 0)) H
abbrev tName (K : PySem.W.Frag) : TE :=
  tOp rPlus (tOp rPlus (tSl rSlS (tVar 3) tNoPart (tPart (tVar 5))) (tOp (rIx K) (tVar 2) (tOp (rI (fun _ j => 0 < j) fun i j => .int (i % j))
    (tCB rInt1 (tCons (tOp (rI0 fun i j => .int (i + j)) (tVar 6) (tOp (rI CMulW fun i j => .int (i * j)) (tC (.int 5)) (tVar 8))) tNil)) (tC (.int 26)))))
    (tSl rSlS (tVar 3) (tPart (tVar 5)) tNoPart)
/-- the k-th name: a letter put into the stem -/
def nameL (z : Str) (sp a k : Nat) : List Nat := z.cps.toList.take sp ++ (97 + (a + 5 * k) % 26) :: z.cps.toList.drop sp
def nameS (z : Str) (sp a k : Nat) : Str := ⟨(nameL z sp a k).toArray⟩
theorem cutS_take (z : Str) (d : Nat) : (cutS z none (some (d : Int))).cps.toList = z.cps.toList.take d := by
  unfold cutS
  rw [HT.sIx_nat, HT.sIx_none, List.toList_toArray, List.drop_zero, Nat.sub_zero]
  rcases Nat.le_total d z.length with h | h
  · rw [Nat.min_eq_left h]
  · rw [Nat.min_eq_right h]
    show z.cps.toList.take z.cps.toList.length = _
    rw [List.take_length, List.take_of_length_le h]
theorem cutS_drop (z : Str) (d : Nat) : (cutS z (some (d : Int)) none).cps.toList = z.cps.toList.drop d := by
  unfold cutS
  rw [HT.sIx_nat, HT.sIx_none, List.toList_toArray, List.take_of_length_le (by rw [List.length_drop]; exact Nat.le_refl _)]
  rcases Nat.le_total d z.length with h | h
  · rw [Nat.min_eq_left h]
  · rw [Nat.min_eq_right h]
    show z.cps.toList.drop z.cps.toList.length = _
    rw [List.drop_length, List.drop_eq_nil_of_le h]
theorem name_eq (z : Str) (sp a k : Nat) : cutS z none (some (sp : Int)) ++ (⟨#[97 + (a + 5 * k) % 26]⟩ : Str) ++ cutS z (some (sp : Int)) none = nameS z sp a k := by
  apply Q.str_ext
  have e := TL.tl_append (cutS z none (some (sp : Int)) ++ (⟨#[97 + (a + 5 * k) % 26]⟩ : Str)) (cutS z (some (sp : Int)) none)
  have e2 := TL.tl_append (cutS z none (some (sp : Int))) (⟨#[97 + (a + 5 * k) % 26]⟩ : Str)
  refine Eq.trans e ?_
  rw [e2]
  show (cutS z none (some (sp : Int))).cps.toList ++ [97 + (a + 5 * k) % 26] ++ (cutS z (some (sp : Int)) none).cps.toList = nameL z sp a k
  rw [cutS_take, cutS_drop, List.append_assoc]
  rfl
theorem name_inj {z : Str} {sp a k l : Nat} (hk : k < 26) (hl : l < 26) (e : nameS z sp a k = nameS z sp a l) : k = l := by
  have e1 : nameL z sp a k = nameL z sp a l := by
    have q := congrArg (fun s : Str => s.cps.toList) e
    exact q
  unfold nameL at e1
  have e2 := List.append_cancel_left e1
  injection e2 with e3 _
  omega
theorem name_ok {z : Str} {sp a k : Nat} (hz : z.length ≤ 7) (low : Low z) : NameOk (nameS z sp a k) := by
  have hl : (nameS z sp a k).length = z.length + 1 := by
    show (nameL z sp a k).length = _
    unfold nameL
    rw [List.length_append, List.length_cons, List.length_take, List.length_drop, len_list]
    omega
  refine ⟨by omega, by omega, fun c hc => ?_⟩
  have hc : c ∈ nameL z sp a k := hc
  unfold nameL at hc
  rcases List.mem_append.mp hc with h | h
  · exact low c (List.mem_of_mem_take h)
  · rcases List.mem_cons.mp h with h | h
    · have : (a + 5 * k) % 26 < 26 := Nat.mod_lt _ (by decide)
      omega
    · exact low c (List.mem_of_mem_drop h)
/-- _law_names(pot, n): n unlike right names in their order -/
def spNames (K : PySem.W.Frag) : Sp := fun vs H Q _ => ∃ (p : Addr) (n B : Nat), vs = [.ref p, .int (n : Int)] ∧ Pot H p B ∧ B < 999900 ∧ n ≤ 26 ∧
  ∀ (zs : List Str) (q : Addr) (H' : Hp), zs.length = n → zs.Pairwise tLt → (∀ z ∈ zs, NameOk z) → But p H H' → Pot H' p (B + 20) → H q = none → H' q = some (.lst (zs.map V.str)) → Q (.ref q) H'
section
variable {P : Program} {w : World} {K : PySem.W.Frag} {mg : Str → Option Value} {base : Heap} {ca ia fa : Nat → Addr} {fd fi : Nat → FuncData}
theorem ok_names (T : Txt K mg ca ia fa fd fi) : FnOk P w K mg base CX0 3 (fa 40) (fd 40) ["_law_pot_here", "_law_many"] (spNames K) := by
  have G_l_take := ok_take (P := P) (w := w) (base := base) T
  have G_l_of := ok_of (P := P) (w := w) (base := base) T
  refine T.F_l_names.ok sc_l_names (fun vs H Q E h => ?_) (fun cdv A outer s H vs Q E hr h => ?_)
  · obtain ⟨p, n, B, rfl, _⟩ := h
    rfl
  · obtain ⟨p, n, B, rfl, hp, hB, hn, k⟩ := h
    refine ⟨_, (pss_cons (ps_set (i := 2) sc_l_names.nd rfl (Or.inr rfl) pe_str)
      (pss_cons (ps_set (i := 3) sc_l_names.nd rfl (Or.inr rfl) (pe_join pe_str (pe_lc (own := [("_law_turn", 4)]) (g := (gName 4)) (tt := tYes) rfl sc_l_names.nd (pi_range1 rfl T.n_range (pa_cons (pe_call G_l_of (hr.mono (by decide)) rfl T.g_l_of T.k_l_of T.b_l_of .nil pass0 (pa_cons (pv 0) (pa_cons (pe_lst (pa_cons pe_int (pa_cons pe_int (pa_cons pe_int (pa_cons pe_int (pa_cons pe_int (pa_cons pe_int (pa_cons pe_int (pa_cons pe_int (pa_cons pe_int pa_nil)))))))))) pa_nil))) pa_nil)) (blkOk_by (own := [("_law_turn", 4)]) (N := N_l_names) (sc := defScope s_l_names) (by decide +kernel)) (fun _ _ _ _ _ => (pg_name (i := 4) sc_l_names.nd rfl (Or.inl rfl))) (fun _ _ _ _ _ => pts_nil) (fun _ _ _ _ _ => by exact (pe_call G_l_of (hr.mono (by decide)) rfl T.g_l_of T.k_l_of T.b_l_of .nil pass0 (pa_cons (pv 0) (pa_cons (pv 2) pa_nil)))))))
      (pss_cons (ps_asg (pe_tup (pa_cons (pe_call G_l_take (hr.mono (by decide)) rfl T.g_l_take T.k_l_take T.b_l_take .nil pass0 (pa_cons (pv 0) (pa_cons (pe_op op_add (pe_callB call_len (by rfl) T.n_len (by decide +kernel) (pa_cons (pv 3) pa_nil)) pe_int) pa_nil))) (pa_cons (pe_call G_l_take (hr.mono (by decide)) rfl T.g_l_take T.k_l_take T.b_l_take .nil pass0 (pa_cons (pv 0) (pa_cons pe_int pa_nil))) pa_nil))) (pg_tup rfl (pgs_cons (pg_name (i := 5) sc_l_names.nd rfl (Or.inr rfl)) (pgs_cons (pg_name (i := 6) sc_l_names.nd rfl (Or.inr rfl)) pgs_nil))))
      (pss_cons (ps_setLc (i := 7) (own := [("_law_k", 8)]) (g := (gName 8)) (tt := tYes) (te := (tName K)) rfl sc_l_names.nd rfl rfl (sw_true rfl rfl rfl (by decide +kernel)) (pi_range1 rfl T.n_range (pa_cons (pv 1) pa_nil)) (blkOk_by (own := [("_law_k", 8)]) (N := N_l_names) (sc := defScope s_l_names) (by decide +kernel)) (fun _ _ _ _ _ => (pg_name (i := 8) sc_l_names.nd rfl (Or.inl rfl))) (fun _ _ _ _ _ => pts_nil) (fun _ _ _ _ _ => by exact (pe_op op_add_str (pe_op op_add_str (pe_slice sl_str (pv 3) po_none (po_some (pv 5))) (pe_ix ix_seq (pv 2) (pe_op op_mod (pe_callTy call_int1 (by rfl) T.n_int (by decide +kernel) (pa_cons (pe_op op_add (pv 6) (pe_op op_mulW pe_int (pv 8))) pa_nil)) pe_int) (fun _ _ => rfl))) (pe_slice sl_str (pv 3) (po_some (pv 5)) po_none))))
      (pss_one (ps_ret (pe_callB (cr_sortTx rfl (roomU hr)) (by rfl) T.n_sorted (by decide +kernel) (pa_cons (pe_callTy (cr_setTx rfl) (by rfl) T.n_set (by decide +kernel) (pa_cons (pv 7) pa_nil)) pa_nil)))))))), ?_⟩
    refine seqS (fun v H' => H = H' ∧ v = .str small) (fun Q k' => k' _ _ ⟨rfl, rfl⟩) ?_
    rintro _ _ ⟨rfl, rfl⟩
    refine seqS (fun v H' => ∃ z : Str, v = .str z ∧ z.length ≤ 7 ∧ Low z ∧ But p H H' ∧ Pot H' p (B + 9)) (fun Q k' => ?_) ?_
    · refine ⟨⟨_, rfl⟩, ?_⟩
      refine ⟨_, rfl, by show 9 ≤ sizeLine; decide, fun l nl => ?_⟩
      have nlp : l ≠ p := pot_none hp nl
      refine ⟨p, .ref l, _, B, rfl, hp.same (same_new nl), by omega, .inl ⟨l, rfl, nlp, SqL.of upd_same⟩, by show 0 < 9; decide, by show 9 < 1073741824; decide, fun d v H3 hv b3 p3 => ?_⟩
      have b13 := (But.of (same_new nl)).trans b3
      obtain ⟨m, rfl, hm⟩ : ∃ m : Nat, v = .int (m : Int) ∧ m ≤ 7 := by
        match d, hv with
        | 0, hv => cases hv; exact ⟨0, rfl, by decide⟩
        | 1, hv => cases hv; exact ⟨0, rfl, by decide⟩
        | 2, hv => cases hv; exact ⟨1, rfl, by decide⟩
        | 3, hv => cases hv; exact ⟨2, rfl, by decide⟩
        | 4, hv => cases hv; exact ⟨3, rfl, by decide⟩
        | 5, hv => cases hv; exact ⟨4, rfl, by decide⟩
        | 6, hv => cases hv; exact ⟨5, rfl, by decide⟩
        | 7, hv => cases hv; exact ⟨6, rfl, by decide⟩
        | 8, hv => cases hv; exact ⟨7, rfl, by decide⟩
        | d + 9, hv => cases hv
      refine ⟨_, rfl, by omega, by omega, fun D hD => ?_⟩
      have nDp : D ≠ p := pot_none p3 hD
      refine lc_range (lo := 0) (n := (m : Int).toNat) (fun i H' => ∃ ys : List Str, ys.length = i ∧ H' D = some (.lst (ys.map V.str)) ∧ (∀ y ∈ ys, y.length = 1 ∧ Low y) ∧ But p H H' ∧ Pot H' p (B + 1 + i))
        ⟨[], rfl, upd_same, fun _ h => (by cases h), b13.trans (But.of (same_new hD)), p3.same (same_new hD)⟩ ?_ ?_
      · rintro i H1 hi ⟨ys, hlen, h1, hy, b1, p1⟩
        refine ⟨rfl, ?_⟩
        dsimp only [tYes]
        rw [if_pos rfl]
        refine ⟨_, rfl, _, rfl, p, .str small, _, B + 1 + i, rfl, p1, by omega, .inr (.inr ⟨small, rfl, rfl, by decide +kernel⟩), ?_, ?_, fun d v H2 hv b2 p2 => ?_⟩
        · rw [List.length_map, small_len]; decide
        · rw [List.length_map, small_len]; decide
        rw [List.getElem?_map] at hv
        obtain ⟨c, hc, rfl⟩ := Option.map_eq_some_iff.mp hv
        have hd : d < 26 := by
          have q := (List.getElem?_eq_some_iff.mp hc).1
          rw [small_len] at q
          exact q
        rw [small_at hd] at hc
        cases hc
        refine ⟨_, b2 _ _ nDp h1, ?_, ys ++ [⟨#[97 + d]⟩], by simp [hlen], ?_, ?_, ?_, ?_⟩
        · rw [List.length_map, sizeLine_eq]
          omega
        · rw [upd_same, List.map_append]
          rfl
        · intro y hy2
          rcases List.mem_append.mp hy2 with q | q
          · exact hy y q
          · rw [List.mem_singleton.mp q]
            refine ⟨rfl, fun c hc => ?_⟩
            have e : c = 97 + d := by simpa using hc
            omega
        · intro b o nb e
          have nbD : b ≠ D := by
            rintro rfl
            rw [b13 b o nb e] at hD
            cases hD
          rw [upd_ne nbD]
          exact b2 _ _ nb (b1 _ _ nb e)
        · obtain ⟨o, sd, c, e, r⟩ := p2
          exact ⟨o, sd, c, by rw [upd_ne nDp.symm]; exact e, by omega⟩
      · rintro H1 ⟨ys, hlen, h1, hy, b1, p1⟩
        obtain ⟨f1, f2, f3⟩ := flat_low hy
        refine ⟨_, D, ys, rfl, rfl, .inl (SqL.of h1), ?_, k' _ _ ⟨_, rfl, ?_, ?_, b1, p1.mono (by omega)⟩⟩
        · show _ + ys.length * 0 ≤ _
          rw [f3]
          omega
        · rw [len_list, join_cps, f1]
          omega
        · intro c hc
          rw [join_cps] at hc
          exact f2 c hc
    rintro _ H1 ⟨z, rfl, hz, low, b1, p1⟩
    refine seqA (fun v H' => ∃ (sp a : Nat) (tq : Addr), v = .ref tq ∧ a < 26 ∧ H' tq = some (.tup [.int (sp : Int), .int (a : Int)]) ∧ But p H1 H' ∧ Pot H' p (B + 11)) (fun Q k' => ?_) ?_
    · refine ⟨_, rfl, _, rfl, _, _, rfl, ⟨by rw [sizeLine_eq]; omega, rfl⟩, _, _, rfl, rfl, p, ((z.length : Nat) : Int) + 1, B + 9, rfl, p1, by omega, by omega, by omega, fun sp H2 hsp b2 p2 => ?_⟩
      refine ⟨_, rfl, p, 26, B + 10, rfl, p2, by decide, by decide, by omega, fun a H3 ha b3 p3 => ?_⟩
      refine ⟨by show 2 ≤ sizeLine; decide, fun t nt => k' _ _ ⟨sp, a, t, rfl, by omega, upd_same, ?_, p3.same (same_new nt)⟩⟩
      exact (b2.trans b3).trans (But.of (same_new nt))
    rintro _ H2 ⟨sp, a, tq, rfl, ha, htq, b2, p2⟩
    refine ⟨tq, _, rfl, SqT.of htq, rfl, _, _, rfl, _, _, rfl, rfl, ?_⟩
    have hz2 : z.length ≤ sizeLine := by rw [sizeLine_eq]; omega
    refine seqS (fun v H' => ∃ l, v = .ref l ∧ Same H2 H' ∧ H2 l = none ∧ H' l = some (.lst (((List.range n).map (nameS z sp a)).map V.str))) (fun Q k' => ?_) ?_
    · refine ⟨_, rfl, _, rfl, by omega, by omega, fun D hD => ?_⟩
      refine lc_range (lo := 0) (n := (n : Int).toNat) (fun i H' => H' D = some (.lst (((List.range i).map (nameS z sp a)).map V.str)) ∧ Same H2 H') ⟨upd_same, same_new hD⟩ ?_ ?_
      · rintro i H3 hi ⟨h3, s3⟩
        refine ⟨rfl, ?_⟩
        dsimp only [tYes]
        rw [if_pos rfl]
        refine ⟨_, rfl, _, rfl, _, rfl, z, rfl, hz2, ?_⟩
        have m1 : CMulW 5 (0 + (i : Int)) := mulOk (by decide) (by omega)
        refine ⟨_, rfl, _, rfl, _, rfl, _, _, rfl, rfl, m1, _, _, rfl, rfl, .inl ⟨_, rfl, _, _, rfl, rfl, (show (0 : Int) < 26 by decide), ?_⟩⟩
        have ei : ((a : Int) + 5 * (0 + (i : Int))) % 26 = (((a + 5 * i) % 26 : Nat) : Int) := by omega
        show rIx K (.str small) (.int (((a : Int) + 5 * (0 + (i : Int))) % 26)) _ _
        rw [ei]
        have l26 : (a + 5 * i) % 26 < 26 := Nat.mod_lt _ (by decide)
        refine .inr (.inr ⟨small, _, 97 + (a + 5 * i) % 26, rfl, rfl, by decide +kernel, atI_nat (small_at l26), ?_⟩)
        have c1 : (cutS z none (some (sp : Int))).length ≤ 7 := by rw [len_list, cutS_take, List.length_take]; rw [len_list] at hz; omega
        have c2 : (cutS z (some (sp : Int)) none).length ≤ 7 := by rw [len_list, cutS_drop, List.length_drop]; rw [len_list] at hz; omega
        have c3 : (cutS z none (some (sp : Int)) ++ (⟨#[97 + (a + 5 * i) % 26]⟩ : Str)).length ≤ 8 := by
          have e := TL.tl_append (cutS z none (some (sp : Int))) (⟨#[97 + (a + 5 * i) % 26]⟩ : Str)
          have e2 := congrArg List.length e
          rw [List.length_append] at e2
          rw [len_list] at c1 ⊢
          refine Nat.le_trans (Nat.le_of_eq e2) ?_
          show _ + 1 ≤ 8
          exact Nat.add_le_add_right c1 1
        refine ⟨_, _, rfl, rfl, ?_, ?_⟩
        · show _ + 1 ≤ sizeLine
          rw [sizeLine_eq]
          omega
        refine ⟨_, rfl, _, rfl, _, rfl, z, rfl, hz2, _, _, rfl, rfl, ?_, ?_⟩
        · rw [sizeLine_eq]
          omega
        refine ⟨_, h3, ?_, ?_, ?_⟩
        · rw [List.length_map, List.length_map, List.length_range, sizeLine_eq]
          omega
        · rw [upd_same, name_eq, List.range_succ, List.map_append, List.map_append]
          rfl
        · intro b o e
          rw [upd_ne (ne_of_none e hD)]
          exact s3 b o e
      · rintro H3 ⟨h3, s3⟩
        exact k' _ _ ⟨D, rfl, s3, hD, h3⟩
    rintro _ H3 ⟨l, rfl, s3, nl, hl⟩
    have nd : ((List.range n).map (nameS z sp a)).Nodup := by
      refine List.pairwise_map.mpr (List.Pairwise.imp_of_mem (fun {i j} hi hj ne e => ?_) List.nodup_range)
      exact ne (name_inj (Nat.lt_of_lt_of_le (List.mem_range.mp hi) hn) (Nat.lt_of_lt_of_le (List.mem_range.mp hj) hn) e)
    have ln : ((List.range n).map (nameS z sp a)).length = n := by rw [List.length_map, List.length_range]
    refine ⟨_, rfl, l, _, rfl, SqL.of hl, nd, by omega, fun S us ru nS => ?_⟩
    refine ⟨S, us, _, rfl, upd_same, ru, nd, by omega, fun q zs pz pw nq => ?_⟩
    have p3 := (p2.same s3).same (same_new (o := SetM w S us) nS)
    have b3 : But p H (upd H3 S (SetM w S us)) := ((b1.trans b2).trans (But.of s3)).trans (But.of (same_new nS))
    refine k zs q _ (pz.length_eq.trans ln) pw (fun y hy => ?_) (b3.trans (But.of (same_new nq))) ((p3.same (same_new nq)).mono (by omega)) (but_none b3 p3 nq) upd_same
    obtain ⟨i, _, rfl⟩ := List.mem_map.mp (pz.mem_iff.mp hy)
    exact name_ok hz low
end
end Toy
set_option Elab.async false
set_option linter.all false
set_option maxRecDepth 100000
set_option maxHeartbeats 4000000
namespace Toy
open PySem L2 Q
theorem roomU65 {k : Nat} {A : Around} (h : Room k A) : A.units + 65 < cLine := by
  have q := h.un
  omega
abbrev tPairTest (K : PySem.W.Frag) : TT := tTest (tOp (rNotInD K) (tTup (tCons (tVar 9) (tCons (tVar 10) tNil))) (tVar 4))
abbrev pairK (a b : Str) : List Key := [.inr a, .inr b]
/-- unlike ascending pairs of the names zs, each a tuple -/
def PairsOk (H : Hp) (zs : List Str) (ps : List (Addr × List Key)) : Prop :=
  (∀ q ∈ ps, H q.1 = some (.tup (q.2.map kV)) ∧ ∃ a b, q.2 = pairK a b ∧ a ∈ zs ∧ b ∈ zs ∧ tLt a b) ∧ (ps.map (·.2)).Nodup
/-- _law_pairs(pot, routers, many) -/
def spPairs (K : PySem.W.Frag) : Sp := fun vs H Q _ => ∃ (p r : Addr) (zs : List Str) (m B : Nat), vs = [.ref p, .ref r, .int (m : Int)] ∧ Pot H p B ∧ B < 999000 ∧ r ≠ p ∧
  SqT K H r (zs.map V.str) ∧ zs.Pairwise tLt ∧ (∀ z ∈ zs, NameOk z) ∧ 2 ≤ zs.length ∧ zs.length ≤ 8 ∧
  ∀ (ps : List (Addr × List Key)) (l : Addr) (H' : Hp), PairsOk H' zs ps → (ps.length ≤ m ∨ ps.length < zs.length) → But p H H' → Pot H' p (B + 30) → H l = none → H' l = some (.lst (ps.map fun q => V.ref q.1)) → Q (.ref l) H'
theorem perm_map {α β : Type} (g : α → β) {ys ws : List β} (p : ys.Perm ws) : ∀ {zs : List α}, ws = zs.map g → ∃ os : List α, os.Perm zs ∧ ys = os.map g := by
  induction p with
  | nil =>
    intro zs e
    cases zs with
    | nil => exact ⟨[], .nil, rfl⟩
    | cons z zs => cases e
  | cons x _ ih =>
    intro zs e
    cases zs with
    | nil => cases e
    | cons z zs =>
      injection e with e1 e2
      obtain ⟨os, q, r⟩ := ih e2
      exact ⟨z :: os, .cons _ q, by rw [e1, r, List.map_cons]⟩
  | swap x y l =>
    intro zs e
    cases zs with
    | nil => cases e
    | cons z zs =>
      cases zs with
      | nil => cases e
      | cons z2 zs =>
        injection e with e1 e2
        injection e2 with e2 e3
        exact ⟨z2 :: z :: zs, .swap _ _ _, by rw [e1, e2, e3, List.map_cons, List.map_cons]⟩
  | trans _ _ ih1 ih2 =>
    intro zs e
    obtain ⟨os, q, r⟩ := ih2 e
    obtain ⟨os2, q2, r2⟩ := ih1 r
    exact ⟨os2, q2.trans q, r2⟩
theorem ifAny {t : TT} {a u : TS} {D : Ends} {σ : L2.St} {H : Hp} (P : Hp → Prop) (h : ∀ Q : Bool → Hp → Prop, (∀ b H', P H' → Q b H') → t σ H Q)
    (ka : ∀ H', P H' → a D σ H') (ku : ∀ H', P H' → u D σ H') : tIfS t a u D σ H := h _ fun b H' p => by
  cases b
  · exact ku H' p
  · exact ka H' p
theorem for_enT {K : PySem.W.Frag} {a : Addr} {xs : List V} {g : TG} {tb : TS} {D : Ends} {σ : L2.St} {H : Hp} (Pv : Nat → L2.St → Hp → Prop) (h0 : Pv 0 σ H)
    (hl : ∀ i σ H, i ≤ xs.length → Pv i σ H → SqT K H a xs)
    (hs : ∀ i x T σ H, xs[i]? = some x → Pv i σ H → H T = none → g (.ref T) σ (upd H T (.tup [.int (i : Nat), x])) fun σ2 H2 => tb { D with nx := Pv (i + 1), ct := Pv (i + 1), bk := D.nx } σ2 H2)
    (hd : ∀ σ H, Pv xs.length σ H → D.nx σ H) :
    ∃ W : Nat → Nat → L2.St → Hp → Prop, (∃ m, W 0 m σ H) ∧ ∀ i m σ H, W i m σ H → ((ItT K a xs).stop i H ∧ D.nx σ H) ∨ ((ItT K a xs).go i H ∧
      ∃ N : L2.St → Hp → Prop, (∀ σ' H', N σ' H' → ∃ m', m' < m ∧ W (i + 1) m' σ' H') ∧ ∀ x H', (ItT K a xs).yld i H x H' → g x σ H' fun σ2 H2 => tb { D with nx := N, ct := N, bk := D.nx } σ2 H2) := by
  refine ⟨fun i m σ H => m + i = xs.length ∧ Pv i σ H, ⟨xs.length, rfl, h0⟩, ?_⟩
  rintro i m σ H ⟨e, q⟩
  have sq := hl i σ H (by omega) q
  by_cases hi : i < xs.length
  · refine .inr ⟨⟨sq, hi⟩, Pv (i + 1), fun σ' H' z => ⟨m - 1, by omega, by omega, z⟩, ?_⟩
    rintro x H' ⟨T, y, rfl, nT, rfl, hy⟩
    exact hs i y T σ H hy q nT
  · exact .inl ⟨⟨sq, by omega⟩, hd σ H (by rwa [show xs.length = i by omega])⟩
abbrev kT (q : Addr × List Key) : PyData := .tuple (q.2.map kD)
theorem pair_eqv (a b x y : Str) : PyData.eqv (.tuple ((pairK a b).map kD)) (.tuple [.str x, .str y]) = decide (pairK a b = pairK x y) := by
  rw [Bool.eq_iff_iff]
  simp [PyData.eqv, PyData.eqvAll, kD, pairK]
theorem low_ok {x : Str} (h : Low x) : PyData.strOk x = true := by
  unfold PyData.strOk
  rw [← Array.all_toList, List.all_eq_true]
  intro c hc
  have := h c hc
  exact decide_eq_true (by omega)
theorem pair_shaped {x y : Str} (hx : Low x) (hy : Low y) : SeqAt.shaped (.tuple [.str x, .str y]) = true := by
  simp [SeqAt.shaped, PyData.canLay0, PyData.canLayAll0, PyData.depth, PyData.depthAll, low_ok hx, low_ok hy]
theorem rows_shaped {ps : List (Addr × List Key)} (h : ∀ q ∈ ps, ∃ a b, q.2 = pairK a b ∧ Low a ∧ Low b) : SeqAt.shaped (.list (ps.map kT)) = true := by
  have main : PyData.canLayAll0 (ps.map kT) = true ∧ PyData.depthAll (ps.map kT) ≤ 1 := by
    induction ps with
    | nil => simp [PyData.canLayAll0, PyData.depthAll]
    | cons q ps ih =>
      obtain ⟨i1, i2⟩ := ih fun z hz => h z (List.mem_cons_of_mem _ hz)
      obtain ⟨a, b, e, la, lb⟩ := h q List.mem_cons_self
      have c1 : (kT q).canLay0 = true := by
        rw [kT, e]
        simp [PyData.canLay0, PyData.canLayAll0, kD, pairK, low_ok la, low_ok lb]
      have c2 : (kT q).depth ≤ 1 := by
        rw [kT, e]
        simp [PyData.depth, PyData.depthAll, kD, pairK]
      rw [List.map_cons, PyData.canLayAll0, PyData.depthAll]
      exact ⟨by rw [c1, i1]; rfl, Nat.max_le.mpr ⟨c2, i2⟩⟩
  have d1 : (PyData.list (ps.map kT)).depth ≤ 2 := by
    rw [PyData.depth]
    have := main.2
    omega
  have d2 : (PyData.list (ps.map kT)).canLay0 = true := by
    rw [PyData.canLay0]
    exact main.1
  unfold SeqAt.shaped
  rw [d2, Bool.true_and]
  exact decide_eq_true (by omega)
theorem rows_dp {K : PySem.W.Frag} {H : Hp} : ∀ {ps : List (Addr × List Key)}, (∀ q ∈ ps, H q.1 = some (.tup (q.2.map kV)) ∧ ∃ a b, q.2 = pairK a b) → DpAll K H (ps.map fun q => V.ref q.1) (ps.map kT)
  | [], _ => .nil
  | q :: ps, h => by
    obtain ⟨e, a, b, e2⟩ := h q List.mem_cons_self
    refine .cons ?_ (rows_dp fun z hz => h z (List.mem_cons_of_mem _ hz))
    rw [kT, e2]
    rw [e2] at e
    exact .tup (SqT.of e) (.cons (.str a) (.cons (.str b) .nil))
theorem rows_any {ps : List (Addr × List Key)} (h : ∀ q ∈ ps, ∃ a b, q.2 = pairK a b) (x y : Str) :
    ((ps.map kT).any fun z => PyData.eqv z (.tuple [.str x, .str y])) = true ↔ pairK x y ∈ ps.map fun q : Addr × List Key => q.2 := by
  induction ps with
  | nil => simp
  | cons q ps ih =>
    obtain ⟨a, b, e⟩ := h q List.mem_cons_self
    rw [List.map_cons, List.any_cons, Bool.or_eq_true, ih fun z hz => h z (List.mem_cons_of_mem _ hz), kT, e, pair_eqv, decide_eq_true_eq, List.map_cons, List.mem_cons, e]
    exact or_congr_left eq_comm
/-- the pairs found so far, among the first n of the names os -/
structure Fnd (p f o : Addr) (H0 H : Hp) (os : List Str) (n B : Nat) (ps : List (Addr × List Key)) : Prop where
  kf : H f = some (.lst (ps.map fun q => V.ref q.1))
  ko : H o = some (.lst (os.map V.str))
  el : ∀ q ∈ ps, H q.1 = some (.tup (q.2.map kV)) ∧ ∃ a b, q.2 = pairK a b ∧ a ∈ os.take n ∧ b ∈ os.take n ∧ tLt a b
  nd : (ps.map (·.2)).Nodup
  sz : ps.length < n
  bu : But p H0 H
  po : Pot H p B
  nf : H0 f = none
  fp : f ≠ p
  op : o ≠ p
  fo : f ≠ o
section
variable {p f o : Addr} {H0 H H' : Hp} {os : List Str} {n B B' : Nat} {ps : List (Addr × List Key)}
theorem tup_notp {t : Addr} {xs : List V} (h : H t = some (.tup xs)) (hp : Pot H p B) : t ≠ p := by
  rintro rfl
  obtain ⟨_, _, _, e, _⟩ := hp
  rw [h] at e
  cases e
theorem Fnd.on (h : Fnd p f o H0 H os n B ps) (b : But p H H') (q : Pot H' p B') : Fnd p f o H0 H' os n B' ps :=
  ⟨b _ _ h.fp h.kf, b _ _ h.op h.ko, fun x hx => ⟨b _ _ (tup_notp (h.el x hx).1 h.po) (h.el x hx).1, (h.el x hx).2⟩, h.nd, h.sz, h.bu.trans b, q, h.nf, h.fp, h.op, h.fo⟩
theorem Fnd.same (h : Fnd p f o H0 H os n B ps) (s : Same H H') : Fnd p f o H0 H' os n B ps := h.on (But.of s) (h.po.same s)
theorem Fnd.wide (h : Fnd p f o H0 H os n B ps) (hB : B ≤ B') : Fnd p f o H0 H os (n + 1) B' ps :=
  ⟨h.kf, h.ko, fun x hx => by
    obtain ⟨e, a, b, e1, ha, hb, lt⟩ := h.el x hx
    have sub : ∀ c, c ∈ os.take n → c ∈ os.take (n + 1) := fun c hc => (List.take_sublist_take_left (Nat.le_succ n)).subset hc
    exact ⟨e, a, b, e1, sub a ha, sub b hb, lt⟩, h.nd, Nat.lt_succ_of_lt h.sz, h.bu, h.po.mono hB, h.nf, h.fp, h.op, h.fo⟩
theorem Fnd.push (h : Fnd p f o H0 H os n B ps) {t : Addr} {x y a b : Str} (ht : H t = some (.tup [.str a, .str b])) (hx : os[n]? = some x) (hy : y ∈ os.take n) (ab : (a = x ∧ b = y) ∨ (a = y ∧ b = x)) (lt : tLt a b)
    (nd : os.Nodup) : Fnd p f o H0 (upd H f (.lst ((ps.map fun q => V.ref q.1) ++ [.ref t]))) os (n + 1) B (ps ++ [(t, pairK a b)]) := by
  have hw := h.wide (Nat.le_refl B)
  have e3 : os.take (n + 1) = os.take n ++ [x] := by rw [List.take_add_one, hx]; rfl
  have xin : x ∈ os.take (n + 1) := by rw [e3]; simp
  have yin : y ∈ os.take (n + 1) := by rw [e3]; exact List.mem_append_left _ hy
  have xout : x ∉ os.take n := by
    intro hm
    obtain ⟨j, hj, e⟩ := List.getElem_of_mem hm
    rw [List.length_take] at hj
    rw [List.getElem_take] at e
    obtain ⟨hi, ei⟩ := List.getElem?_eq_some_iff.mp hx
    exact List.pairwise_iff_getElem.mp nd j n (by omega) hi (by omega) (by rw [e, ei])
  have notf : ∀ {c : Addr} {zs : List V}, H c = some (.tup zs) → c ≠ f := fun {c zs} e z => by
    rw [z, h.kf] at e
    cases e
  refine ⟨?_, ?_, fun q hq => ?_, ?_, ?_, ?_, ?_, h.nf, h.fp, h.op, h.fo⟩
  · rw [upd_same, List.map_append]
    rfl
  · rw [upd_ne h.fo.symm]
    exact h.ko
  · rcases List.mem_append.mp hq with z | z
    · obtain ⟨e, r⟩ := hw.el q z
      exact ⟨by rw [upd_ne (notf e)]; exact e, r⟩
    · rw [List.mem_singleton.mp z]
      refine ⟨by rw [upd_ne (notf ht)]; exact ht, a, b, rfl, ?_, ?_, lt⟩
      · rcases ab with ⟨rfl, rfl⟩ | ⟨rfl, rfl⟩
        · exact xin
        · exact yin
      · rcases ab with ⟨rfl, rfl⟩ | ⟨rfl, rfl⟩
        · exact yin
        · exact xin
  · rw [List.map_append]
    refine List.nodup_append.mpr ⟨h.nd, by simp, ?_⟩
    intro k hk l hl e
    have el : l = pairK a b := by simpa using hl
    obtain ⟨q, hq, eq⟩ := List.mem_map.mp hk
    obtain ⟨_, a2, b2, e2, ha2, hb2, _⟩ := h.el q hq
    rw [eq, e, el] at e2
    injection e2 with q1 q2
    injection q1 with q1
    injection q2 with q2 _
    injection q2 with q2
    rcases ab with ⟨rfl, rfl⟩ | ⟨rfl, rfl⟩
    · exact xout (q1 ▸ ha2)
    · exact xout (q2 ▸ hb2)
  · rw [List.length_append, List.length_singleton]
    exact Nat.succ_lt_succ h.sz
  · intro c u nc e
    have ncf : c ≠ f := by
      rintro rfl
      rw [h.nf] at e
      cases e
    rw [upd_ne ncf]
    exact h.bu c u nc e
  · obtain ⟨o1, s1, c1, e, r⟩ := h.po
    exact ⟨o1, s1, c1, by rw [upd_ne h.fp.symm]; exact e, r⟩
end
/-- the other pairs so far -/
structure Rst (g : Addr) (H : Hp) (zs : List Str) (i : Nat) (ps rs : List (Addr × List Key)) : Prop where
  kg : H g = some (.lst (rs.map fun q => V.ref q.1))
  el : ∀ q ∈ rs, H q.1 = some (.tup (q.2.map kV)) ∧ ∃ a b, q.2 = pairK a b ∧ a ∈ zs.take i ∧ b ∈ zs ∧ tLt a b ∧ q.2 ∉ ps.map fun q : Addr × List Key => q.2
  nd : (rs.map (·.2)).Nodup
  sz : rs.length ≤ 8 * i
theorem Fnd.other {p f o g : Addr} {H0 H : Hp} {os : List Str} {n B : Nat} {ps : List (Addr × List Key)} (h : Fnd p f o H0 H os n B ps) {xs ys : List V} (hg : H g = some (.lst xs)) (n0 : H0 g = none) (gp : g ≠ p) (gf : g ≠ f) (go : g ≠ o) :
    Fnd p f o H0 (upd H g (.lst ys)) os n B ps := by
  refine ⟨by rw [upd_ne gf.symm]; exact h.kf, by rw [upd_ne go.symm]; exact h.ko, fun q hq => ?_, h.nd, h.sz, fun c u nc e => ?_, ?_, h.nf, h.fp, h.op, h.fo⟩
  · obtain ⟨e, r⟩ := h.el q hq
    refine ⟨?_, r⟩
    rw [upd_ne]
    · exact e
    · intro z
      rw [z, hg] at e
      cases e
  · rw [upd_ne]
    · exact h.bu c u nc e
    · rintro rfl
      rw [n0] at e
      cases e
  · obtain ⟨o1, s1, c1, e, r⟩ := h.po
    exact ⟨o1, s1, c1, by rw [upd_ne gp.symm]; exact e, r⟩
section
variable {P : Program} {w : World} {K : PySem.W.Frag} {mg : Str → Option Value} {base : Heap} {ca ia fa : Nat → Addr} {fd fi : Nat → FuncData}
theorem ok_pairs (T : Txt K mg ca ia fa fd fi) : FnOk P w K mg base CX0 3 (fa 42) (fd 42) ["_law_pot_here", "_law_routers", "_law_many"] (spPairs K) := by
  have G_l_take := ok_take (P := P) (w := w) (base := base) T
  have G_l_turned := ok_turned (P := P) (w := w) (base := base) T
  refine T.F_l_pairs.ok sc_l_pairs (fun vs H Q E h => ?_) (fun cdv A outer s H vs Q E hr h => ?_)
  · obtain ⟨p, r, zs, m, B, rfl, _⟩ := h
    rfl
  · obtain ⟨p, r, zs, m, B, rfl, hp, hB, nrp, hr0, pw, nok, h2, h8, k⟩ := h
    refine ⟨_, (pss_cons (ps_asg (pe_tup (pa_cons (pe_call G_l_turned (hr.mono (by decide)) rfl T.g_l_turned T.k_l_turned T.b_l_turned .nil pass0 (pa_cons (pv 0) (pa_cons (pe_callTy call_list_of (by rfl) T.n_list (by decide +kernel) (pa_cons (pv 1) pa_nil)) pa_nil))) (pa_cons (pe_lst pa_nil) pa_nil))) (pg_tup rfl (pgs_cons (pg_name (i := 3) sc_l_pairs.nd rfl (Or.inl rfl)) (pgs_cons (pg_name (i := 4) sc_l_pairs.nd rfl (Or.inr rfl)) pgs_nil))))
      (pss_cons (ps_set (i := 5) sc_l_pairs.nd rfl (Or.inl rfl) (pe_cmpR op_gt (pe_call G_l_take (hr.mono (by decide)) rfl T.g_l_take T.k_l_take T.b_l_take .nil pass0 (pa_cons (pv 0) (pa_cons pe_int pa_nil))) pe_int (nomark _)))
      (pss_cons (ps_for PassesOwn.never rfl (pi_range2 rfl T.n_range (pa_cons pe_int (pa_cons (pe_callB call_len (by rfl) T.n_len (by decide +kernel) (pa_cons (pv 3) pa_nil)) pa_nil))) (pg_name (i := 6) sc_l_pairs.nd rfl (Or.inl rfl)) (pss_one (ps_if (PW.pt (pw_or (pt_val (pv 5)) (pw_or1 (pt_cmpR op_eq (pe_call G_l_take (hr.mono (by decide)) rfl T.g_l_take T.k_l_take T.b_l_take .nil pass0 (pa_cons (pv 0) (pa_cons pe_int pa_nil))) pe_int (nomark _))))) (pss_cons (ps_set (i := 7) sc_l_pairs.nd rfl (Or.inl rfl) (pe_ix ix_seq (pv 3) (pe_op op_sub (pe_op op_sub (pv 6) pe_int) (pe_call G_l_take (hr.mono (by decide)) rfl T.g_l_take T.k_l_take T.b_l_take .nil pass0 (pa_cons (pv 0) (pa_cons (pe_callB (call_min2 rfl) (by rfl) T.n_min (by decide +kernel) (pa_cons (pv 6) (pa_cons pe_int pa_nil))) pa_nil)))) (fun _ _ => rfl)))
      (pss_one (ps_expr (pe_bm PySem.F.plainAttrs_list PySem.F.slot_list_append PySem.F.type_list_append mt_append (pv 4) (pa_cons (pe_ifExp (pt_cmpR op_lt_str (pe_ix ix_seq (pv 3) (pv 6) (fun _ _ => rfl)) (pv 7) (nomark _)) (pe_tup (pa_cons (pe_ix ix_seq (pv 3) (pv 6) (fun _ _ => rfl)) (pa_cons (pv 7) pa_nil))) (pe_tup (pa_cons (pv 7) (pa_cons (pe_ix ix_seq (pv 3) (pv 6) (fun _ _ => rfl)) pa_nil)))) pa_nil))))) pss_nil)))
      (pss_cons (ps_set (i := 8) sc_l_pairs.nd rfl (Or.inl rfl) (pe_lst pa_nil))
      (pss_cons (ps_for PassesOwn.never rfl (pi_enumT (by rfl) T.n_enumerate (pa_cons (pv 1) pa_nil)) (pg_tup rfl (pgs_cons (pg_name (i := 6) sc_l_pairs.nd rfl (Or.inl rfl)) (pgs_cons (pg_name (i := 9) sc_l_pairs.nd rfl (Or.inr rfl)) pgs_nil))) (pss_one (ps_expr (pe_bm PySem.F.plainAttrs_list PySem.F.slot_list_extend PySem.F.type_list_extend mt_extend (pv 8) (pa_cons (pe_lc (own := [("_law_b", 10)]) (g := (gName 10)) (tt := (tPairTest K)) rfl sc_l_pairs.nd (pi_tup (pe_slice sl_tupA (pv 1) (po_some (pe_op op_add (pv 6) pe_int)) po_none)) (blkOk_by (own := [("_law_b", 10)]) (N := N_l_pairs) (sc := defScope s_l_pairs) (by decide +kernel)) (fun _ _ _ _ _ => (pg_name (i := 10) sc_l_pairs.nd rfl (Or.inl rfl))) (fun _ _ _ _ _ => (pts_one (pt_cmpR (op_notInD (by have := hr.un; exact roomU65 hr)) (pe_tup (pa_cons (pv 9) (pa_cons (pv 10) pa_nil))) (pv 4) rfl))) (fun _ _ _ _ _ => by exact (pe_tup (pa_cons (pv 9) (pa_cons (pv 10) pa_nil))))) pa_nil)))))
      (pss_one (ps_ret (pe_ifExp (pt_cmpR (op_neD hr.units) (pv 8) (pe_lst pa_nil) (nomark _)) (pe_op op_cat (pv 4) (pe_slice sl_list (pe_call G_l_turned (hr.mono (by decide)) rfl T.g_l_turned T.k_l_turned T.b_l_turned .nil pass0 (pa_cons (pv 0) (pa_cons (pv 8) pa_nil))) po_none (po_some (pe_callB (call_max2 rfl) (by rfl) T.n_max (by decide +kernel) (pa_cons pe_int (pa_cons (pe_op op_sub (pe_callTy call_int1 (by rfl) T.n_int (by decide +kernel) (pa_cons (pv 2) pa_nil)) (pe_callB call_len (by rfl) T.n_len (by decide +kernel) (pa_cons (pv 4) pa_nil))) pa_nil)))))) (pv 4))))))))), ?_⟩
    obtain ⟨po1, po2, po3, hpp, _⟩ := id hp
    have lenz : (zs.map V.str).length = zs.length := List.length_map ..
    have ndz : zs.Nodup := pw.imp fun {a b} h e => by rw [e] at h; exact absurd h (List.lt_irrefl _)
    refine seqA (fun v H' => ∃ (tq o f : Addr) (os : List Str), v = .ref tq ∧ H' tq = some (.tup [.ref o, .ref f]) ∧ os.Perm zs ∧ Fnd p f o H H' os 1 (B + 2) []) (fun Q k' => ?_) ?_
    · refine ⟨_, rfl, _, rfl, r, zs.map V.str, rfl, .inr hr0, fun l nl => ?_⟩
      refine ⟨p, l, _, B, rfl, hp.same (same_new nl), by omega, pot_none hp nl, SqL.of upd_same, by omega, by omega, fun ys q H1 py b1 p1 nq hq => ?_⟩
      obtain ⟨os, po, rfl⟩ := perm_map V.str py rfl
      have nqH : H q = none := but_none (But.of (same_new nl)) (hp.same (same_new nl)) nq
      refine ⟨by show 0 ≤ sizeLine; decide, fun f nf => ?_⟩
      have bH1 : But p H H1 := (But.of (same_new nl)).trans b1
      have nfq : f ≠ q := fun z => by rw [z, hq] at nf; cases nf
      refine ⟨by show 2 ≤ sizeLine; decide, fun t nt => k' _ _ ⟨t, q, f, os, rfl, upd_same, po, ?_⟩⟩
      have F0 : Fnd p f q H (upd H1 f (.lst [])) os 1 (B + 2) [] :=
        ⟨upd_same, by rw [upd_ne nfq.symm]; exact hq, fun _ z => (by cases z), List.nodup_nil, Nat.one_pos, bH1.trans (But.of (same_new nf)), p1.same (same_new nf), but_none bH1 p1 nf, pot_none p1 nf, pot_none (hp.same (same_new nl)) nq, nfq⟩
      exact F0.same (same_new nt)
    rintro _ H1 ⟨tq, o, f, os, rfl, htq, pos, F1⟩
    refine ⟨tq, _, rfl, SqT.of htq, rfl, _, _, rfl, _, _, rfl, rfl, ?_⟩
    refine seqS (fun v H' => ∃ jb : Bool, v = .bl jb ∧ Fnd p f o H H' os 1 (B + 3) []) (fun Q k' => ?_) ?_
    · exact ⟨_, rfl, p, 8, B + 2, rfl, F1.po, by decide, by decide, by omega, fun d H2 hd b2 p2 => ⟨_, _, rfl, rfl, k' _ _ ⟨_, rfl, F1.on b2 p2⟩⟩⟩
    rintro _ H2 ⟨jb, rfl, F2⟩
    have lo : os.length = zs.length := pos.length_eq
    have ndo : os.Nodup := pos.nodup_iff.mpr ndz
    have low : (os.map V.str).length = os.length := List.length_map ..
    refine ⟨_, rfl, _, _, rfl, .inl ⟨_, SqL.of F2.ko, rfl⟩, 1, _, rfl, ⟨by decide, by decide, by omega, by omega⟩, ?_⟩
    refine for_range (fun i σ H' => ∃ (x6 x7 : Option V) (ps : List (Addr × List Key)), σ = [some (.ref p), some (.ref r), some (.int (m : Int)), some (.ref o), some (.ref f), some (.bl jb), x6, x7, none, none, none] ∧
      Fnd p f o H H' os (i + 1) (B + 3 + 2 * i) ps) ⟨none, none, [], rfl, F2⟩ ?_ ?_
    · rintro i σ H3 hi ⟨x6, x7, ps, rfl, F3⟩
      have hi2 : i + 1 < os.length := by rw [low] at hi; omega
      refine ifAny (fun H' => Fnd p f o H H' os (i + 1) (B + 3 + 2 * i + 1) ps) (fun Q k' => ?_) (fun H4 F4 => ?_) (fun H4 F4 => ?_)
      · cases jb
        · refine ⟨_, rfl, _, rfl, ?_⟩
          dsimp only
          rw [if_neg Bool.false_ne_true]
          exact ⟨_, rfl, p, 2, B + 3 + 2 * i, rfl, F3.po, by decide, by decide, by omega, fun d H4 hd b4 p4 => ⟨rfl, _, rfl, k' _ _ (F3.on b4 p4)⟩⟩
        · refine ⟨_, rfl, _, rfl, ?_⟩
          dsimp only
          rw [if_pos rfl]
          exact k' _ _ (F3.on (But.refl _ _) (F3.po.mono (by omega)))
      · refine seqS (fun v H5 => ∃ y, v = .str y ∧ y ∈ os.take (i + 1) ∧ Fnd p f o H H5 os (i + 1) (B + 3 + 2 * i + 2) ps) (fun Q k' => ?_) ?_
        · refine ⟨_, rfl, _, rfl, _, _, rfl, rfl, _, rfl, _, rfl, _, _, rfl, p, _, B + 3 + 2 * i + 1, rfl, F4.po, ?_, ?_, by omega, fun t H5 ht b5 p5 => ⟨_, _, rfl, rfl, ?_⟩⟩
          · split <;> omega
          · split <;> omega
          have F5 := F4.on b5 p5
          have ti : t ≤ i := by
            split at ht <;> omega
          have e6 : (1 + (i : Int) - 1 - (t : Int)) = ((i - t : Nat) : Int) := by omega
          show rIx K (.ref o) (.int (1 + (i : Int) - 1 - (t : Int))) H5 _
          rw [e6]
          have li : i - t < os.length := by omega
          refine ixl (i - t) (SqL.of F5.ko) (z := .str os[i - t]) (by rw [List.getElem?_map, List.getElem?_eq_getElem li]; rfl) (k' _ _ ⟨_, rfl, ?_, F5⟩)
          refine List.mem_of_getElem? (i := i - t) ?_
          rw [List.getElem?_take_of_lt (by omega), List.getElem?_eq_getElem li]
        rintro _ H5 ⟨y, rfl, hy, F5⟩
        have gx : os[i + 1]? = some os[i + 1] := List.getElem?_eq_getElem hi2
        generalize os[i + 1] = x at gx
        have e7 : (1 + (i : Int)) = ((i + 1 : Nat) : Int) := by omega
        have at_ : ∀ {H' : Hp} {Q : VK}, Same H5 H' → Q (.str x) H' → rIx K (.ref o) (.int (1 + (i : Int))) H' Q := fun {H' Q} s q => by
          rw [e7]
          exact ixl (i + 1) (SqL.of (s _ _ F5.ko)) (by rw [List.getElem?_map, gx]; rfl) q
        have nxy : x ≠ y := by
          rintro rfl
          obtain ⟨j, hj, e⟩ := List.getElem_of_mem hy
          rw [List.length_take] at hj
          rw [List.getElem_take] at e
          obtain ⟨hi3, ei⟩ := List.getElem?_eq_some_iff.mp gx
          exact List.pairwise_iff_getElem.mp ndo j (i + 1) (by omega) hi3 (by omega) (by rw [e, ei])
        have lps : (ps.map fun q => V.ref q.1).length < sizeLine := by
          rw [List.length_map, sizeLine_eq]
          have := F5.sz
          omega
        refine ⟨_, rfl, ?_, ?_⟩
        · exact .inl ⟨rfl, _, SqL.of F5.kf⟩
        refine ⟨_, rfl, _, rfl, at_ (fun _ _ e => e) ⟨_, rfl, _, _, rfl, rfl, _, rfl, ite2 (fun lt => ?_) (fun lt => ?_)⟩⟩
        · have lt : tLt x y := of_decide_eq_true lt
          refine ⟨_, rfl, _, rfl, at_ (fun _ _ e => e) ⟨_, rfl, by show 2 ≤ sizeLine; decide, fun t nt => ⟨f, _, .ref t, rfl, rfl, (F5.same (same_new nt)).kf, lps, _, _, ps ++ [(t, pairK x y)], rfl, ?_⟩⟩⟩
          exact (((F5.same (same_new nt)).push upd_same gx hy (.inl ⟨rfl, rfl⟩) lt ndo).on (But.refl _ _) (((F5.same (same_new nt)).push upd_same gx hy (.inl ⟨rfl, rfl⟩) lt ndo).po.mono (by omega)))
        · have lt : tLt y x := tLe_lt (List.not_lt.mp fun z => lt (decide_eq_true z)) (Ne.symm nxy)
          refine ⟨_, rfl, _, rfl, _, rfl, at_ (fun _ _ e => e) ⟨by show 2 ≤ sizeLine; decide, fun t nt => ⟨f, _, .ref t, rfl, rfl, (F5.same (same_new nt)).kf, lps, _, _, ps ++ [(t, pairK y x)], rfl, ?_⟩⟩⟩
          exact (((F5.same (same_new nt)).push upd_same gx hy (.inr ⟨rfl, rfl⟩) lt ndo).on (But.refl _ _) (((F5.same (same_new nt)).push upd_same gx hy (.inr ⟨rfl, rfl⟩) lt ndo).po.mono (by omega)))
      · exact ⟨_, _, ps, rfl, F4.wide (by omega)⟩
    · rintro σ H3 ⟨x6, x7, ps, rfl, F3⟩
      have Fz : Fnd p f o H H3 os os.length (B + 20) ps := by
        have e : ((((os.map V.str).length : Nat) : Int) - 1).toNat + 1 = os.length := by rw [low]; omega
        have F3' := F3.on (But.refl _ _) (F3.po.mono (B' := B + 20) (by rw [low]; omega))
        rw [e] at F3'
        exact F3'
      clear F3
      refine nxt ?_
      refine seqS (fun v H' => ∃ g, v = .ref g ∧ H' g = some (.lst []) ∧ H g = none ∧ g ≠ p ∧ g ≠ f ∧ g ≠ o ∧ Fnd p f o H H' os os.length (B + 20) ps) (fun Q k' => ?_) ?_
      · refine ⟨by show 0 ≤ sizeLine; decide, fun g ng => k' _ _ ⟨g, rfl, upd_same, but_none Fz.bu Fz.po ng, pot_none Fz.po ng, fun z => ?_, fun z => ?_, Fz.same (same_new ng)⟩⟩
        · rw [z, Fz.kf] at ng
          cases ng
        · rw [z, Fz.ko] at ng
          cases ng
      rintro _ H4 ⟨g, rfl, hg, ngH, gp, gf, go, F4⟩
      have memz : ∀ a, a ∈ os → a ∈ zs := fun a ha => pos.mem_iff.mp ha
      have psK : ∀ q ∈ ps, ∃ a b, q.2 = pairK a b ∧ Low a ∧ Low b := fun q hq => by
        obtain ⟨_, a, b, e, ha, hb, _⟩ := F4.el q hq
        exact ⟨a, b, e, (nok a (memz a (List.mem_of_mem_take ha))).2.2, (nok b (memz b (List.mem_of_mem_take hb))).2.2⟩
      have psK2 : ∀ q ∈ ps, ∃ a b, q.2 = pairK a b := fun q hq => by
        obtain ⟨a, b, e, _⟩ := psK q hq
        exact ⟨a, b, e⟩
      have rOk : ∀ {H' : Hp}, But p H H' → SqT K H' r (zs.map V.str) := fun b => tup_but b hpp hr0
      refine ⟨_, rfl, r, zs.map V.str, rfl, rOk F4.bu, ?_⟩
      refine for_enT (fun i σ H' => ∃ (y6 y7 y9 y10 : Option V) (rs : List (Addr × List Key)), σ = [some (.ref p), some (.ref r), some (.int (m : Int)), some (.ref o), some (.ref f), some (.bl jb), y6, y7, some (.ref g), y9, y10] ∧
        Fnd p f o H H' os os.length (B + 20) ps ∧ Rst g H' zs i ps rs) ⟨_, _, _, _, [], rfl, F4, hg, fun _ z => (by cases z), List.nodup_nil, Nat.le_refl _⟩ (fun i σ H' _ z => ?_) ?_ ?_
      · obtain ⟨_, _, _, _, _, _, F5, _⟩ := z
        exact rOk F5.bu
      · rintro i x T σ H5 hx ⟨y6, y7, y9, y10, rs, rfl, F5, R5⟩ nT
        rw [List.getElem?_map] at hx
        obtain ⟨a, gx, rfl⟩ := Option.map_eq_some_iff.mp hx
        have li : i < zs.length := (List.getElem?_eq_some_iff.mp gx).1
        have az : a ∈ zs := List.mem_of_getElem? gx
        refine ⟨T, _, rfl, SqT.of upd_same, rfl, _, _, rfl, _, _, rfl, rfl, ?_⟩
        have s5 : Same H5 (upd H5 T (.tup [.int (i : Nat), .str a])) := same_new nT
        refine ⟨_, rfl, .inl ⟨rfl, _, SqL.of (s5 _ _ R5.kg)⟩, ?_⟩
        have F6 := F5.same s5
        refine ⟨_, rfl, _, rfl, _, _, rfl, rfl, _, rfl, r, zs.map V.str, rfl, rOk F6.bu, fun z => ?_, fun _ sl nsl => ?_⟩
        · have z1 := z.1
          have e1 : HT.sIx (zs.map V.str).length 0 (some ((i : Int) + 1)) = min (i + 1) (zs.map V.str).length := HT.sIx_nat _ _ (i + 1)
          rw [e1, List.length_map] at z1
          omega
        have ecut : cutV (zs.map V.str) (some ((i : Int) + 1)) none = (zs.drop (i + 1)).map V.str := by
          have e2 := cut_drop (zs.map V.str) (i + 1)
          rw [List.map_drop]
          exact e2
        rw [ecut]
        have s6 := s5.trans (same_new (o := .tup ((zs.drop (i + 1)).map V.str)) nsl)
        have sl6 : SqT K (upd (upd H5 T (.tup [.int (i : Nat), .str a])) sl (.tup ((zs.drop (i + 1)).map V.str))) sl ((zs.drop (i + 1)).map V.str) := SqT.of upd_same
        refine ⟨sl, rfl, ⟨_, sl6⟩, fun D hD => ?_⟩
        generalize upd (upd H5 T (.tup [.int (i : Nat), .str a])) sl (.tup ((zs.drop (i + 1)).map V.str)) = H6 at s6 sl6 hD
        refine lc_tup (xs := (zs.drop (i + 1)).map V.str) (fun j H' => ∃ ns : List (Addr × List Key), H' D = some (.lst (ns.map fun q => V.ref q.1)) ∧
          (∀ q ∈ ns, H' q.1 = some (.tup (q.2.map kV)) ∧ ∃ b, q.2 = pairK a b ∧ b ∈ (zs.drop (i + 1)).take j ∧ q.2 ∉ ps.map fun q : Addr × List Key => q.2) ∧ (ns.map (·.2)).Nodup ∧ ns.length ≤ j ∧ Same H6 H')
          ⟨[], upd_same, fun _ z => (by cases z), List.nodup_nil, Nat.le_refl _, same_new hD⟩ (fun j H' _ z => ?_) ?_ ?_
        · obtain ⟨_, _, _, _, _, s7⟩ := z
          obtain ⟨_, _, _, e, _⟩ := (F5.same s6).po
          exact tup_but (But.of s7) e sl6
        · rintro j y H7 hy ⟨ns, k1, k2, k3, k4, s7⟩
          rw [List.getElem?_map] at hy
          obtain ⟨b, gb, rfl⟩ := Option.map_eq_some_iff.mp hy
          have bz : b ∈ zs := List.mem_of_mem_drop (List.mem_of_getElem? gb)
          have F7 := (F5.same s6).same s7
          refine ⟨rfl, ?_⟩
          refine ⟨_, rfl, _, rfl, by show 2 ≤ sizeLine; decide, fun t nt => ?_⟩
          have F8 := F7.same (same_new (o := .tup [.str a, .str b]) nt)
          refine ⟨_, rfl, .tuple [.str a, .str b], ps.map kT, .tup (SqT.of upd_same) (.cons (.str a) (.cons (.str b) .nil)),
            .lst (SqL.of F8.kf) (rows_dp fun q hq => ⟨(F8.el q hq).1, psK2 q hq⟩), pair_shaped (nok a az).2.2 (nok b bz).2.2, rows_shaped psK, _, rfl, ?_⟩
          have s8 : Same H7 (upd H7 t (.tup [.str a, .str b])) := same_new nt
          have sub : ∀ c, c ∈ (zs.drop (i + 1)).take j → c ∈ (zs.drop (i + 1)).take (j + 1) := fun c hc => (List.take_sublist_take_left (Nat.le_succ j)).subset hc
          have bin : b ∈ (zs.drop (i + 1)).take (j + 1) := by
            rw [List.take_add_one, gb]
            simp
          have j8 : j < 8 := by
            have q1 := (List.getElem?_eq_some_iff.mp gb).1
            rw [List.length_drop] at q1
            omega
          refine ite2 (fun c => ?_) (fun c => ?_)
          · have nin : pairK a b ∉ ps.map fun q : Addr × List Key => q.2 := fun z => by
              have q1 := (rows_any psK2 a b).2 z
              rw [q1] at c
              cases c
            refine ⟨_, rfl, _, rfl, by show 2 ≤ sizeLine; decide, fun t2 nt2 => ?_⟩
            have s9 := s8.trans (same_new (o := .tup [.str a, .str b]) nt2)
            have nD2 : t2 ≠ D := fun z => by
              rw [z, s8 _ _ k1] at nt2
              cases nt2
            refine ⟨_, s9 _ _ k1, ?_, ns ++ [(t2, pairK a b)], ?_, fun q hq => ?_, ?_, ?_, fun c u e => ?_⟩
            · rw [List.length_map, sizeLine_eq]
              omega
            · rw [upd_same, List.map_append]
              rfl
            · rcases List.mem_append.mp hq with z | z
              · obtain ⟨e, b2, e2, hb2, n2⟩ := k2 q z
                refine ⟨?_, b2, e2, sub b2 hb2, n2⟩
                rw [upd_ne]
                · exact s9 _ _ e
                · intro z2
                  rw [z2, k1] at e
                  cases e
              · rw [List.mem_singleton.mp z]
                exact ⟨by rw [upd_ne nD2]; exact upd_same, b, rfl, bin, nin⟩
            · rw [List.map_append]
              refine List.nodup_append.mpr ⟨k3, by simp, ?_⟩
              intro k5 hk5 l5 hl5 e5
              have el5 : l5 = pairK a b := by simpa using hl5
              obtain ⟨q, hq, eq⟩ := List.mem_map.mp hk5
              obtain ⟨_, b2, e2, hb2, _⟩ := k2 q hq
              rw [eq, e5, el5] at e2
              injection e2 with _ e2
              injection e2 with e2 _
              injection e2 with e2
              subst e2
              obtain ⟨j2, hj2, e6⟩ := List.getElem_of_mem hb2
              rw [List.length_take] at hj2
              rw [List.getElem_take] at e6
              obtain ⟨hi3, ei⟩ := List.getElem?_eq_some_iff.mp gb
              exact List.pairwise_iff_getElem.mp (ndz.sublist (List.drop_sublist _ _)) j2 j (by omega) hi3 (by omega) (by rw [e6, ei])
            · rw [List.length_append, List.length_singleton]
              omega
            · rw [upd_ne]
              · exact s9 _ _ (s7 _ _ e)
              · rintro rfl
                rw [e] at hD
                cases hD
          · exact ⟨ns, s8 _ _ k1, fun q hq => by
              obtain ⟨e, b2, e2, hb2, n2⟩ := k2 q hq
              exact ⟨s8 _ _ e, b2, e2, sub b2 hb2, n2⟩, k3, by omega, s7.trans s8⟩
        · rintro H7 ⟨ns, k1, k2, k3, k4, s7⟩
          have F7 := (F5.same s6).same s7
          have kg7 := s7 _ _ (s6 _ _ R5.kg)
          have gD : g ≠ D := fun z => by
            rw [← z, s6 _ _ R5.kg] at hD
            cases hD
          have ln : ns.length ≤ 7 := by
            rw [List.length_map, List.length_drop] at k4
            omega
          have e3 : zs.take (i + 1) = zs.take i ++ [a] := by rw [List.take_add_one, gx]; rfl
          have aout : a ∉ zs.take i := by
            intro hm
            obtain ⟨j, hj, e⟩ := List.getElem_of_mem hm
            rw [List.length_take] at hj
            rw [List.getElem_take] at e
            obtain ⟨hi, ei⟩ := List.getElem?_eq_some_iff.mp gx
            exact List.pairwise_iff_getElem.mp ndz j i (by omega) hi (by omega) (by rw [e, ei])
          have notg : ∀ {c : Addr} {ws : List V}, H7 c = some (.tup ws) → c ≠ g := fun {c ws} e z => by
            rw [z, kg7] at e
            cases e
          refine ⟨g, D, _, _, rfl, rfl, kg7, k1, ?_, _, _, _, _, rs ++ ns, rfl, F7.other kg7 ngH gp gf go, ?_, fun q hq => ?_, ?_, ?_⟩
          · rw [List.length_map, List.length_map, sizeLine_eq]
            have := R5.sz
            omega
          · rw [upd_same, List.map_append]
          · rcases List.mem_append.mp hq with z | z
            · obtain ⟨e, a2, b2, e2, ha2, hb2, lt, n2⟩ := R5.el q z
              have e7 := s7 _ _ (s6 _ _ e)
              exact ⟨by rw [upd_ne (notg e7)]; exact e7, a2, b2, e2, by rw [e3]; exact List.mem_append_left _ ha2, hb2, lt, n2⟩
            · obtain ⟨e, b2, e2, hb2, n2⟩ := k2 q z
              have hb3 := List.mem_of_mem_take hb2
              refine ⟨by rw [upd_ne (notg e)]; exact e, a, b2, e2, by rw [e3]; simp, List.mem_of_mem_drop hb3, ?_, n2⟩
              obtain ⟨j, hj, e6⟩ := List.getElem_of_mem hb3
              rw [List.length_drop] at hj
              rw [List.getElem_drop] at e6
              obtain ⟨hi, ei⟩ := List.getElem?_eq_some_iff.mp gx
              have q1 := List.pairwise_iff_getElem.mp pw i (i + 1 + j) hi (by omega) (by omega)
              rw [ei, e6] at q1
              exact q1
          · rw [List.map_append]
            refine List.nodup_append.mpr ⟨R5.nd, k3, ?_⟩
            intro k5 hk5 l5 hl5 e5
            obtain ⟨q, hq, eq⟩ := List.mem_map.mp hk5
            obtain ⟨q2, hq2, eq2⟩ := List.mem_map.mp hl5
            obtain ⟨_, a2, b2, e2, ha2, _⟩ := R5.el q hq
            obtain ⟨_, b3, e4, _⟩ := k2 q2 hq2
            rw [eq, e5, ← eq2, e4] at e2
            injection e2 with e2 _
            injection e2 with e2
            exact aout (e2 ▸ ha2)
          · rw [List.length_append]
            have := R5.sz
            omega
      · rintro σ H5 ⟨y6, y7, y9, y10, rs, rfl, F5, R5⟩
        refine nxt ?_
        rw [lenz] at R5
        have zfull : zs.take zs.length = zs := List.take_length
        have rsK : ∀ q ∈ rs, ∃ a b, q.2 = pairK a b ∧ Low a ∧ Low b := fun q hq => by
          obtain ⟨_, a, b, e, ha, hb, _⟩ := R5.el q hq
          exact ⟨a, b, e, (nok a (List.mem_of_mem_take ha)).2.2, (nok b hb).2.2⟩
        have rsK2 : ∀ q ∈ rs, ∃ a b, q.2 = pairK a b := fun q hq => by
          obtain ⟨a, b, e, _⟩ := rsK q hq
          exact ⟨a, b, e⟩
        have PF : ∀ {H' : Hp}, (∀ q ∈ ps, H' q.1 = some (.tup (q.2.map kV))) → PairsOk H' zs ps := fun {H'} hh => ⟨fun q hq => by
          obtain ⟨_, a, b, e, ha, hb, lt⟩ := F5.el q hq
          exact ⟨hh q hq, a, b, e, memz a (List.mem_of_mem_take ha), memz b (List.mem_of_mem_take hb), lt⟩, F5.nd⟩
        refine ⟨_, rfl, by show 0 ≤ sizeLine; decide, fun e ne => ?_⟩
        have s6 : Same H5 (upd H5 e (.lst [])) := same_new ne
        have F6 := F5.same s6
        have kg6 := s6 _ _ R5.kg
        refine ⟨.list (rs.map kT), .list [], .lst (SqL.of kg6) (rows_dp fun q hq => ⟨s6 _ _ (R5.el q hq).1, rsK2 q hq⟩), .lst (SqL.of upd_same) .nil, rows_shaped rsK, by decide +kernel, _, rfl, ite2 (fun c => ?_) (fun c => ?_)⟩
        · have hpos : 0 < rs.length := by
            cases rs with
            | nil => simp [PyData.eqv, PyData.eqvAll] at c
            | cons _ _ => exact Nat.succ_pos _
          have hsz := R5.sz
          refine ⟨_, rfl, _, rfl, _, rfl, p, g, _, B + 20, rfl, F6.po, by omega, gp, SqL.of kg6, by rw [List.length_map]; exact hpos, by rw [List.length_map]; omega, fun ys q H6 py b6 p6 nq hq => ?_⟩
          obtain ⟨rs', pr, rfl⟩ := perm_map (fun q : Addr × List Key => V.ref q.1) py rfl
          have F7 := F6.on b6 p6
          refine ⟨_, rfl, .inl ⟨_, rfl, _, rfl, _, _, rfl, .inl ⟨_, SqL.of F7.kf, rfl⟩, _, _, rfl, rfl, _, _, rfl, _, rfl, q, _, rfl, SqL.of hq, fun q2 nq2 => ?_⟩⟩
          obtain ⟨c2, ec, hc2⟩ : ∃ c2 : Nat, (if (m : Int) - ((ps.map fun q => V.ref q.1).length : Nat) > 0 then (m : Int) - ((ps.map fun q => V.ref q.1).length : Nat) else 0) = (c2 : Int) ∧ (ps.length + c2 ≤ m ∨ c2 = 0) := by
            refine ⟨m - ps.length, ?_, by omega⟩
            rw [List.length_map]
            split <;> omega
          rw [ec, cut_take]
          have s8 := same_new (o := .lst ((rs'.map fun q => V.ref q.1).take c2)) nq2
          refine ⟨f, q2, _, _, rfl, rfl, s8 _ _ F7.kf, upd_same, ?_, fun l nl => ?_⟩
          · have q1 := F7.sz
            have q3 := pr.length_eq
            rw [List.length_map, List.length_take, List.length_map, sizeLine_eq]
            omega
          have F9 := (F7.same s8).same (same_new (o := .lst ((ps.map fun q => V.ref q.1) ++ (rs'.map fun q => V.ref q.1).take c2)) nl)
          have s9 := s8.trans (same_new (o := .lst ((ps.map fun q => V.ref q.1) ++ (rs'.map fun q => V.ref q.1).take c2)) nl)
          refine k (ps ++ rs'.take c2) l _ ⟨fun x hx => ?_, ?_⟩ ?_ F9.bu (F9.po.mono (by omega)) (but_none (F7.same s8).bu (F7.same s8).po nl) ?_
          · rcases List.mem_append.mp hx with z | z
            · obtain ⟨e1, a, b, e2, ha, hb, lt⟩ := F9.el x z
              exact ⟨e1, a, b, e2, memz a (List.mem_of_mem_take ha), memz b (List.mem_of_mem_take hb), lt⟩
            · obtain ⟨e1, a, b, e2, ha, hb, lt, _⟩ := R5.el x (pr.mem_iff.mp (List.mem_of_mem_take z))
              have e3 := s6 _ _ e1
              exact ⟨s9 _ _ (b6 _ _ (tup_notp e3 F6.po) e3), a, b, e2, List.mem_of_mem_take ha, hb, lt⟩
          · rw [List.map_append]
            have nr : ((rs'.take c2).map (·.2)).Nodup := by
              rw [List.map_take]
              exact (((pr.map (·.2)).nodup_iff.mpr R5.nd)).sublist (List.take_sublist _ _)
            refine List.nodup_append.mpr ⟨F5.nd, nr, ?_⟩
            intro k5 hk5 l5 hl5 e5
            obtain ⟨x, hx, ex⟩ := List.mem_map.mp hl5
            obtain ⟨_, _, _, _, _, _, _, n2⟩ := R5.el x (pr.mem_iff.mp (List.mem_of_mem_take hx))
            rw [ex, ← e5] at n2
            exact n2 hk5
          · rw [List.length_append, List.length_take]
            have := F5.sz
            omega
          · rw [upd_same, List.map_append, List.map_take]
        · have hnil : rs = [] := by
            cases rs with
            | nil => rfl
            | cons _ _ => simp [PyData.eqv, PyData.eqvAll] at c
          refine ⟨_, rfl, k ps f _ (PF fun q hq => (F6.el q hq).1) (.inr ?_) F6.bu (F6.po.mono (by omega)) F6.nf F6.kf⟩
          have := F6.sz
          omega
end
end Toy
set_option Elab.async false
set_option linter.all false
set_option maxRecDepth 100000
set_option maxHeartbeats 4000000
namespace Toy
open PySem L2 Q
theorem roomU3 {k : Nat} {A : Around} (h : Room k A) : A.units + 3 < cLine := by
  have q := h.units
  omega
abbrev linkK (a b : Str) (x y : Nat) : List Key := [.inr a, .inr b, .inl (x : Int), .inl (y : Int)]
/-- right links of the names zs in their order, each a tuple -/
def LinksOk (H : Hp) (zs : List Str) (ls : List (Addr × List Key)) : Prop :=
  (∀ q ∈ ls, H q.1 = some (.tup (q.2.map kV)) ∧ ∃ a b x y, q.2 = linkK a b x y ∧ a ∈ zs ∧ b ∈ zs ∧ tLt a b ∧ 1 ≤ x ∧ x ≤ 90 ∧ 1 ≤ y ∧ y ≤ 90) ∧
  ls.Pairwise (fun q r => ksLt (q.2.take 2) (r.2.take 2) = true) ∧ ls.length ≤ 16
/-- _law_world(pot, least, most, more) -/
def spWorld (K : PySem.W.Frag) : Sp := fun vs H Q _ => ∃ (p : Addr) (lo hi mo B : Nat), vs = [.ref p, .int (lo : Int), .int (hi : Int), .int (mo : Int)] ∧ Pot H p B ∧ B < 990000 ∧ 2 ≤ lo ∧ lo ≤ hi ∧ hi ≤ 8 ∧ mo ≤ 1000 ∧
  ∀ (w r l : Addr) (zs : List Str) (ls : List (Addr × List Key)) (H' : Hp), H' w = some (.tup [.ref r, .ref l]) → H' r = some (.tup (zs.map V.str)) → H' l = some (.tup (ls.map fun q => V.ref q.1)) →
    zs.Pairwise tLt → (∀ z ∈ zs, NameOk z) → lo ≤ zs.length → zs.length ≤ hi → LinksOk H' zs ls → But p H H' → Pot H' p (B + 200) → Q (.ref w) H'
theorem link_lt {a b a' b' : Str} {x y x' y' : Nat} (h : ksLt (linkK a b x y) (linkK a' b' x' y') = true) (ne : pairK a b ≠ pairK a' b') : ksLt (pairK a b) (pairK a' b') = true := by
  unfold linkK ksLt at h
  unfold pairK ksLt
  by_cases e : (Sum.inr a : Key) = Sum.inr a'
  · rw [if_pos e] at h ⊢
    unfold ksLt at h ⊢
    by_cases e2 : (Sum.inr b : Key) = Sum.inr b'
    · exact absurd (by unfold pairK; rw [e, e2]) ne
    · rw [if_neg e2] at h ⊢
      exact h
  · rw [if_neg e] at h ⊢
    exact h
/-- the links made of the first i pairs -/
structure Lnk (p f c : Addr) (H0 H : Hp) (zs : List Str) (r : Addr) (i B : Nat) (ps ls : List (Addr × List Key)) : Prop where
  kf : H f = some (.lst (ls.map fun q => V.ref q.1))
  kc : H c = some (.lst (ps.map fun q => V.ref q.1))
  kr : H r = some (.tup (zs.map V.str))
  pk : PairsOk H zs ps
  el : ∀ q ∈ ls, H q.1 = some (.tup (q.2.map kV)) ∧ ∃ a b x y, q.2 = linkK a b x y ∧ 1 ≤ x ∧ x ≤ 90 ∧ 1 ≤ y ∧ y ≤ 90
  kk : ls.map (fun q => q.2.take 2) = (ps.take i).map (·.2)
  bu : But p H0 H
  po : Pot H p B
  nf : H0 f = none
  fp : f ≠ p
  cp : c ≠ p
  fc : f ≠ c
theorem Lnk.on {p f c r : Addr} {H0 H H' : Hp} {zs : List Str} {i B B' : Nat} {ps ls : List (Addr × List Key)} (h : Lnk p f c H0 H zs r i B ps ls) (b : But p H H') (q : Pot H' p B') : Lnk p f c H0 H' zs r i B' ps ls :=
  ⟨b _ _ h.fp h.kf, b _ _ h.cp h.kc, b _ _ (tup_notp h.kr h.po) h.kr, ⟨fun x hx => ⟨b _ _ (tup_notp (h.pk.1 x hx).1 h.po) (h.pk.1 x hx).1, (h.pk.1 x hx).2⟩, h.pk.2⟩,
    fun x hx => ⟨b _ _ (tup_notp (h.el x hx).1 h.po) (h.el x hx).1, (h.el x hx).2⟩, h.kk, h.bu.trans b, q, h.nf, h.fp, h.cp, h.fc⟩
theorem Lnk.push {p f c r t : Addr} {H0 H : Hp} {zs : List Str} {i B : Nat} {ps ls : List (Addr × List Key)} (h : Lnk p f c H0 H zs r i B ps ls) {q : Addr × List Key} {a b : Str} {x y : Nat} (hq : ps[i]? = some q) (e : q.2 = pairK a b)
    (ht : H t = some (.tup ((linkK a b x y).map kV))) (h1 : 1 ≤ x) (h2 : x ≤ 90) (h3 : 1 ≤ y) (h4 : y ≤ 90) :
    Lnk p f c H0 (upd H f (.lst ((ls.map fun q => V.ref q.1) ++ [.ref t]))) zs r (i + 1) B ps (ls ++ [(t, linkK a b x y)]) := by
  have notf : ∀ {d : Addr} {ws : List V}, H d = some (.tup ws) → d ≠ f := fun {d ws} e z => by
    rw [z, h.kf] at e
    cases e
  refine ⟨?_, by rw [upd_ne h.fc.symm]; exact h.kc, by rw [upd_ne (notf h.kr)]; exact h.kr, ⟨fun x hx => ⟨by rw [upd_ne (notf (h.pk.1 x hx).1)]; exact (h.pk.1 x hx).1, (h.pk.1 x hx).2⟩, h.pk.2⟩, fun z hz => ?_, ?_, fun d u nd e => ?_, ?_, h.nf, h.fp, h.cp, h.fc⟩
  · rw [upd_same, List.map_append]
    rfl
  · rcases List.mem_append.mp hz with w | w
    · exact ⟨by rw [upd_ne (notf (h.el z w).1)]; exact (h.el z w).1, (h.el z w).2⟩
    · rw [List.mem_singleton.mp w]
      exact ⟨by rw [upd_ne (notf ht)]; exact ht, a, b, x, y, rfl, h1, h2, h3, h4⟩
  · rw [List.map_append, h.kk, List.take_add_one, hq, List.map_append]
    show _ ++ [pairK a b] = _ ++ [q.2]
    rw [e]
  · rw [upd_ne]
    · exact h.bu d u nd e
    · rintro rfl
      rw [h.nf] at e
      cases e
  · obtain ⟨o1, s1, c1, e, r⟩ := h.po
    exact ⟨o1, s1, c1, by rw [upd_ne h.fp.symm]; exact e, r⟩
theorem Lnk.same {p f c r : Addr} {H0 H H' : Hp} {zs : List Str} {i B : Nat} {ps ls : List (Addr × List Key)} (h : Lnk p f c H0 H zs r i B ps ls) (s : Same H H') : Lnk p f c H0 H' zs r i B ps ls := h.on (But.of s) (h.po.same s)
theorem Lnk.more {p f c r : Addr} {H0 H : Hp} {zs : List Str} {i B B' : Nat} {ps ls : List (Addr × List Key)} (h : Lnk p f c H0 H zs r i B ps ls) (l : B ≤ B') : Lnk p f c H0 H zs r i B' ps ls := h.on (But.refl _ _) (h.po.mono l)
section
variable {P : Program} {w : World} {K : PySem.W.Frag} {mg : Str → Option Value} {base : Heap} {ca ia fa : Nat → Addr} {fd fi : Nat → FuncData}
theorem ok_world (T : Txt K mg ca ia fa fd fi) : FnOk P w K mg base CX0 4 (fa 43) (fd 43) ["_law_pot_here", "_law_least", "_law_most", "_law_more"] (spWorld K) := by
  have G_l_take := ok_take (P := P) (w := w) (base := base) T
  have G_l_names := ok_names (P := P) (w := w) (base := base) T
  have G_l_pairs := ok_pairs (P := P) (w := w) (base := base) T
  have G_l_far := ok_far (P := P) (w := w) (base := base) T
  refine T.F_l_world.ok sc_l_world (fun vs H Q E h => ?_) (fun cdv A outer s H vs Q E hr h => ?_)
  · obtain ⟨p, lo, hi, mo, B, rfl, _⟩ := h
    rfl
  · obtain ⟨p, lo, hi, mo, B, rfl, hp, hB, h1, h2, h3, h4, k⟩ := h
    refine ⟨_, (pss_cons (ps_set (i := 4) sc_l_world.nd rfl (Or.inl rfl) (pe_op op_add (pv 1) (pe_call G_l_take (hr.mono (by decide)) rfl T.g_l_take T.k_l_take T.b_l_take .nil pass0 (pa_cons (pv 0) (pa_cons (pe_op op_add (pe_op op_sub (pv 2) (pv 1)) pe_int) pa_nil)))))
      (pss_cons (ps_set (i := 5) sc_l_world.nd rfl (Or.inl rfl) (pe_callTy call_tuple_of (by rfl) T.n_tuple (by decide +kernel) (pa_cons (pe_call G_l_names (hr.mono (by decide)) rfl T.g_l_names T.k_l_names T.b_l_names .nil pass0 (pa_cons (pv 0) (pa_cons (pv 4) pa_nil))) pa_nil)))
      (pss_cons (ps_set (i := 6) sc_l_world.nd rfl (Or.inl rfl) (pe_call G_l_pairs (hr.mono (by decide)) rfl T.g_l_pairs T.k_l_pairs T.b_l_pairs .nil pass0 (pa_cons (pv 0) (pa_cons (pv 5) (pa_cons (pe_callB (call_min2 rfl) (by rfl) T.n_min (by decide +kernel) (pa_cons pe_int (pa_cons (pe_op op_add (pe_op op_sub (pv 4) pe_int) (pe_call G_l_take (hr.mono (by decide)) rfl T.g_l_take T.k_l_take T.b_l_take .nil pass0 (pa_cons (pv 0) (pa_cons (pe_op op_add (pv 3) pe_int) pa_nil)))) pa_nil))) pa_nil)))))
      (pss_cons (ps_par (i := 7) (j := 8) (by rfl) sc_l_world.nd rfl rfl (by decide) rfl rfl (pa_cons (pe_lst pa_nil) (pa_cons (pe_cmpR op_eq (pe_call G_l_take (hr.mono (by decide)) rfl T.g_l_take T.k_l_take T.b_l_take .nil pass0 (pa_cons (pv 0) (pa_cons pe_int pa_nil))) pe_int (nomark _)) pa_nil)) (by rfl))
      (pss_cons (ps_for PassesOwn.never rfl (pi_list (pv 6)) (pg_tup rfl (pgs_cons (pg_name (i := 9) sc_l_world.nd rfl (Or.inl rfl)) (pgs_cons (pg_name (i := 10) sc_l_world.nd rfl (Or.inl rfl)) pgs_nil))) (pss_cons (ps_set (i := 11) sc_l_world.nd rfl (Or.inl rfl) (pe_call G_l_far (hr.mono (by decide)) rfl T.g_l_far T.k_l_far T.b_l_far .nil pass0 (pa_cons (pv 0) pa_nil)))
      (pss_one (ps_expr (pe_bm PySem.F.plainAttrs_list PySem.F.slot_list_append PySem.F.type_list_append mt_append (pv 7) (pa_cons (pe_tup (pa_cons (pv 9) (pa_cons (pv 10) (pa_cons (pv 11) (pa_cons (pe_ifExp (pt_val (pv 8)) (pv 11) (pe_call G_l_far (hr.mono (by decide)) rfl T.g_l_far T.k_l_far T.b_l_far .nil pass0 (pa_cons (pv 0) pa_nil))) pa_nil))))) pa_nil))))))
      (pss_one (ps_ret (pe_tup (pa_cons (pv 5) (pa_cons (pe_callTy call_tuple_of (by rfl) T.n_tuple (by decide +kernel) (pa_cons (pe_callB (cr_sortTu rfl (roomU3 hr)) (by rfl) T.n_sorted (by decide +kernel) (pa_cons (pe_callTy (cr_setTu rfl (roomU3 hr)) (by rfl) T.n_set (by decide +kernel) (pa_cons (pv 7) pa_nil)) pa_nil)) pa_nil)) pa_nil)))))))))), ?_⟩
    refine seqS (fun v H' => ∃ n : Nat, v = .int (n : Int) ∧ lo ≤ n ∧ n ≤ hi ∧ But p H H' ∧ Pot H' p (B + 1)) (fun Q k' => ?_) ?_
    · refine ⟨_, rfl, _, rfl, _, rfl, _, rfl, _, _, rfl, rfl, _, _, rfl, rfl, p, _, B, rfl, hp, by omega, by omega, by omega, fun d H1 hd b1 p1 => ⟨_, _, rfl, rfl, k' _ _ ⟨lo + d, congrArg V.int (by omega), by omega, by omega, b1, p1⟩⟩⟩
    rintro _ H1 ⟨n, rfl, n1, n2, b1, p1⟩
    refine seqS (fun v H' => ∃ (r : Addr) (zs : List Str), v = .ref r ∧ H' r = some (.tup (zs.map V.str)) ∧ zs.length = n ∧ zs.Pairwise tLt ∧ (∀ z ∈ zs, NameOk z) ∧ But p H H' ∧ Pot H' p (B + 21)) (fun Q k' => ?_) ?_
    · refine ⟨_, rfl, _, rfl, p, n, B + 1, rfl, p1, by omega, by omega, fun zs q H2 hl pw nok b2 p2 nq hq => ⟨q, _, rfl, .inl ⟨SqL.of hq, fun r nr => k' _ _ ⟨r, zs, rfl, upd_same, hl, pw, nok, (b1.trans b2).trans (But.of (same_new nr)), (p2.same (same_new nr)).mono (by omega)⟩⟩⟩⟩
    rintro _ H2 ⟨r, zs, rfl, hr2, hl, pw, nok, b2, p2⟩
    have nrp := tup_notp hr2 p2
    refine seqS (fun v H' => ∃ (c : Addr) (ps : List (Addr × List Key)), v = .ref c ∧ H' c = some (.lst (ps.map fun q => V.ref q.1)) ∧ PairsOk H' zs ps ∧ ps.length ≤ 16 ∧ H' r = some (.tup (zs.map V.str)) ∧ c ≠ p ∧ But p H H' ∧ Pot H' p (B + 60)) (fun Q k' => ?_) ?_
    · refine ⟨_, rfl, _, rfl, _, rfl, _, _, rfl, rfl, _, rfl, _, rfl, _, _, rfl, rfl, p, _, B + 21, rfl, p2, by omega, by omega, by omega, fun d H3 hd b3 p3 => ⟨_, _, rfl, rfl, _, _, rfl, ?_⟩⟩
      obtain ⟨m, em, hm⟩ : ∃ m : Nat, (if (n : Int) - 1 + (d : Int) < 16 then (n : Int) - 1 + (d : Int) else 16) = (m : Int) ∧ m ≤ 16 := by
        refine ⟨(if (n : Int) - 1 + (d : Int) < 16 then (n : Int) - 1 + (d : Int) else 16).toNat, ?_, ?_⟩ <;> split <;> omega
      have hr3 := b3 _ _ nrp hr2
      refine ⟨p, r, zs, m, B + 22, ?_, p3, by omega, nrp, SqT.of hr3, pw, nok, by omega, by omega, fun ps c H4 pk lp b4 p4 nc hc => k' _ _ ⟨c, ps, rfl, hc, pk, by omega, b4 _ _ nrp hr3, pot_none p3 nc, (b2.trans b3).trans b4, p4.mono (by omega)⟩⟩
      show [V.ref p, V.ref r, V.int _] = _
      rw [← em]
    rintro _ H3 ⟨c, ps, rfl, hc, pk, lp, hr3, ncp, b3, p3⟩
    refine ⟨by show 0 ≤ sizeLine; decide, fun f nf => ⟨_, rfl, p, 2, B + 60, rfl, p3.same (same_new nf), by decide, by decide, by omega, fun d H4 hd b4 p4 => ⟨rfl, _, _, rfl, ?_⟩⟩⟩
    refine nxt ?_
    have s3 : Same H3 (upd H3 f (.lst [])) := same_new nf
    have L4 : Lnk p f c H H4 zs r 0 (B + 61) ps [] := Lnk.on (H := upd H3 f (.lst []))
      ⟨upd_same, s3 _ _ hc, s3 _ _ hr3, ⟨fun x hx => ⟨s3 _ _ (pk.1 x hx).1, (pk.1 x hx).2⟩, pk.2⟩, fun _ z => (by cases z), rfl, b3.trans (But.of s3), p3.same s3, but_none b3 p3 nf, pot_none p3 nf, ncp, fun z => by rw [z, hc] at nf; cases nf⟩ b4 p4
    generalize decide (V.int (d : Int) = V.int 0) = ev
    refine ⟨_, rfl, c, rfl, ⟨_, SqL.of L4.kc⟩, ?_⟩
    refine for_list (xs := ps.map fun q => V.ref q.1) (fun i σ H' => ∃ (y9 y10 y11 : Option V) (ls : List (Addr × List Key)), σ = [some (.ref p), some (.int (lo : Int)), some (.int (hi : Int)), some (.int (mo : Int)), some (.int (n : Int)), some (.ref r), some (.ref c), some (.ref f), some (.bl ev), y9, y10, y11] ∧
      Lnk p f c H H' zs r i (B + 61 + 6 * i) ps ls) ⟨_, _, _, [], rfl, L4⟩ (fun i σ H' _ z => ?_) ?_ ?_
    · obtain ⟨_, _, _, _, _, L⟩ := z
      exact SqL.of L.kc
    · rintro i x σ H5 hx ⟨y9, y10, y11, ls, rfl, L5⟩
      rw [List.getElem?_map] at hx
      obtain ⟨q, gq, rfl⟩ := Option.map_eq_some_iff.mp hx
      have li : i < ps.length := (List.getElem?_eq_some_iff.mp gq).1
      obtain ⟨eq1, a, b, eq2, ha, hb, lt⟩ := L5.pk.1 q (List.mem_of_getElem? gq)
      rw [eq2] at eq1
      refine ⟨q.1, _, rfl, SqT.of eq1, rfl, _, _, rfl, _, _, rfl, rfl, ?_⟩
      refine seqS (fun v H' => ∃ x : Nat, v = .int (x : Int) ∧ 1 ≤ x ∧ x ≤ 90 ∧ Lnk p f c H H' zs r i (B + 61 + 6 * i + 3) ps ls) (fun Q k' => ?_) ?_
      · exact ⟨_, rfl, p, _, rfl, L5.po, by omega, fun x H6 x1 x2 b6 p6 => k' _ _ ⟨x, rfl, x1, x2, L5.on b6 p6⟩⟩
      rintro _ H6 ⟨x, rfl, x1, x2, L6⟩
      refine ⟨_, rfl, .inl ⟨rfl, _, SqL.of L6.kf⟩, ?_⟩
      have lls : (ls.map fun q => V.ref q.1).length < sizeLine := by
        have e := congrArg List.length L6.kk
        rw [List.length_map, List.length_map, List.length_take] at e
        rw [List.length_map, sizeLine_eq]
        omega
      refine ⟨_, rfl, _, rfl, _, rfl, _, rfl, ev, rfl, ?_⟩
      cases ev
      · dsimp only
        rw [if_neg Bool.false_ne_true]
        refine ⟨_, rfl, p, _, rfl, L6.po, by omega, fun y H7 y1 y2 b7 p7 => ?_⟩
        have L7 := L6.on b7 p7
        refine ⟨by show 4 ≤ sizeLine; decide, fun t nt => ?_⟩
        have s8 := same_new (o := .tup [.str a, .str b, .int (x : Int), .int (y : Int)]) nt
        exact ⟨f, _, .ref t, rfl, rfl, (L7.same s8).kf, lls, _, _, _, ls ++ [(t, linkK a b x y)], rfl, ((L7.same s8).push gq eq2 upd_same x1 x2 y1 y2).more (by omega)⟩
      · dsimp only
        rw [if_pos rfl]
        refine ⟨_, rfl, ?_⟩
        refine ⟨by show 4 ≤ sizeLine; decide, fun t nt => ?_⟩
        have s8 := same_new (o := .tup [.str a, .str b, .int (x : Int), .int (x : Int)]) nt
        exact ⟨f, _, .ref t, rfl, rfl, (L6.same s8).kf, lls, _, _, _, ls ++ [(t, linkK a b x x)], rfl, ((L6.same s8).push gq eq2 upd_same x1 x2 x1 x2).more (by omega)⟩
    · rintro σ H5 ⟨y9, y10, y11, ls, rfl, L5⟩
      refine nxt ?_
      have kk : ls.map (fun q => q.2.take 2) = ps.map (·.2) := by
        have e := L5.kk
        rw [List.length_map, List.take_length] at e
        exact e
      have lls : ls.length = ps.length := by
        have e := congrArg List.length kk
        rw [List.length_map, List.length_map] at e
        exact e
      have nd2 : (ls.map (fun q => q.2.take 2)).Nodup := by
        rw [kk]
        exact L5.pk.2
      have ndk : (ls.map (·.2)).Nodup := by
        refine nodup_of_map (f := fun k : List Key => k.take 2) ?_
        rw [List.map_map]
        exact nd2
      have shp : ∀ q ∈ ls, shape q.2 = [false, false, true, true] := fun q hq => by
        obtain ⟨_, a, b, x, y, e, _⟩ := L5.el q hq
        rw [e]
        rfl
      refine ⟨_, rfl, _, rfl, f, ls, rfl, SqL.of L5.kf, fun q hq => SqT.of (L5.el q hq).1, ndk, by omega, fun S nS => ?_⟩
      have L6 := L5.same (same_new (o := SetM w S (ls.map fun q => Value.ref q.1)) nS)
      refine ⟨S, ls, _, rfl, upd_same, fun q hq => SqT.of (L6.el q hq).1, shp, by simp, ndk, by omega, fun g ts pts pwt ng => ?_⟩
      have L7 := L6.same (same_new (o := .lst (ts.map fun q => V.ref q.1)) ng)
      refine ⟨g, _, rfl, .inl ⟨SqL.of upd_same, fun lt nlt => ?_⟩⟩
      have L8 := L7.same (same_new (o := .tup (ts.map fun q => V.ref q.1)) nlt)
      refine ⟨by show 2 ≤ sizeLine; decide, fun wd nwd => ?_⟩
      have s9 := same_new (o := .tup [.ref r, .ref lt]) nwd
      have L9 := L8.same s9
      have lz := hl
      refine k wd r lt zs ts _ upd_same L9.kr (s9 _ _ upd_same) pw nok (by omega) (by omega) ⟨fun q hq => ?_, ?_, by rw [pts.length_eq]; omega⟩ L9.bu (L9.po.mono (by rw [List.length_map]; omega))
      · have hq2 := pts.mem_iff.mp hq
        obtain ⟨e1, a, b, x, y, e2, x1, x2, y1, y2⟩ := L9.el q hq2
        have hm : pairK a b ∈ ps.map (·.2) := by
          rw [← kk]
          exact List.mem_map.mpr ⟨q, hq2, by rw [e2]; rfl⟩
        obtain ⟨q3, hq3, e3⟩ := List.mem_map.mp hm
        obtain ⟨_, a3, b3, e4, ha, hb, lt⟩ := L5.pk.1 q3 hq3
        rw [e3] at e4
        injection e4 with e5 e6
        injection e5 with e5
        injection e6 with e6 _
        injection e6 with e6
        subst e5
        subst e6
        exact ⟨e1, a, b, x, y, e2, ha, hb, lt, x1, x2, y1, y2⟩
      · have nt : (ts.map (fun q => q.2.take 2)).Nodup := ((pts.map (fun q : Addr × List Key => q.2.take 2)).nodup_iff).mpr nd2
        refine List.Pairwise.imp_of_mem (fun {q q'} hq hq' h => ?_) (List.Pairwise.and pwt (List.pairwise_map.mp nt))
        obtain ⟨_, a, b, x, y, e, _⟩ := L5.el q (pts.mem_iff.mp hq)
        obtain ⟨_, a', b', x', y', e', _⟩ := L5.el q' (pts.mem_iff.mp hq')
        rw [e, e'] at h ⊢
        exact link_lt h.1 h.2
end
end Toy
set_option Elab.async false
set_option linter.all false
set_option maxRecDepth 100000
set_option maxHeartbeats 4000000
namespace Toy
open PySem L2 Q
section
variable {K : PySem.W.Frag} {mg : Str → Option Value} {nm : Str} {C Cn : Addr}
theorem mro_of (h : ∃ nm q N bs sn sub ab col dd k0 k1 k2 k3 k5, K.lookup C = some (excClassObj nm q C N bs (.ref Cn :: PySem.HandSPX.veTail) true sn sub ab col dd k0 k1 k2 k3 k5 "ValueError.__new__"))
    (b : Value) : PySem.W.mroIn K C b = some ((Value.ref C :: Value.ref Cn :: PySem.HandSPX.veTail).contains b) := by
  obtain ⟨_, _, _, _, _, _, _, _, _, _, _, _, _, _, e⟩ := h
  unfold PySem.W.mroIn PySem.W.clsIn
  rw [e]
  rfl
theorem cls_of {bm : List Value} (h : ∃ nm q N bs sn sub ab col dd k0 k1 k2 k3 k5, K.lookup C = some (excClassObj nm q C N bs bm true sn sub ab col dd k0 k1 k2 k3 k5 "ValueError.__new__")) :
    (PySem.W.clsIn K C).isSome = true ∧ PySem.W.hasDictIn K C = true ∧ PySem.W.typeIn K (.ref C) = some (.type "type") := by
  obtain ⟨_, _, _, _, _, _, _, _, _, _, _, _, _, _, e⟩ := h
  refine ⟨?_, ?_, ?_⟩
  · unfold PySem.W.clsIn
    rw [e]
    rfl
  · unfold PySem.W.hasDictIn PySem.W.clsIn
    rw [e]
    rfl
  · show (K.lookup C).map (·.cls) = _
    rw [e]
    rfl
theorem ErrC.sub (c : ErrC K mg nm C Cn) (b : Value) : PySem.W.subIn K (.ref C) b = some ((Value.ref C :: Value.ref Cn :: PySem.HandSPX.veTail).contains b) := mro_of c.xL b
theorem ErrC.oex (c : ErrC K mg nm C Cn) : OexC K C := by
  have h := c.xL
  obtain ⟨nm', q, N, bs, sn, sub, ab, col, dd, k0, k1, k2, k3, k5, e⟩ := h
  refine ⟨⟨nm', q, N, bs, _, sn, sub, ab, col, dd, k0, k1, k2, k3, k5, e, rfl⟩, c.sa, ?_, (cls_of c.xL).2.2, c.kC⟩
  rw [c.sub]
  rfl
theorem ErrC.exc (c : ErrC K mg nm C Cn) (hn : PySem.W.specialIn K (.builtin "object.__class__") "__get__" = some (some (.builtin "getset_descriptor.__get__")))
    (ht : PySem.W.takesIn K (.builtin "object.__class__") = some true) : ExcC K C := by
  refine ⟨c.ga, c.gg, ?_, (cls_of c.xL).2.1, c.hc, hn, ht, ?_⟩
  · rw [c.sub]
    rfl
  · rw [mro_of c.xL]
    rfl
theorem ErrC.kit (c : ErrC K mg nm C Cn) {D : Addr} (h1 : (PySem.W.clsIn K D).isSome = true) (h2 : PySem.W.typeIn K (.ref D) = some (.type "type")) :
    PySem.W.kitOne K (.ref C) (.ref D) = some (decide (D = C ∨ D = Cn)) := by
  unfold PySem.W.kitOne
  by_cases e : C = D
  · subst e
    rw [if_pos (by simp)]
    simp
  · rw [if_neg (by simpa using e)]
    show (if ((PySem.W.clsIn K D).isSome && PySem.W.typeIn K (.ref D) == some (.type "type")) = true then PySem.W.subIn K (.ref C) (.ref D) else none) = _
    rw [if_pos (by rw [h1, h2]; rfl), c.sub]
    congr 1
    simp only [List.contains_cons, PySem.HandSPX.veTail]
    have e2 : (Value.ref D == Value.ref C) = decide (D = C) := by
      by_cases z : D = C
      · simp [z]
      · simp [z]
    have e3 : (Value.ref D == Value.ref Cn) = decide (D = Cn) := by
      by_cases z : D = Cn
      · simp [z]
      · simp [z]
    rw [e2, e3]
    by_cases z : D = C <;> by_cases y : D = Cn <;> simp [z, y]
theorem ErrC.kitVE (c : ErrC K mg nm C Cn) : PySem.W.kitOne K (.ref C) (.type "ValueError") = some true := by
  unfold PySem.W.kitOne
  rw [if_neg (by simp)]
  show (if PySem.W.kitMeta "ValueError" = true then PySem.W.subIn K (.ref C) (.type "ValueError") else none) = _
  rw [if_pos (by decide +kernel), c.sub]
  rfl
end

/-! ### the errors' own __init__ -/
def spI1 (C : Addr) (f : Str) : Sp := fun vs H Q _ => ∃ (a : Addr) (v : V), vs = [.ref a, v] ∧ H a = some (exo a C none) ∧
  ∀ d H', But a H H' → H d = none → H' a = some (exo a C (some d)) → H' d = some (exd d [(f, v)]) → Q .non H'
def spI2 (C : Addr) (f g : Str) : Sp := fun vs H Q _ => ∃ (a : Addr) (v u : V), vs = [.ref a, v, u] ∧ H a = some (exo a C none) ∧
  ∀ d H', But a H H' → H d = none → H' a = some (exo a C (some d)) → H' d = some (exd d [(g, u), (f, v)]) → Q .non H'
theorem spI1_len {C : Addr} {f : Str} {vs : List V} {H : Hp} {Q : VK} {E : XK} (h : spI1 C f vs H Q E) : vs.length = 2 := by
  obtain ⟨a, v, rfl, _⟩ := h
  rfl
theorem spI2_len {C : Addr} {f g : Str} {vs : List V} {H : Hp} {Q : VK} {E : XK} (h : spI2 C f g vs H Q E) : vs.length = 3 := by
  obtain ⟨a, v, u, rfl, _⟩ := h
  rfl
theorem err_laid {H : Hp} {a dx C : Addr} {fs : List (Str × V)} (n : H dx = none) (ne : dx ≠ a) :
    But a H (upd (upd H dx (exd dx fs)) a (exo a C (some dx))) ∧ upd (upd H dx (exd dx fs)) a (exo a C (some dx)) dx = some (exd dx fs) := by
  refine ⟨fun b o nb e => ?_, ?_⟩
  · rw [upd_ne nb, upd_ne (ne_of_none e n)]
    exact e
  · rw [upd_ne ne, upd_same]
theorem init1 {K : PySem.W.Frag} {C : Addr} {f : Str} (o : OexC K C) (nf : PySem.W.findIn K (.ref C) f = some none) {vs : List V} {H : Hp} {Q : VK} {E : XK} {N : List Str}
    (h : spI1 C f vs H Q E) : tOst K f (tVar 0) (tVar 1) { nx := fun _ H' => Q .non H', rt := Q } (L2.start N vs) H := by
  obtain ⟨a, v, rfl, ha, k⟩ := h
  refine ⟨_, rfl, _, rfl, a, C, rfl, o, nf, .inl ⟨ha, fun dx nd ne => ?_⟩⟩
  obtain ⟨b, e⟩ := err_laid (C := C) (fs := [(f, v)]) nd ne
  exact k dx _ b nd upd_same e
theorem init2 {K : PySem.W.Frag} {C : Addr} {f g : Str} (o : OexC K C) (nf : PySem.W.findIn K (.ref C) f = some none) (ng : PySem.W.findIn K (.ref C) g = some none) {vs : List V} {H : Hp} {Q : VK} {E : XK} {N : List Str}
    (h : spI2 C f g vs H Q E) : tSeq (tOst K f (tVar 0) (tVar 1)) (tOst K g (tVar 0) (tVar 2)) { nx := fun _ H' => Q .non H', rt := Q } (L2.start N vs) H := by
  obtain ⟨a, v, u, rfl, ha, k⟩ := h
  refine ⟨_, rfl, _, rfl, a, C, rfl, o, nf, .inl ⟨ha, fun dx nd ne => ?_⟩⟩
  refine ⟨_, rfl, _, rfl, a, C, rfl, o, ng, .inr ⟨dx, [(f, v)], upd_same, by rw [upd_ne ne, upd_same], (by show 1 ≤ 900; decide), ?_⟩⟩
  refine k dx _ (fun b x nb e => ?_) nd ?_ upd_same
  · rw [upd_ne (ne_of_none e nd), upd_ne nb, upd_ne (ne_of_none e nd)]
    exact e
  · rw [upd_ne (Ne.symm ne), upd_same]
section
variable {P : Program} {w : World} {K : PySem.W.Frag} {mg : Str → Option Value} {base : Heap} {ca ia fa : Nat → Addr} {fd fi : Nat → FuncData}
theorem sci_BadNet : FnScope ["self", "value"] ["self", "value"] (defScope (inClass (topS 3) 0)) := ⟨rfl, rfl, rfl, by decide +kernel, rfl, by decide +kernel, by decide +kernel⟩
theorem in_BadNet (T : Txt K mg ca ia fa fd fi) : FnOk P w K mg base CX0 1 (ia 3) (fi 3) ["self", "value"] (spI1 (ca 3) "value") :=
  T.FI_BadNet.ok sci_BadNet (fun _ _ _ _ h => spI1_len h) (fun cdv A outer s H vs Q E hr h => ⟨_, pss_one (ps_ost (pv 0) (pv 1)), init1 T.c_BadNet.oex T.no_BadNet_value h⟩)
theorem sci_NoRouter : FnScope ["self", "value"] ["self", "value"] (defScope (inClass (topS 4) 0)) := ⟨rfl, rfl, rfl, by decide +kernel, rfl, by decide +kernel, by decide +kernel⟩
theorem in_NoRouter (T : Txt K mg ca ia fa fd fi) : FnOk P w K mg base CX0 1 (ia 4) (fi 4) ["self", "value"] (spI1 (ca 4) "value") :=
  T.FI_NoRouter.ok sci_NoRouter (fun _ _ _ _ h => spI1_len h) (fun cdv A outer s H vs Q E hr h => ⟨_, pss_one (ps_ost (pv 0) (pv 1)), init1 T.c_NoRouter.oex T.no_NoRouter_value h⟩)
theorem sci_NoLink : FnScope ["self", "value"] ["self", "value"] (defScope (inClass (topS 5) 0)) := ⟨rfl, rfl, rfl, by decide +kernel, rfl, by decide +kernel, by decide +kernel⟩
theorem in_NoLink (T : Txt K mg ca ia fa fd fi) : FnOk P w K mg base CX0 1 (ia 5) (fi 5) ["self", "value"] (spI1 (ca 5) "value") :=
  T.FI_NoLink.ok sci_NoLink (fun _ _ _ _ h => spI1_len h) (fun cdv A outer s H vs Q E hr h => ⟨_, pss_one (ps_ost (pv 0) (pv 1)), init1 T.c_NoLink.oex T.no_NoLink_value h⟩)
theorem sci_BadText : FnScope ["self", "value"] ["self", "value"] (defScope (inClass (topS 6) 0)) := ⟨rfl, rfl, rfl, by decide +kernel, rfl, by decide +kernel, by decide +kernel⟩
theorem in_BadText (T : Txt K mg ca ia fa fd fi) : FnOk P w K mg base CX0 1 (ia 6) (fi 6) ["self", "value"] (spI1 (ca 6) "value") :=
  T.FI_BadText.ok sci_BadText (fun _ _ _ _ h => spI1_len h) (fun cdv A outer s H vs Q E hr h => ⟨_, pss_one (ps_ost (pv 0) (pv 1)), init1 T.c_BadText.oex T.no_BadText_value h⟩)
theorem Txt.exm (T : Txt K mg ca ia fa fd fi) {nm : Str} {C : Addr} (c : ErrC K mg nm C (ca 2)) : PySem.W.exmOne K (.ref C) (.ref (ca 2)) = some true := by
  obtain ⟨d1, d2, d3⟩ := cls_of T.cN.xL
  refine PySem.W.exm_ref ?_ d2 d3 ?_
  · obtain ⟨_, _, _, _, _, _, _, _, _, _, _, _, _, _, e⟩ := T.cN.xL
    show PySem.W.mroIn K (ca 2) _ = _
    unfold PySem.W.mroIn PySem.W.clsIn
    rw [e]
    rfl
  · rw [c.sub]
    congr 1
    simp
end
/-- a new error as an argument, the rest behind it -/
theorem mk1 {C : Addr} {f : Str} {te : TE} {σ : L2.St} {H : Hp} {v : V} {Q : VK} (h : ∀ Q' : VK, Q' v H → te σ H Q')
    (k : ∀ a H', Same H H' → ErrAt H' a C [(f, v)] → H a = none → Q (.ref a) H') : tMkV C (spI1 C f) [] (tCons te tNil) σ H Q := by
  refine h _ ⟨(by decide : 1 ≤ 1000), fun a na => ⟨a, v, rfl, upd_same, fun d H' b _ ea ed => ⟨rfl, k a H' ?_ ⟨d, .inl ea, .inl ed⟩ na⟩⟩⟩
  intro c o e2
  exact b c o (ne_of_none e2 na) (same_new na _ _ e2)
theorem mk2 {C : Addr} {f g : Str} {te ue : TE} {σ : L2.St} {H : Hp} {v u : V} {Q : VK} (h : ∀ Q' : VK, Q' v H → te σ H Q') (h2 : ∀ Q' : VK, Q' u H → ue σ H Q')
    (k : ∀ a H', Same H H' → ErrAt H' a C [(g, u), (f, v)] → H a = none → Q (.ref a) H') : tMkV C (spI2 C f g) [] (tCons te (tCons ue tNil)) σ H Q := by
  refine h _ (h2 _ ⟨(by decide : 2 ≤ 1000), fun a na => ⟨a, v, u, rfl, upd_same, fun d H' b _ ea ed => ⟨rfl, k a H' ?_ ⟨d, .inl ea, .inl ed⟩ na⟩⟩⟩)
  intro c o e2
  exact b c o (ne_of_none e2 na) (same_new na _ _ e2)
theorem lst0 {t : TA} {σ : L2.St} {H : Hp} {Q : VK} (h : t σ H fun xs H1 => xs.length ≤ sizeLine ∧ ∀ p, H1 p = none → Q (.ref p) (upd H1 p (.lst xs))) : tLst t σ H Q := h
theorem tup0 {t : TA} {σ : L2.St} {H : Hp} {Q : VK} (h : t σ H fun xs H1 => xs.length ≤ sizeLine ∧ ∀ p, H1 p = none → Q (.ref p) (upd H1 p (.tup xs))) : tTup t σ H Q := h
theorem cons0 {ta : TE} {tr : TA} {σ : L2.St} {H : Hp} {Q : List V → Hp → Prop} (h : ta σ H fun x H1 => tr σ H1 fun xs H2 => Q (x :: xs) H2) : tCons ta tr σ H Q := h
theorem var {i : Nat} {σ : L2.St} {H : Hp} {v : V} (e : σ[i]? = some (some v)) : ∀ Q' : VK, Q' v H → tVar i σ H Q' := fun _ q => ⟨v, e, q⟩
end Toy
set_option Elab.async false
set_option linter.all false
set_option maxRecDepth 100000
set_option maxHeartbeats 4000000
namespace Toy
open PySem L2 Q
/-- is_integer(v) of a whole number -/
def spInt : Sp := fun vs H Q _ => ∃ v : Int, vs = [.int v] ∧ Q (.bl true) H
/-- is_integer_from(v, least) of whole numbers -/
def spIntFrom : Sp := fun vs H Q _ => ∃ v l : Int, vs = [.int v, .int l] ∧ Q (.bl (decide (l ≤ v))) H
def spLength : Sp := fun vs H Q _ => ∃ v : Int, vs = [.int v] ∧ Q (.bl (decide (1 ≤ v))) H
/-- is_name of a text -/
def spName : Sp := fun vs H Q _ => ∃ z : Str, vs = [.str z] ∧ z.length ≤ 1000000 ∧ ∀ b : Bool, (b = true ↔ NameOk z) → ∀ H', Same H H' → Q (.bl b) H'
section
variable {P : Program} {w : World} {K : PySem.W.Frag} {mg : Str → Option Value} {base : Heap} {ca ia fa : Nat → Addr} {fd fi : Nat → FuncData}
theorem ok_integer (T : Txt K mg ca ia fa fd fi) : FnOk P w K mg base CX0 1 (fa 9) (fd 9) ["value"] spInt := by
  refine T.F_is_integer.ok sc_is_integer (fun vs H Q E h => ?_) (fun cdv A outer s H vs Q E hr h => ?_)
  · obtain ⟨v, rfl, _⟩ := h
    rfl
  · obtain ⟨v, rfl, k⟩ := h
    refine ⟨_, (pss_one (ps_ret (pe_and (pe_callB call_isi (by rfl) T.n_isinstance (by decide +kernel) (pa_cons (pv 0) (pa_cons (pe_bltn (v := .ty "int") (by rfl) T.n_int (by decide +kernel) rfl) pa_nil))) (pe_one (pe_not (pe_callB call_isi (by rfl) T.n_isinstance (by decide +kernel) (pa_cons (pv 0) (pa_cons (pe_bltn (v := .ty "bool") (by rfl) T.n_bool (by decide +kernel) rfl) pa_nil)))))))), ?_⟩
    refine ⟨_, rfl, .int v, .ty "int", _, _, true, rfl, .ty _, .base (.int v), rfl, ?_⟩
    refine ⟨_, rfl, ?_⟩
    dsimp only
    rw [if_pos rfl]
    exact ⟨_, rfl, .int v, .ty "bool", _, _, false, rfl, .ty _, .base (.int v), rfl, _, rfl, k⟩
theorem ok_int_from (T : Txt K mg ca ia fa fd fi) : FnOk P w K mg base CX0 2 (fa 10) (fd 10) ["value", "least"] spIntFrom := by
  have G_is_integer := ok_integer (P := P) (w := w) (base := base) T
  refine T.F_is_integer_from.ok sc_is_integer_from (fun vs H Q E h => ?_) (fun cdv A outer s H vs Q E hr h => ?_)
  · obtain ⟨v, l, rfl, _⟩ := h
    rfl
  · obtain ⟨v, l, rfl, k⟩ := h
    refine ⟨_, (pss_one (ps_ret (pe_and (pe_call G_is_integer (hr.mono (by decide)) rfl T.g_is_integer T.k_is_integer T.b_is_integer .nil pass0 (pa_cons (pv 0) pa_nil)) (pe_one (pe_cmpR op_ge (pv 0) (pv 1) (nomark _)))))), ?_⟩
    refine ⟨_, rfl, v, rfl, _, rfl, ?_⟩
    dsimp only
    rw [if_pos rfl]
    exact ⟨_, rfl, _, rfl, _, _, rfl, rfl, k⟩
theorem ok_length (T : Txt K mg ca ia fa fd fi) : FnOk P w K mg base CX0 3 (fa 23) (fd 23) ["value"] spLength := by
  have G_is_integer_from := ok_int_from (P := P) (w := w) (base := base) T
  refine T.F_is_length.ok sc_is_length (fun vs H Q E h => ?_) (fun cdv A outer s H vs Q E hr h => ?_)
  · obtain ⟨v, rfl, _⟩ := h
    rfl
  · obtain ⟨v, rfl, k⟩ := h
    refine ⟨_, (pss_one (ps_ret (pe_call G_is_integer_from (hr.mono (by decide)) rfl T.g_is_integer_from T.k_is_integer_from T.b_is_integer_from .nil pass0 (pa_cons (pv 0) (pa_cons pe_int pa_nil))))), ?_⟩
    exact ⟨_, rfl, v, 1, rfl, k⟩
theorem lowS (c : Nat) : (!decide ((⟨#[c]⟩ : Str).cps.toList < (Str.ofString "a").cps.toList)) = decide (97 ≤ c) ∧ (!decide ((Str.ofString "z").cps.toList < (⟨#[c]⟩ : Str).cps.toList)) = decide (c ≤ 122) := by
  have ea : (Str.ofString "a").cps.toList = [97] := by decide +kernel
  have ez : (Str.ofString "z").cps.toList = [122] := by decide +kernel
  rw [ea, ez]
  constructor
  · rw [Bool.eq_iff_iff]
    simp [List.cons_lt_cons_iff]
  · rw [Bool.eq_iff_iff]
    simp [List.cons_lt_cons_iff]
theorem ok_name (T : Txt K mg ca ia fa fd fi) : FnOk P w K mg base CX0 1 (fa 11) (fd 11) ["value"] spName := by
  refine T.F_is_name.ok sc_is_name (fun vs H Q E h => ?_) (fun cdv A outer s H vs Q E hr h => ?_)
  · obtain ⟨z, rfl, _⟩ := h
    rfl
  · obtain ⟨z, rfl, hz, k⟩ := h
    obtain ⟨tk8, hv_LONGEST_NAME⟩ := T.v_LONGEST_NAME
    refine ⟨_, (pss_cons (ps_if (PW.pt (pw_or (pt_not (pt_val (pe_callB call_isi (by rfl) T.n_isinstance (by decide +kernel) (pa_cons (pv 0) (pa_cons (pe_bltn (v := .ty "str") (by rfl) T.n_str (by decide +kernel) rfl) pa_nil))))) (pw_or1 (pt_not (pt_chain op_le op_le pe_int (pe_callB call_len (by rfl) T.n_len (by decide +kernel) (pa_cons (pv 0) pa_nil)) (pe_glob rfl hv_LONGEST_NAME (v := .int 8) ⟨_, rfl⟩)))))) (pss_one (ps_ret pe_bl)) pss_nil)
      (pss_one (ps_ret (pe_callB (cr_all rfl) (by rfl) T.n_all (by decide +kernel) (pa_cons (pe_lc (own := [("letter", 1)]) (g := (gName 1)) (tt := tYes) rfl sc_is_name.nd (pi_str (pv 0)) (blkOk_by (own := [("letter", 1)]) (N := N_is_name) (sc := defScope s_is_name) (by decide +kernel)) (fun _ _ _ _ _ => (pg_name (i := 1) sc_is_name.nd rfl (Or.inl rfl))) (fun _ _ _ _ _ => pts_nil) (fun _ _ _ _ _ => by exact (pe_chain op_le_str op_le_str pe_str (pv 1) pe_str))) pa_nil))))), ?_⟩
    have lenV : LenV K (.str z) H z.length := ⟨by rw [sizeLine_eq]; omega, rfl⟩
    have stop : ∀ {u : TS} {D : Ends} {σ : L2.St}, D.rt = Q → ¬ NameOk z → tRet (tC (.bl false)) D σ H := fun {u D σ} e n => by
      show D.rt (.bl false) H
      rw [e]
      exact k false ⟨fun q => (by cases q), fun q => absurd q n⟩ H (fun _ _ e => e)
    refine ⟨_, rfl, .str z, .ty "str", _, _, true, rfl, .ty _, .base (.str z), rfl, _, rfl, ?_⟩
    refine ite2 (fun c => (by cases c)) fun _ => ?_
    refine ⟨_, rfl, _, _, rfl, lenV, _, _, rfl, rfl, _, rfl, ite2 (fun c1 => ?_) (fun c1 => ?_)⟩
    · have l1 : (1 : Int) ≤ (z.length : Nat) := of_decide_eq_true c1
      refine ⟨_, _, rfl, rfl, _, rfl, ite2 (fun c2 => ?_) (fun c2 => ?_)⟩
      · have l2 : ¬ ((z.length : Nat) : Int) ≤ 8 := fun q => by
          rw [decide_eq_true q] at c2
          cases c2
        exact stop (u := tNext) rfl fun q => l2 (by have := q.2.1; omega)
      · have l2 : ((z.length : Nat) : Int) ≤ 8 := Classical.byContradiction fun q => c2 (by rw [decide_eq_false q]; rfl)
        refine nxt ?_
        refine ⟨_, rfl, z, rfl, fun D hD => ?_⟩
        refine lc_it walk_str (fun i H' => ∃ bs : List Bool, bs.length = i ∧ H' D = some (.lst (bs.map V.bl)) ∧ Same H H' ∧ (bs.all id = true ↔ ∀ c ∈ z.cps.toList.take i, 97 ≤ c ∧ c ≤ 122))
          ⟨[], rfl, upd_same, same_new hD, by simp⟩ (fun _ _ _ _ => trivial) ?_ ?_
        · rintro i x H1 H2 hi ⟨bs, lb, hb, s1, iff1⟩ ⟨rfl, c, hc, rfl⟩
          refine ⟨rfl, ?_⟩
          dsimp only [tYes]
          rw [if_pos rfl]
          have hi2 : i < z.length := hi
          have fin : ∀ b : Bool, (b = true ↔ 97 ≤ c ∧ c ≤ 122) → ∃ acc, H2 D = some (.lst acc) ∧ acc.length < sizeLine ∧ ∃ bs : List Bool, bs.length = i + 1 ∧ upd H2 D (.lst (acc ++ [.bl b])) D = some (.lst (bs.map V.bl)) ∧ Same H (upd H2 D (.lst (acc ++ [.bl b]))) ∧
              (bs.all id = true ↔ ∀ c ∈ z.cps.toList.take (i + 1), 97 ≤ c ∧ c ≤ 122) := fun b hb2 => by
            refine ⟨_, hb, ?_, bs ++ [b], by simp [lb], ?_, fun d u e => ?_, ?_⟩
            · rw [List.length_map, sizeLine_eq]
              omega
            · rw [upd_same, List.map_append]
              rfl
            · rw [upd_ne (ne_of_none e hD)]
              exact s1 _ _ e
            · have hc2 : z.cps.toList[i]? = some c := by rw [Array.getElem?_toList]; exact hc
              rw [List.take_add_one, hc2, List.all_append, Bool.and_eq_true, iff1]
              constructor
              · rintro ⟨q1, q2⟩ d hd
                rcases List.mem_append.mp hd with q | q
                · exact q1 d q
                · have e : d = c := by simpa using q
                  rw [e]
                  exact hb2.1 (by simpa using q2)
              · intro q
                refine ⟨fun d hd => q d (List.mem_append_left _ hd), ?_⟩
                have e := hb2.2 (q c (List.mem_append_right _ (by simp)))
                simp [e]
          obtain ⟨low1, low2⟩ := lowS c
          refine ⟨_, rfl, _, _, rfl, rfl, _, rfl, ite2 (fun a1 => ?_) (fun a1 => ?_)⟩
          · rw [low1] at a1
            refine ⟨_, _, rfl, rfl, ?_⟩
            rw [low2]
            exact fin _ ⟨fun q => ⟨of_decide_eq_true a1, of_decide_eq_true q⟩, fun q => decide_eq_true q.2⟩
          · rw [low1] at a1
            exact fin _ ⟨fun q => (by cases q), fun q => absurd (decide_eq_true q.1) a1⟩
        · rintro H1 ⟨bs, lb, hb, s1, iff1⟩
          have e : z.cps.toList.take z.cps.size = z.cps.toList := List.take_of_length_le (Nat.le_of_eq (Array.length_toList ..))
          rw [e] at iff1
          exact ⟨D, bs, rfl, SqL.of hb, k _ ⟨fun q => ⟨by omega, by omega, iff1.1 q⟩, fun q => iff1.2 q.2.2⟩ H1 s1⟩
    · have l1 : ¬ (1 : Int) ≤ (z.length : Nat) := fun q => c1 (decide_eq_true q)
      refine ⟨_, rfl, ite2 (fun _ => ?_) (fun c2 => absurd rfl c2)⟩
      exact stop (u := tNext) rfl fun q => l1 (by have := q.1; omega)
end
end Toy
set_option Elab.async false
set_option linter.all false
set_option maxRecDepth 100000
set_option maxHeartbeats 4000000
namespace Toy
open PySem L2 Q RZ
theorem walk_zipT {K : PySem.W.Frag} {a b : Addr} {xs ys : List V} {n : Nat} (hn : n = min xs.length ys.length) :
    Walk (ItzT K a b) n (fun H => SqT K H a xs ∧ SqT K H b ys) (YPair (fun i => xs[i]?) (fun i => ys[i]?)) where
  goes := fun i H hi q => by
    have l1 : i < xs.length := by rw [hn] at hi; exact Nat.lt_of_lt_of_le hi (Nat.min_le_left _ _)
    have l2 : i < ys.length := by rw [hn] at hi; exact Nat.lt_of_lt_of_le hi (Nat.min_le_right _ _)
    exact ⟨xs, ys, _, _, q.1, q.2, List.getElem?_eq_getElem l1, List.getElem?_eq_getElem l2⟩
  stops := fun H q => ⟨xs, ys, q.1, q.2, by rw [hn]; omega⟩
  yields := fun i H v H' _ q y => by
    obtain ⟨T, u, z, r1, r2, r3, r4, r5⟩ := y
    exact ⟨T, u, z, r1, r2, r3, r4 _ q.1, r5 _ q.2⟩
/-- a slice of a tuple, new or the tuple itself -/
theorem slT {K : PySem.W.Frag} {H : Hp} {a : Addr} {xs : List V} {lo hi : Option Int} {Q : VK} (h : H a = some (.tup xs))
    (q : ∀ t H', Same H H' → H' t = some (.tup (cutV xs lo hi)) → Q (.ref t) H') : rSlA K (.ref a) lo hi H Q := by
  refine ⟨a, xs, rfl, SqT.of h, fun z => q a H (Same.refl H) ?_, fun z p np => q p _ (same_new np) upd_same⟩
  unfold cutV
  rw [z.1, z.2, List.drop_zero, Nat.sub_zero, List.take_length]
  exact h
theorem all_rep : ∀ n : Nat, (List.replicate n true).all id = true
  | 0 => rfl
  | n + 1 => by rw [List.replicate_succ, List.all_cons, all_rep n]; rfl
theorem rep_succ {α : Type} (n : Nat) (x : α) : List.replicate n x ++ [x] = List.replicate (n + 1) x := by
  rw [List.replicate_succ']
theorem cut_tail (xs : List V) : cutV xs (some 1) none = xs.drop 1 := cut_drop xs 1
theorem pair_at {α : Type} {R : α → α → Prop} {l : List α} (pw : l.Pairwise R) {i : Nat} {x y : α} (hx : l[i]? = some x) (hy : (l.drop 1)[i]? = some y) : R x y := by
  rw [List.getElem?_drop] at hy
  obtain ⟨h1, rfl⟩ := List.getElem?_eq_some_iff.mp hx
  obtain ⟨h2, rfl⟩ := List.getElem?_eq_some_iff.mp hy
  exact List.pairwise_iff_getElem.mp pw i (1 + i) h1 h2 (by omega)
theorem at_map {α β : Type} {f : α → β} {l : List α} {i : Nat} {v : β} (h : (l.map f)[i]? = some v) : ∃ x, l[i]? = some x ∧ v = f x := by
  rw [List.getElem?_map] at h
  obtain ⟨x, h1, h2⟩ := Option.map_eq_some_iff.mp h
  exact ⟨x, h1, h2.symm⟩
theorem tcons {te : TE} {ta : TA} {σ : L2.St} {H : Hp} {Q : List V → Hp → Prop} (h : te σ H fun x H1 => ta σ H1 fun xs H2 => Q (x :: xs) H2) : tCons te ta σ H Q := h
theorem roomU1 {k : Nat} {A : Around} (h : Room k A) : A.units + 1 < cLine := by
  have q := h.units
  omega
abbrev rLess (K : PySem.W.Frag) : R2 := fun x y H Q => (∃ i j, x = .str i ∧ y = .str j ∧ Q (.bl (decide (i.cps.toList < j.cps.toList))) H) ∨ rLtK K x y H Q
/-- is_rising of texts that rise, or of tuples that do -/
def spRising (K : PySem.W.Frag) : Sp := fun vs H Q _ => ∃ a : Addr, vs = [.ref a] ∧ (∀ H', Same H H' → Q (.bl true) H') ∧
  ((∃ zs : List Str, H a = some (.tup (zs.map V.str)) ∧ zs.Pairwise tLt ∧ zs.length ≤ 1000) ∨
   (∃ (ks : List (Addr × List Key)) (sh : List Bool), SqL K H a (ks.map fun p => V.ref p.1) ∧ (∀ p ∈ ks, SqT K H p.1 (p.2.map kV) ∧ shape p.2 = sh) ∧ ks.Pairwise (fun p q => ksLt p.2 q.2 = true) ∧ ks.length ≤ 1000))
section
variable {P : Program} {w : World} {K : PySem.W.Frag} {mg : Str → Option Value} {base : Heap} {ca ia fa : Nat → Addr} {fd fi : Nat → FuncData}
theorem ok_rising (T : Txt K mg ca ia fa fd fi) : FnOk P w K mg base CX0 1 (fa 12) (fd 12) ["values"] (spRising K) := by
  refine T.F_is_rising.ok sc_is_rising (fun vs H Q E h => ?_) (fun cdv A outer s H vs Q E hr h => ?_)
  · obtain ⟨a, rfl, _⟩ := h
    rfl
  · obtain ⟨a, rfl, k, h⟩ := h
    refine ⟨_, (pss_one (ps_ret (pe_callB (cr_all rfl) (by rfl) T.n_all (by decide +kernel) (pa_cons (pe_lc (own := [("low", 1), ("high", 2)]) (g := (gTup K 2 (gCons (gName 1) (gCons (gName 2) gNil)))) (tt := tYes) (te := (tOp (rLess K) (tVar 1) (tVar 2))) rfl sc_is_rising.nd (pi_zipA (by rfl) T.n_zip (pa_cons (pv 0) (pa_cons (pe_slice (SlR.or sl_list sl_tupA) (pv 0) (po_some pe_int) po_none) pa_nil))) (blkOk_by (own := [("low", 1), ("high", 2)]) (N := N_is_rising) (sc := defScope s_is_rising) (by decide +kernel)) (fun _ _ _ _ _ => (pg_tup rfl (pgs_cons (pg_name (i := 1) sc_is_rising.nd rfl (Or.inl rfl)) (pgs_cons (pg_name (i := 2) sc_is_rising.nd rfl (Or.inl rfl)) pgs_nil)))) (fun _ _ _ _ _ => pts_nil) (fun _ _ _ _ _ => by exact (pe_cmpR (OpR.or op_lt_str (op_ltK (roomU1 hr))) (pv 1) (pv 2) (nomark _)))) pa_nil)))), ?_⟩
    rcases h with ⟨zs, hz, pw, l1⟩ | ⟨ks, sh, hz, hk, pw, l1⟩
    · refine ⟨_, rfl, _, rfl, _, rfl, .inr (slT hz fun t H1 s1 ht => ?_)⟩
      rw [cut_tail] at ht
      refine ⟨a, t, _, _, rfl, .inr ⟨SqT.of (s1 _ _ hz), SqT.of ht, fun D hD => ?_⟩⟩
      refine lc_it (walk_zipT rfl) (fun i H' => H' D = some (.lst (List.replicate i (V.bl true))) ∧ Same H1 H') ⟨upd_same, same_new hD⟩ (fun i H' _ q => ⟨SqT.of (q.2 _ _ (s1 _ _ hz)), SqT.of (q.2 _ _ ht)⟩) ?_ ?_
      · rintro i x H2 H3 hi ⟨h2, s2⟩ ⟨T, u, v, rfl, nT, rfl, e1, e2⟩
        obtain ⟨y, hy, rfl⟩ := at_map e1
        rw [← List.map_drop] at e2
        obtain ⟨z, hz2, rfl⟩ := at_map e2
        have lt : tLt y z := pair_at pw hy hz2
        have hi2 : i < 1000 := by rw [List.length_map] at hi; omega
        refine ⟨T, _, rfl, SqT.of upd_same, rfl, _, _, rfl, _, _, rfl, rfl, rfl, ?_⟩
        dsimp only [tYes]
        rw [if_pos rfl]
        refine ⟨_, rfl, _, rfl, .inl ⟨_, _, rfl, rfl, _, same_new nT _ _ h2, ?_, ?_, ?_⟩⟩
        · rw [List.length_replicate, sizeLine_eq]
          omega
        · rw [upd_same, decide_eq_true lt, rep_succ]
        · intro b o e
          rw [upd_ne (ne_of_none e hD)]
          exact same_new nT _ _ (s2 _ _ e)
      · rintro H2 ⟨h2, s2⟩
        refine ⟨D, List.replicate _ true, rfl, SqL.of (by rw [List.map_replicate]; exact h2), ?_⟩
        rw [all_rep]
        exact k H2 (s1.trans s2)
    · refine ⟨_, rfl, _, rfl, _, rfl, .inl ⟨a, _, rfl, hz, fun t nt => ?_⟩⟩
      rw [cut_tail]
      have s1 : Same H (upd H t (.lst ((ks.map fun p => V.ref p.1).drop 1))) := same_new nt
      refine ⟨a, t, _, _, rfl, .inl ⟨s1.seq hz, SqL.of upd_same, fun D hD => ?_⟩⟩
      have ht : upd H t (.lst ((ks.map fun p => V.ref p.1).drop 1)) t = some (.lst ((ks.map fun p => V.ref p.1).drop 1)) := upd_same
      generalize upd H t (.lst ((ks.map fun p => V.ref p.1).drop 1)) = H1 at s1 ht hD ⊢
      refine lc_it (walk_zip rfl) (fun i H' => H' D = some (.lst (List.replicate i (V.bl true))) ∧ Same H1 H') ⟨upd_same, same_new hD⟩ (fun i H' _ q => ⟨(s1.trans q.2).seq hz, SqL.of (q.2 _ _ ht)⟩) ?_ ?_
      · rintro i x H2 H3 hi ⟨h2, s2⟩ ⟨T, u, v, rfl, nT, rfl, e1, e2⟩
        obtain ⟨y, hy, rfl⟩ := at_map e1
        rw [← List.map_drop] at e2
        obtain ⟨z, hz2, rfl⟩ := at_map e2
        have lt := pair_at pw hy hz2
        have iy := List.mem_of_getElem? hy
        have iz : z ∈ ks := List.mem_of_mem_drop (List.mem_of_getElem? hz2)
        have hi2 : i < 1000 := by rw [List.length_map] at hi; omega
        have s3 := (s1.trans s2).trans (same_new (o := .tup [V.ref y.1, V.ref z.1]) nT)
        refine ⟨T, _, rfl, SqT.of upd_same, rfl, _, _, rfl, _, _, rfl, rfl, rfl, ?_⟩
        dsimp only [tYes]
        rw [if_pos rfl]
        refine ⟨_, rfl, _, rfl, .inr ⟨_, _, y.2, z.2, rfl, rfl, SqT.same s3 (hk y iy).1, SqT.same s3 (hk z iz).1, (hk y iy).2.trans (hk z iz).2.symm, _, same_new nT _ _ h2, ?_, ?_, ?_⟩⟩
        · rw [List.length_replicate, sizeLine_eq]
          omega
        · rw [upd_same, lt, rep_succ]
        · intro b o e
          rw [upd_ne (ne_of_none e hD)]
          exact same_new nT _ _ (s2 _ _ e)
      · rintro H2 ⟨h2, s2⟩
        refine ⟨D, List.replicate _ true, rfl, SqL.of (by rw [List.map_replicate]; exact h2), ?_⟩
        rw [all_rep]
        exact k H2 (s1.trans s2)
end
end Toy
set_option Elab.async false
set_option linter.all false
set_option maxRecDepth 100000
set_option maxHeartbeats 4000000
namespace Toy
open PySem L2 Q RZ
/-- routers as a net takes them -/
abbrev RtOk (zs : List Str) : Prop := 2 ≤ zs.length ∧ zs.length ≤ 8 ∧ ∀ z ∈ zs, NameOk z
def spRouters : Sp := fun vs H Q _ => ∃ (r : Addr) (zs : List Str), vs = [.ref r] ∧ H r = some (.tup (zs.map V.str)) ∧ (∀ z ∈ zs, z.length ≤ 1000000) ∧ zs.length ≤ 1000 ∧ zs.Pairwise tLt ∧
  ∀ b : Bool, (b = true ↔ RtOk zs) → ∀ H', Same H H' → Q (.bl b) H'
/-- a link of routers -/
def LkOk (zs : List Str) (k : List Key) : Prop := ∃ (a b : Str) (x y : Int), k = [.inr a, .inr b, .inl x, .inl y] ∧ a ∈ zs ∧ b ∈ zs ∧ tLt a b ∧ 1 ≤ x ∧ 1 ≤ y
abbrev pLt (k l : List Key) : Prop := ksLt (k.take 2) (l.take 2) = true
def spLink : Sp := fun vs H Q _ => ∃ (t r : Addr) (zs : List Str) (k : List Key), vs = [.ref t, .ref r] ∧ H t = some (.tup (k.map kV)) ∧ H r = some (.tup (zs.map V.str)) ∧ LkOk zs k ∧
  ∀ H', Same H H' → Q (.bl true) H'
/-- links of routers, by their pairs -/
structure Lks (H : Hp) (zs : List Str) (l : Addr) (ls : List (Addr × List Key)) : Prop where
  at_ : H l = some (.tup (ls.map fun q => V.ref q.1))
  el : ∀ q ∈ ls, H q.1 = some (.tup (q.2.map kV)) ∧ LkOk zs q.2
  up : ls.Pairwise fun p q => pLt p.2 q.2
  few : ls.length ≤ 100
theorem Lks.same {H H' : Hp} {zs : List Str} {l : Addr} {ls : List (Addr × List Key)} (h : Lks H zs l ls) (s : Same H H') : Lks H' zs l ls :=
  ⟨s _ _ h.at_, fun q hq => ⟨s _ _ (h.el q hq).1, (h.el q hq).2⟩, h.up, h.few⟩
def spLinks : Sp := fun vs H Q _ => ∃ (l r : Addr) (zs : List Str) (ls : List (Addr × List Key)), vs = [.ref l, .ref r] ∧ H r = some (.tup (zs.map V.str)) ∧ Lks H zs l ls ∧
  ∀ b : Bool, (b = true ↔ ls.length ≤ 16) → ∀ H', Same H H' → Q (.bl b) H'
theorem flat_strs : ∀ zs : List Str, (zs.map V.str).all flatV = true
  | [] => rfl
  | z :: zs => by rw [List.map_cons, List.all_cons, flat_strs zs]; rfl
theorem in_strs {a : Str} : ∀ {zs : List Str}, inV (V.str a) (zs.map V.str) = true ↔ a ∈ zs
  | [] => by simp [inV]
  | z :: zs => by
    have ih := in_strs (a := a) (zs := zs)
    unfold inV at ih ⊢
    rw [List.map_cons, List.any_cons, Bool.or_eq_true, ih, List.mem_cons]
    refine or_congr_left ?_
    show (z == a) = true ↔ a = z
    rw [beq_iff_eq]
    exact eq_comm
theorem iteB {c : Bool} {A B : Prop} (h : c = true) (a : A) : if c = true then A else B := by
  rw [if_pos h]
  exact a
section
variable {P : Program} {w : World} {K : PySem.W.Frag} {mg : Str → Option Value} {base : Heap} {ca ia fa : Nat → Addr} {fd fi : Nat → FuncData}
theorem ok_routers (T : Txt K mg ca ia fa fd fi) : FnOk P w K mg base CX0 2 (fa 24) (fd 24) ["value"] spRouters := by
  have G_is_name := ok_name (P := P) (w := w) (base := base) T
  have G_is_rising := ok_rising (P := P) (w := w) (base := base) T
  obtain ⟨t1, hv_FEWEST_ROUTERS⟩ := T.v_FEWEST_ROUTERS
  obtain ⟨t2, hv_MOST_ROUTERS⟩ := T.v_MOST_ROUTERS
  refine T.F_are_routers.ok sc_are_routers (fun vs H Q E h => ?_) (fun cdv A outer s H vs Q E hr h => ?_)
  · obtain ⟨r, zs, rfl, _⟩ := h
    rfl
  · obtain ⟨r, zs, rfl, hz, big, few, pw, k⟩ := h
    refine ⟨_, (pss_cons (ps_if (PW.pt (pw_or (pt_not (pt_val (pe_callB call_isi (by rfl) T.n_isinstance (by decide +kernel) (pa_cons (pv 0) (pa_cons (pe_bltn (v := .ty "tuple") (by rfl) T.n_tuple (by decide +kernel) rfl) pa_nil))))) (pw_or1 (pt_not (pt_chain op_le op_le (pe_glob rfl hv_FEWEST_ROUTERS (v := .int 2) ⟨_, rfl⟩) (pe_callB call_len (by rfl) T.n_len (by decide +kernel) (pa_cons (pv 0) pa_nil)) (pe_glob rfl hv_MOST_ROUTERS (v := .int 8) ⟨_, rfl⟩)))))) (pss_one (ps_ret pe_bl)) pss_nil)
      (pss_one (ps_ret (pe_and (pe_callB (cr_all rfl) (by rfl) T.n_all (by decide +kernel) (pa_cons (pe_lc (own := [("name", 1)]) (g := (gName 1)) (tt := tYes) rfl sc_are_routers.nd (pi_tup (pv 0)) (blkOk_by (own := [("name", 1)]) (N := N_are_routers) (sc := defScope s_are_routers) (by decide +kernel)) (fun _ _ _ _ _ => (pg_name (i := 1) sc_are_routers.nd rfl (Or.inl rfl))) (fun _ _ _ _ _ => pts_nil) (fun _ _ _ _ _ => by exact (pe_call G_is_name (hr.mono (by decide)) rfl T.g_is_name T.k_is_name T.b_is_name .nil pass0 (pa_cons (pv 1) pa_nil)))) pa_nil)) (pe_one (pe_call G_is_rising (hr.mono (by decide)) rfl T.g_is_rising T.k_is_rising T.b_is_rising .nil pass0 (pa_cons (pv 0) pa_nil))))))), ?_⟩
    have lz : (zs.map V.str).length = zs.length := List.length_map ..
    have no : ¬ RtOk zs → Q (.bl false) H := fun n => k false ⟨fun q => (by cases q), fun q => absurd q n⟩ H (Same.refl H)
    refine ⟨_, rfl, .ref r, .ty "tuple", _, _, true, rfl, .ty _, .base (.tup hz), rfl, _, rfl, ?_⟩
    refine ite2 (fun c => (by cases c)) fun _ => ?_
    refine ⟨_, rfl, _, _, rfl, .inr ⟨_, SqT.of hz, rfl⟩, _, _, rfl, rfl, _, rfl, ite2 (fun c1 => ?_) (fun c1 => ?_)⟩
    · have l1 : (2 : Int) ≤ ((zs.map V.str).length : Nat) := of_decide_eq_true c1
      refine ⟨_, _, rfl, rfl, _, rfl, ite2 (fun c2 => ?_) (fun c2 => ?_)⟩
      · have l2 : ¬ (((zs.map V.str).length : Nat) : Int) ≤ 8 := fun q => by
          rw [decide_eq_true q] at c2
          cases c2
        exact no fun q => l2 (by rw [lz]; have := q.2.1; omega)
      · have l2 : (((zs.map V.str).length : Nat) : Int) ≤ 8 := Classical.byContradiction fun q => c2 (by rw [decide_eq_false q]; rfl)
        rw [lz] at l1 l2
        refine nxt ?_
        refine ⟨_, rfl, r, rfl, ⟨_, SqT.of hz⟩, fun D hD => ?_⟩
        refine lc_it (walk_tup (xs := zs.map V.str)) (fun i H' => ∃ bs : List Bool, bs.length = i ∧ H' D = some (.lst (bs.map V.bl)) ∧ Same H H' ∧ (bs.all id = true ↔ ∀ z ∈ zs.take i, NameOk z))
          ⟨[], rfl, upd_same, same_new hD, by simp⟩ (fun i H' _ q => ?_) ?_ ?_
        · obtain ⟨_, _, _, q, _⟩ := q
          exact SqT.of (q _ _ hz)
        · rintro i x H1 H2 hi ⟨bs, lb, hb, s1, iff1⟩ ⟨rfl, hx⟩
          obtain ⟨z, hz2, rfl⟩ := at_map hx
          refine ⟨rfl, ?_⟩
          dsimp only [tYes]
          rw [if_pos rfl]
          have mz := List.mem_of_getElem? hz2
          refine ⟨_, rfl, z, rfl, big z mz, fun b hb2 H3 s3 => ⟨_, s3 _ _ hb, ?_, bs ++ [b], by simp [lb], ?_, fun d u e => ?_, ?_⟩⟩
          · rw [List.length_map, sizeLine_eq]
            rw [lz] at hi
            omega
          · rw [upd_same, List.map_append]
            rfl
          · rw [upd_ne (ne_of_none e hD)]
            exact s3 _ _ (s1 _ _ e)
          · rw [List.take_add_one, hz2, List.all_append, Bool.and_eq_true, iff1]
            constructor
            · rintro ⟨q1, q2⟩ d hd
              rcases List.mem_append.mp hd with q | q
              · exact q1 d q
              · have e : d = z := by simpa using q
                rw [e]
                exact hb2.1 (by simpa using q2)
            · intro q
              refine ⟨fun d hd => q d (List.mem_append_left _ hd), ?_⟩
              have e := hb2.2 (q z (List.mem_append_right _ (by simp)))
              simp [e]
        · rintro H1 ⟨bs, lb, hb, s1, iff1⟩
          rw [lz, List.take_length] at iff1
          refine ⟨D, bs, rfl, SqL.of hb, _, rfl, ite2 (fun c => ?_) fun c => ?_⟩
          · refine ⟨_, rfl, r, rfl, fun H2 s2 => ?_, .inl ⟨zs, s1 _ _ hz, pw, few⟩⟩
            exact k true ⟨fun _ => ⟨by omega, by omega, iff1.1 c⟩, fun _ => rfl⟩ H2 (s1.trans s2)
          · exact k false ⟨fun q => (by cases q), fun q => absurd (iff1.2 q.2.2) c⟩ H1 s1
    · have l1 : ¬ (2 : Int) ≤ ((zs.map V.str).length : Nat) := fun q => c1 (decide_eq_true q)
      refine ⟨_, rfl, ite2 (fun _ => ?_) (fun c2 => absurd rfl c2)⟩
      exact no fun q => l1 (by rw [lz]; have := q.1; omega)
theorem ok_is_link (T : Txt K mg ca ia fa fd fi) : FnOk P w K mg base CX0 4 (fa 26) (fd 26) ["value", "routers"] spLink := by
  have G_is_length := ok_length (P := P) (w := w) (base := base) T
  refine T.F_is_link.ok sc_is_link (fun vs H Q E h => ?_) (fun cdv A outer s H vs Q E hr h => ?_)
  · obtain ⟨t, r, zs, k, rfl, _⟩ := h
    rfl
  · obtain ⟨t, r, zs, k, rfl, ht, hz, ⟨a, b, x, y, rfl, ha, hb, ab, hx, hy⟩, q⟩ := h
    refine ⟨_, (pss_cons (ps_if (PW.pt (pw_or (pt_not (pt_val (pe_callB call_isi (by rfl) T.n_isinstance (by decide +kernel) (pa_cons (pv 0) (pa_cons (pe_bltn (v := .ty "tuple") (by rfl) T.n_tuple (by decide +kernel) rfl) pa_nil))))) (pw_or1 (pt_cmpR op_ne (pe_callB call_len (by rfl) T.n_len (by decide +kernel) (pa_cons (pv 0) pa_nil)) pe_int (nomark _))))) (pss_one (ps_ret pe_bl)) pss_nil)
      (pss_cons (ps_asg (pv 0) (pg_tup rfl (pgs_cons (pg_name (i := 2) sc_is_link.nd rfl (Or.inl rfl)) (pgs_cons (pg_name (i := 3) sc_is_link.nd rfl (Or.inl rfl)) (pgs_cons (pg_name (i := 4) sc_is_link.nd rfl (Or.inl rfl)) (pgs_cons (pg_name (i := 5) sc_is_link.nd rfl (Or.inl rfl)) pgs_nil))))))
      (pss_one (ps_ret (pe_and (pe_cmpR op_in_seq (pv 2) (pv 1) rfl) (pe_and (pe_cmpR op_in_seq (pv 3) (pv 1) rfl) (pe_and (pe_cmpR op_lt_str (pv 2) (pv 3) (nomark _)) (pe_and (pe_call G_is_length (hr.mono (by decide)) rfl T.g_is_length T.k_is_length T.b_is_length .nil pass0 (pa_cons (pv 4) pa_nil)) (pe_one (pe_call G_is_length (hr.mono (by decide)) rfl T.g_is_length T.k_is_length T.b_is_length .nil pass0 (pa_cons (pv 5) pa_nil))))))))))), ?_⟩
    refine ⟨_, rfl, .ref t, .ty "tuple", _, _, true, rfl, .ty _, .base (.tup ht), rfl, _, rfl, ?_⟩
    refine ite2 (fun c => (by cases c)) fun _ => ?_
    refine ⟨_, rfl, _, _, rfl, .inr ⟨_, SqT.of ht, rfl⟩, rfl, _, rfl, ite2 (fun c => absurd (show (!decide (V.int 4 = V.int 4)) = true from c) (by decide)) fun _ => ?_⟩
    refine nxt ?_
    refine ⟨_, rfl, t, _, rfl, SqT.of ht, rfl, _, _, rfl, _, _, rfl, _, _, rfl, _, _, rfl, rfl, ?_⟩
    refine nxt ?_
    have flat : (zs.map V.str).all flatV = true := flat_strs zs
    refine ⟨_, rfl, _, rfl, r, _, rfl, .inr (SqT.of hz), rfl, flat, _, rfl, ?_⟩
    refine iteB (by exact in_strs.mpr ha) ⟨_, rfl, _, rfl, r, _, rfl, .inr (SqT.of hz), rfl, flat, _, rfl, ?_⟩
    refine iteB (by exact in_strs.mpr hb) ⟨_, rfl, _, rfl, _, _, rfl, rfl, _, rfl, ?_⟩
    rw [if_pos (decide_eq_true ab)]
    refine ⟨_, rfl, x, rfl, _, rfl, ?_⟩
    rw [if_pos (decide_eq_true hx)]
    refine ⟨_, rfl, y, rfl, ?_⟩
    rw [decide_eq_true hy]
    exact q H (Same.refl H)
theorem ok_are_links (T : Txt K mg ca ia fa fd fi) : FnOk P w K mg base CX0 5 (fa 25) (fd 25) ["value", "routers"] spLinks := by
  have G_is_link := ok_is_link (P := P) (w := w) (base := base) T
  have G_is_rising := ok_rising (P := P) (w := w) (base := base) T
  obtain ⟨t1, hv_MOST_LINKS⟩ := T.v_MOST_LINKS
  refine T.F_are_links.ok sc_are_links (fun vs H Q E h => ?_) (fun cdv A outer s H vs Q E hr h => ?_)
  · obtain ⟨l, r, zs, ls, rfl, _⟩ := h
    rfl
  · obtain ⟨l, r, zs, ls, rfl, hz, hl, k⟩ := h
    refine ⟨_, (pss_cons (ps_if (PW.pt (pw_or (pt_not (pt_val (pe_callB call_isi (by rfl) T.n_isinstance (by decide +kernel) (pa_cons (pv 0) (pa_cons (pe_bltn (v := .ty "tuple") (by rfl) T.n_tuple (by decide +kernel) rfl) pa_nil))))) (pw_or1 (pt_cmpR op_gt (pe_callB call_len (by rfl) T.n_len (by decide +kernel) (pa_cons (pv 0) pa_nil)) (pe_glob rfl hv_MOST_LINKS (v := .int 16) ⟨_, rfl⟩) (nomark _))))) (pss_one (ps_ret pe_bl)) pss_nil)
      (pss_one (ps_ret (pe_and (pe_callB (cr_all rfl) (by rfl) T.n_all (by decide +kernel) (pa_cons (pe_lc (own := [("link", 2)]) (g := (gName 2)) (tt := tYes) rfl sc_are_links.nd (pi_tup (pv 0)) (blkOk_by (own := [("link", 2)]) (N := N_are_links) (sc := defScope s_are_links) (by decide +kernel)) (fun _ _ _ _ _ => (pg_name (i := 2) sc_are_links.nd rfl (Or.inl rfl))) (fun _ _ _ _ _ => pts_nil) (fun _ _ _ _ _ => by exact (pe_call G_is_link (hr.mono (by decide)) rfl T.g_is_link T.k_is_link T.b_is_link .nil pass0 (pa_cons (pv 2) (pa_cons (pv 1) pa_nil))))) pa_nil)) (pe_one (pe_call G_is_rising (hr.mono (by decide)) rfl T.g_is_rising T.k_is_rising T.b_is_rising .nil pass0 (pa_cons (pe_lc (own := [("link", 2)]) (g := (gName 2)) (tt := tYes) (te := (tSl (rSlA K) (tVar 2) tNoPart (tPart (tC (.int 2))))) rfl sc_are_links.nd (pi_tup (pv 0)) (blkOk_by (own := [("link", 2)]) (N := N_are_links) (sc := defScope s_are_links) (by decide +kernel)) (fun _ _ _ _ _ => (pg_name (i := 2) sc_are_links.nd rfl (Or.inl rfl))) (fun _ _ _ _ _ => pts_nil) (fun _ _ _ _ _ => by exact (pe_slice sl_tupA (pv 2) po_none (po_some pe_int)))) pa_nil))))))), ?_⟩
    have ll : (ls.map fun q => V.ref q.1).length = ls.length := List.length_map ..
    refine ⟨_, rfl, .ref l, .ty "tuple", _, _, true, rfl, .ty _, .base (.tup hl.at_), rfl, _, rfl, ?_⟩
    refine ite2 (fun c => (by cases c)) fun _ => ?_
    refine ⟨_, rfl, _, _, rfl, .inr ⟨_, SqT.of hl.at_, rfl⟩, _, _, rfl, rfl, _, rfl, ite2 (fun c => ?_) fun c => ?_⟩
    · have c1 := of_decide_eq_true c
      rw [ll] at c1
      exact k false ⟨fun q => (by cases q), fun q => absurd q (by omega)⟩ H (Same.refl H)
    have c1 : ¬ ((16 : Int) < ((ls.map fun q => V.ref q.1).length : Nat)) := fun q => c (decide_eq_true q)
    rw [ll] at c1
    have out : ∀ H', Same H H' → Q (.bl true) H' := k true ⟨fun _ => by omega, fun _ => rfl⟩
    refine nxt ?_
    refine ⟨_, rfl, l, rfl, ⟨_, SqT.of hl.at_⟩, fun D hD => ?_⟩
    refine lc_it (walk_tup (xs := ls.map fun q => V.ref q.1)) (fun i H' => H' D = some (.lst (List.replicate i (V.bl true))) ∧ Same H H') ⟨upd_same, same_new hD⟩ (fun i H' _ q => SqT.of (q.2 _ _ hl.at_)) ?_ ?_
    · rintro i x H1 H2 hi ⟨h1, s1⟩ ⟨rfl, hx⟩
      obtain ⟨q, hq, rfl⟩ := at_map hx
      have mq := List.mem_of_getElem? hq
      refine ⟨rfl, ?_⟩
      dsimp only [tYes]
      rw [if_pos rfl]
      refine ⟨_, rfl, _, rfl, q.1, r, zs, q.2, rfl, s1 _ _ (hl.el q mq).1, s1 _ _ hz, (hl.el q mq).2, fun H3 s3 => ⟨_, s3 _ _ h1, ?_, ?_, fun b o e => ?_⟩⟩
      · rw [List.length_replicate, sizeLine_eq]
        rw [ll] at hi
        omega
      · rw [upd_same, rep_succ]
      · rw [upd_ne (ne_of_none e hD)]
        exact s3 _ _ (s1 _ _ e)
    · rintro H1 ⟨h1, s1⟩
      refine ⟨D, List.replicate _ true, rfl, SqL.of (by rw [List.map_replicate]; exact h1), ?_⟩
      rw [all_rep]
      refine ⟨_, rfl, ?_⟩
      rw [if_pos rfl]
      have hl1 := hl.same s1
      refine ⟨_, rfl, l, rfl, ⟨_, SqT.of hl1.at_⟩, fun D2 hD2 => ?_⟩
      refine lc_it (walk_tup (xs := ls.map fun q => V.ref q.1)) (fun i H' => ∃ ts : List (Addr × List Key), ts.map (·.2) = (ls.take i).map (fun q => q.2.take 2) ∧ H' D2 = some (.lst (ts.map fun q => V.ref q.1)) ∧ (∀ q ∈ ts, H' q.1 = some (.tup (q.2.map kV))) ∧ Same H1 H')
        ⟨[], by rw [List.take_zero]; rfl, upd_same, (fun _ q => by cases q), same_new hD2⟩ (fun i H' _ q => ?_) ?_ ?_
      · obtain ⟨_, _, _, _, q⟩ := q
        exact SqT.of (q _ _ hl1.at_)
      · rintro i x H2 H3 hi ⟨ts, et, h2, el, s2⟩ ⟨rfl, hx⟩
        obtain ⟨q, hq, rfl⟩ := at_map hx
        have mq := List.mem_of_getElem? hq
        have lt : ts.length = i := by
          have e := congrArg List.length et
          rw [List.length_map, List.length_map, List.length_take] at e
          rw [ll] at hi
          omega
        refine ⟨rfl, ?_⟩
        dsimp only [tYes]
        rw [if_pos rfl]
        have hq2 := s2 _ _ (hl1.el q mq).1
        refine ⟨_, rfl, _, rfl, slT hq2 fun t H4 s4 ht => ?_⟩
        rw [show cutV (q.2.map kV) none (some 2) = (q.2.take 2).map kV from by rw [List.map_take]; exact cut_take _ 2] at ht
        have h4 := s4 _ _ h2
        have ntD : t ≠ D2 := fun z => by rw [z, h4] at ht; cases ht
        refine ⟨_, h4, ?_, ts ++ [(t, q.2.take 2)], ?_, ?_, fun p hp => ?_, fun b o e => ?_⟩
        · rw [List.length_map, sizeLine_eq, lt]
          rw [ll] at hi
          omega
        · rw [List.map_append, et, List.take_add_one (l := ls), show ls[i]? = some q from hq, List.map_append]
          rfl
        · rw [upd_same, List.map_append]
          rfl
        · rcases List.mem_append.mp hp with z | z
          · rw [upd_ne (fun y => by have e := s4 _ _ (el p z); rw [y, h4] at e; cases e)]
            exact s4 _ _ (el p z)
          · rw [List.mem_singleton.mp z, upd_ne ntD]
            exact ht
        · rw [upd_ne (ne_of_none e hD2)]
          exact s4 _ _ (s2 _ _ e)
      · rintro H2 ⟨ts, et, h2, el, s2⟩
        rw [ll, List.take_length] at et
        have lt : ts.length = ls.length := by
          have e := congrArg List.length et
          rw [List.length_map, List.length_map] at e
          exact e
        have pw : (ts.map (·.2)).Pairwise fun k l => ksLt k l = true := by
          rw [et]
          exact List.pairwise_map.mpr hl.up
        refine ⟨D2, rfl, fun H3 s3 => out H3 ((s1.trans s2).trans s3), .inr ⟨ts, [false, false], SqL.of h2, fun p hp => ⟨SqT.of (el p hp), ?_⟩, List.pairwise_map.mp pw, by have := hl.few; omega⟩⟩
        have mp : p.2 ∈ ts.map (·.2) := List.mem_map_of_mem hp
        rw [et] at mp
        obtain ⟨q, hq, e⟩ := List.mem_map.mp mp
        obtain ⟨_, a, b, x, y, e2, _⟩ := hl.el q hq
        rw [← e, e2]
        rfl
end
end Toy
set_option Elab.async false
set_option linter.all false
set_option maxRecDepth 100000
set_option maxHeartbeats 4000000
namespace Toy
open PySem L2 Q RZ
abbrev netFs (r l : Addr) : List (Str × V) := [("_routers", .ref r), ("_links", .ref l)]
/-- a net at n with these routers and links -/
def NetO (C : Addr) (H : Hp) (n r l : Addr) : Prop := ∃ dx, H n = some (.ins C dx (netFs r l))
theorem NetO.same {C : Addr} {H H' : Hp} {n r l : Addr} (h : NetO C H n r l) (s : Same H H') : NetO C H' n r l := let ⟨dx, e⟩ := h; ⟨dx, s _ _ e⟩
theorem put_links (u v : V) : putF "_links" v (putF "_routers" u []) = ([("_routers", u), ("_links", v)] : List (Str × V)) := by
  unfold putF
  simp only [putF]
  rw [if_neg (by decide)]
/-- an error of one value, raised -/
theorem oexc {C : Addr} {f : Str} {v : V} {H : Hp} {Q : XK} (q : ∀ d H', Same H H' → H' d = some (.xd [(f, v)]) → Q (.ref C) (some d) H') :
    ([v] : List V).length ≤ 1000 ∧ ∀ a, H a = none → spI1 C f (.ref a :: ([v] ++ [])) (upd H a (exo a C none))
      (fun u H2 => u = .non ∧ ∃ (d : Addr) (fs : List (Str × V)), H2 a = some (exo a C (some d)) ∧ H2 d = some (exd d fs) ∧ H d = none ∧ Q (.ref C) (some d) (upd (del H2 a) d (.xd fs))) (fun _ _ _ => False) := by
  refine ⟨(by show 1 ≤ 1000; decide), fun a na => ⟨a, v, rfl, upd_same, fun d H2 b nd ea ed => ?_⟩⟩
  have nd0 : H d = none := by
    cases z : H d with
    | none => rfl
    | some o =>
      rw [same_new na _ _ z] at nd
      cases nd
  refine ⟨rfl, d, _, ea, ed, nd0, q d _ (fun c o e => ?_) upd_same⟩
  rw [upd_ne (ne_of_none e nd0), del_ne (ne_of_none e na)]
  exact b c o (ne_of_none e na) (same_new na _ _ e)
/-- Net(routers, links): made, or refused by the pair of both -/
def spInit (C B : Addr) : Sp := fun vs H Q E => ∃ (x r l : Addr) (zs : List Str) (ls : List (Addr × List Key)), vs = [.ref x, .ref r, .ref l] ∧ (∃ dx, H x = some (.ins C dx [])) ∧
  H r = some (.tup (zs.map V.str)) ∧ (∀ z ∈ zs, z.length ≤ 1000000) ∧ zs.length ≤ 1000 ∧ zs.Pairwise tLt ∧ Lks H zs l ls ∧
  (RtOk zs ∧ ls.length ≤ 16 → ∀ H', But x H H' → NetO C H' x r l → Q .non H') ∧
  (¬ (RtOk zs ∧ ls.length ≤ 16) → ∀ d t H', Same H H' → H' d = some (.xd [("value", .ref t)]) → H' t = some (.tup [.ref r, .ref l]) → E (.ref B) (some d) H')
theorem mk_net {C B : Addr} {H : Hp} {r l : Addr} {zs : List Str} {ls : List (Addr × List Key)} {Q : VK} {E : XK} (hr : H r = some (.tup (zs.map V.str))) (big : ∀ z ∈ zs, z.length ≤ 1000000) (few : zs.length ≤ 1000) (pw : zs.Pairwise tLt) (hl : Lks H zs l ls)
    (ok : RtOk zs ∧ ls.length ≤ 16 → ∀ n H', H n = none → Same H H' → NetO C H' n r l → Q (.ref n) H')
    (no : ¬ (RtOk zs ∧ ls.length ≤ 16) → ∀ d t H', Same H H' → H' d = some (.xd [("value", .ref t)]) → H' t = some (.tup [.ref r, .ref l]) → E (.ref B) (some d) H') :
    ∀ x dx, H x = none → H dx = none → dx ≠ x → spInit C B (.ref x :: ([.ref r, .ref l] ++ [])) (upd (upd H dx (.own x)) x (.ins C dx [])) (fun v H2 => v = .non ∧ Q (.ref x) H2) E := by
  intro x dx nx nd ne
  have s1 : Same H (upd (upd H dx (.own x)) x (.ins C dx [])) := fun b o e => by
    rw [upd_ne (ne_of_none e nx), upd_ne (ne_of_none e nd)]
    exact e
  refine ⟨x, r, l, zs, ls, rfl, ⟨dx, upd_same⟩, s1 _ _ hr, big, few, pw, hl.same s1, fun h H' b n => ⟨rfl, ok h x H' nx (fun c o e => b c o (ne_of_none e nx) (s1 _ _ e)) n⟩, fun h d t H' s e1 e2 => no h d t H' (s1.trans s) e1 e2⟩
section
variable {P : Program} {w : World} {K : PySem.W.Frag} {mg : Str → Option Value} {base : Heap} {ca ia fa : Nat → Addr} {fd fi : Nat → FuncData}
theorem ok_init (T : Txt K mg ca ia fa fd fi) : FnOk P w K mg base (L2.CX P w) 6 (ia 100) (fi 100) ["self", "routers", "links"] (spInit (ca 20) (ca 3)) := by
  have G_are_routers := ok_routers (P := P) (w := w) (base := base) T
  have G_are_links := ok_are_links (P := P) (w := w) (base := base) T
  refine T.F_m_init.okX sc_m_init (fun vs H Q E h => ?_) (fun cdv A outer s H vs Q E hr h => ?_)
  · obtain ⟨x, r, l, zs, ls, rfl, _⟩ := h
    rfl
  · obtain ⟨x, r, l, zs, ls, rfl, ⟨dx, hx⟩, hz, big, few, pw, hl, ok, no⟩ := h
    refine ⟨_, (pss_cons (ps_if (PW.pt (pw_or (pt_not (pt_val (pe_call G_are_routers (hr.mono (by decide)) rfl T.g_are_routers T.k_are_routers T.b_are_routers .nil pass0 (pa_cons (pv 1) pa_nil)))) (pw_or1 (pt_not (pt_val (pe_call G_are_links (hr.mono (by decide)) rfl T.g_are_links T.k_are_links T.b_are_links .nil pass0 (pa_cons (pv 2) (pa_cons (pv 1) pa_nil)))))))) (pss_one (ps_raise rfl (takes_of rfl rfl rfl rfl) (pmk_oex T.c_BadNet.oex T.iC_BadNet T.tI_BadNet (in_BadNet T) (hr.mono (by decide)) T.bi_BadNet .nil pass0 rfl T.c_BadNet.g (pa_cons (pe_tup (pa_cons (pv 1) (pa_cons (pv 2) pa_nil))) pa_nil)))) pss_nil)
      (pss_cons (ps_fld (pv 0) (pv 1) rfl)
      (pss_one (ps_fld (pv 0) (pv 2) rfl)))), ?_⟩
    have bad : ∀ H', Same H H' → ¬ (RtOk zs ∧ ls.length ≤ 16) → ∀ t, H' t = none → ∀ d H2, Same (upd H' t (.tup [.ref r, .ref l])) H2 → H2 d = some (.xd [("value", .ref t)]) → E (.ref (ca 3)) (some d) H2 := fun H' s n t nt d H2 s2 e => no n d t H2 ((s.trans (same_new nt)).trans s2) e (s2 _ _ upd_same)
    refine ⟨_, rfl, r, zs, rfl, hz, big, few, pw, fun b hb H1 s1 => ?_⟩
    have raise : ∀ H', Same H H' → ¬ (RtOk zs ∧ ls.length ≤ 16) → tMkO (ca 3) (spI1 (ca 3) "value") [] (tCons (tTup (tCons (tVar 1) (tCons (tVar 2) tNil))) tNil) (L2.start N_m_init [V.ref x, V.ref r, V.ref l]) H' E := fun H' s n =>
      ⟨_, rfl, _, rfl, (by show 2 ≤ sizeLine; decide), fun t nt => oexc fun d H2 s2 e => bad H' s n t nt d H2 s2 e⟩
    cases b with
    | false => exact ⟨_, rfl, raise H1 s1 fun q => by cases hb.2 q.1⟩
    | true =>
      have hz1 := hb.1 rfl
      refine ⟨_, rfl, ?_⟩
      refine ⟨_, rfl, _, rfl, l, r, zs, ls, rfl, s1 _ _ hz, hl.same s1, fun b2 hb2 H2 s2 => ?_⟩
      cases b2 with
      | false => exact ⟨_, rfl, raise H2 (s1.trans s2) fun q => by cases hb2.2 q.2⟩
      | true =>
        refine ⟨_, rfl, ?_⟩
        show Ends.nx _ _ _
        refine nxt ?_
        have hx2 := s2 _ _ (s1 _ _ hx)
        refine ⟨_, rfl, _, rfl, x, _, dx, _, rfl, hx2, T.cl_Net, T.no_Net_routers, (by show 0 < 1000; decide), ?_⟩
        refine nxt ?_
        refine ⟨_, rfl, _, rfl, x, _, dx, _, rfl, upd_same, T.cl_Net, T.no_Net_links, (by show 1 < 1000; decide), ?_⟩
        refine ok ⟨hz1, hb2.1 rfl⟩ _ (fun c o nc e => ?_) ⟨dx, ?_⟩
        · rw [upd_ne nc, upd_ne nc]
          exact s2 _ _ (s1 _ _ e)
        · rw [upd_same]
          exact congrArg (fun z => some (HO.ins _ dx z)) (put_links _ _)
theorem ok_m_routers (T : Txt K mg ca ia fa fd fi) : FnOk P w K mg base CX0 1 (ia 101) (fi 101) ["self"] (getSp (ca 20) "_routers") := by
  refine T.F_m_routers.ok sc_m_routers (fun vs H Q E h => ?_) (fun cdv A outer s H vs Q E hr h => ?_)
  · obtain ⟨a, dx, fs, v, rfl, _⟩ := h
    rfl
  · obtain ⟨a, dx, fs, v, rfl, ha, hl, q⟩ := h
    exact ⟨_, (pss_one (ps_ret (pe_fld (pv 0) rfl))), _, rfl, a, _, dx, fs, v, rfl, ha, T.cl_Net, T.no_Net_routers, hl, q⟩
theorem ok_m_links (T : Txt K mg ca ia fa fd fi) : FnOk P w K mg base CX0 1 (ia 102) (fi 102) ["self"] (getSp (ca 20) "_links") := by
  refine T.F_m_links.ok sc_m_links (fun vs H Q E h => ?_) (fun cdv A outer s H vs Q E hr h => ?_)
  · obtain ⟨a, dx, fs, v, rfl, _⟩ := h
    rfl
  · obtain ⟨a, dx, fs, v, rfl, ha, hl, q⟩ := h
    exact ⟨_, (pss_one (ps_ret (pe_fld (pv 0) rfl))), _, rfl, a, _, dx, fs, v, rfl, ha, T.cl_Net, T.no_Net_links, hl, q⟩
/-- one of the routers -/
def inR (x : V) (zs : List Str) : Prop := ∃ z ∈ zs, x = .str z
theorem any_isStr {x : V} {zs : List Str} : zs.any (isStr x) = true ↔ inR x zs := by
  rw [List.any_eq_true]
  constructor
  · rintro ⟨z, hz, e⟩
    unfold isStr at e
    split at e
    · rename_i y
      exact ⟨z, hz, by rw [of_decide_eq_true e]⟩
    · cases e
  · rintro ⟨z, hz, rfl⟩
    exact ⟨z, hz, decide_eq_true rfl⟩
/-- need_router(net, x): x any told value; N: the class NoRouter -/
def spNeed1 {K : PySem.W.Frag} (C N : Addr) : Sp := fun vs H Q E => ∃ (n r l : Addr) (zs : List Str) (x : V), vs = [.ref n, x] ∧ NetO C H n r l ∧ H r = some (.tup (zs.map V.str)) ∧ Odd K H x ∧
  (inR x zs → Q .non H) ∧ (¬ inR x zs → ∀ d H', Same H H' → H' d = some (.xd [("value", x)]) → E (.ref N) (some d) H')
def spNeed2 {K : PySem.W.Frag} (C N : Addr) : Sp := fun vs H Q E => ∃ (n r l : Addr) (zs : List Str) (x y : V), vs = [.ref n, x, y] ∧ NetO C H n r l ∧ H r = some (.tup (zs.map V.str)) ∧ Odd K H x ∧ Odd K H y ∧
  (inR x zs → inR y zs → Q .non H) ∧ (¬ inR x zs → ∀ d H', Same H H' → H' d = some (.xd [("value", x)]) → E (.ref N) (some d) H') ∧
  (inR x zs → ¬ inR y zs → ∀ d H', Same H H' → H' d = some (.xd [("value", y)]) → E (.ref N) (some d) H')
theorem ok_need_router (T : Txt K mg ca ia fa fd fi) : FnOk P w K mg base (L2.CX P w) 3 (fa 22) (fd 22) ["net", "value"] (spNeed1 (K := K) (ca 20) (ca 4)) := by
  have G_m_routers := ok_m_routers (P := P) (w := w) (base := base) T
  obtain ⟨pr, hp_routers⟩ := T.P_routers
  refine T.F_need_router.okX sc_need_router (fun vs H Q E h => ?_) (fun cdv A outer s H vs Q E hr h => ?_)
  · obtain ⟨n, r, l, zs, a, rfl, _⟩ := h
    rfl
  · obtain ⟨n, r, l, zs, x, rfl, ⟨dx, hn⟩, hz, hx, q, q2⟩ := h
    refine ⟨_, (pss_one (ps_if (pt_cmpR (op_notInO (roomU1 hr)) (pv 1) (pe_prop (pv 0) T.cl_Net hp_routers G_m_routers (hr.mono (by decide)) T.b_m_routers .nil pass0 rfl) rfl) (pss_one (ps_raise rfl (takes_of rfl rfl rfl rfl) (pmk_oex T.c_NoRouter.oex T.iC_NoRouter T.tI_NoRouter (in_NoRouter T) (hr.mono (by decide)) T.bi_NoRouter .nil pass0 rfl T.c_NoRouter.g (pa_cons (pv 1) pa_nil)))) pss_nil)), ?_⟩
    refine ⟨_, rfl, _, rfl, n, dx, _, rfl, hn, n, dx, _, _, rfl, hn, rfl, r, zs, rfl, SqT.of hz, hx, _, rfl, ?_⟩
    refine ite2 (fun e => ?_) fun e => ?_
    · have no : ¬ inR x zs := fun z => by
        have e2 : (!(zs.any (isStr x))) = true := e
        rw [any_isStr.mpr z] at e2
        cases e2
      exact ⟨_, rfl, oexc fun d H' s e => q2 no d H' s e⟩
    · have yes : inR x zs := by
        refine any_isStr.mp ?_
        have e2 : ¬ (!(zs.any (isStr x))) = true := e
        cases z : zs.any (isStr x)
        · rw [z] at e2
          exact absurd rfl e2
        · rfl
      exact q yes
theorem ok_need_routers (T : Txt K mg ca ia fa fd fi) : FnOk P w K mg base (L2.CX P w) 4 (fa 21) (fd 21) ["net", "a", "b"] (spNeed2 (K := K) (ca 20) (ca 4)) := by
  have G_need_router := ok_need_router (P := P) (w := w) (base := base) T
  refine T.F_need_routers.okX sc_need_routers (fun vs H Q E h => ?_) (fun cdv A outer s H vs Q E hr h => ?_)
  · obtain ⟨n, r, l, zs, a, b, rfl, _⟩ := h
    rfl
  · obtain ⟨n, r, l, zs, x, y, rfl, hn, hz, hx, hy, q, q1, q2⟩ := h
    refine ⟨_, (pss_cons (ps_expr (pe_call G_need_router (hr.mono (by decide)) rfl T.g_need_router T.k_need_router T.b_need_router .nil (passes_call (takes_of rfl rfl rfl rfl) fun _ _ _ _ h => h) (pa_cons (pv 0) (pa_cons (pv 1) pa_nil))))
      (pss_one (ps_expr (pe_call G_need_router (hr.mono (by decide)) rfl T.g_need_router T.k_need_router T.b_need_router .nil (passes_call (takes_of rfl rfl rfl rfl) fun _ _ _ _ h => h) (pa_cons (pv 0) (pa_cons (pv 2) pa_nil)))))), ?_⟩
    exact ⟨_, rfl, _, rfl, n, r, l, zs, x, rfl, hn, hz, hx, fun ix => nxt ⟨_, rfl, _, rfl, n, r, l, zs, y, rfl, hn, hz, hy, fun iy => q ix iy, fun ny => q2 ix ny⟩, q1⟩
end
end Toy
set_option Elab.async false
set_option linter.all false
set_option maxRecDepth 100000
set_option maxHeartbeats 4000000
namespace Toy
open PySem L2 Q RZ D7
abbrev linkI (a b : Str) (x y : Int) : List Key := [.inr a, .inr b, .inl x, .inl y]
theorem lks_irr : ∀ k : List Key, ksLt k k = false
  | [] => rfl
  | a :: as => by
    unfold ksLt
    rw [if_pos rfl]
    exact lks_irr as
/-- a net with its routers and links -/
structure NetW (C : Addr) (H : Hp) (n r l : Addr) (zs : List Str) (ls : List (Addr × List Key)) : Prop where
  net : NetO C H n r l
  rt : H r = some (.tup (zs.map V.str))
  ok : RtOk zs
  pw : zs.Pairwise tLt
  lk : Lks H zs l ls
  m : ls.length ≤ 16
section
variable {C : Addr} {H H' : Hp} {n r l : Addr} {zs : List Str} {ls : List (Addr × List Key)}
theorem NetW.same (h : NetW C H n r l zs ls) (s : Same H H') : NetW C H' n r l zs ls := ⟨h.net.same s, s _ _ h.rt, h.ok, h.pw, h.lk.same s, h.m⟩
theorem NetW.low (h : NetW C H n r l zs ls) {a : Str} (ha : a ∈ zs) : Low a := (h.ok.2.2 a ha).2.2
theorem Lks.nd (h : Lks H zs l ls) : (ls.map fun q => q.2.take 2).Nodup := by
  refine List.pairwise_map.mpr (h.up.imp fun {x y} e z => ?_)
  have e2 : ksLt (x.2.take 2) (y.2.take 2) = true := e
  rw [z, lks_irr] at e2
  cases e2
theorem nd_same {α β : Type} {f : α → β} {l : List α} (nd : (l.map f).Nodup) {i j : Nat} {x y : α} (hx : l[i]? = some x) (hy : l[j]? = some y) (e : f x = f y) : i = j := by
  obtain ⟨h1, rfl⟩ := List.getElem?_eq_some_iff.mp hx
  obtain ⟨h2, rfl⟩ := List.getElem?_eq_some_iff.mp hy
  have l1 : i < (l.map f).length := by rw [List.length_map]; exact h1
  have l2 : j < (l.map f).length := by rw [List.length_map]; exact h2
  exact (List.getElem_inj (h₀ := l1) (h₁ := l2) nd).mp (by rw [List.getElem_map, List.getElem_map]; exact e)
end
/-- how one link leads -/
def LkOf (k : List Key) (a m : Str) (x : Int) : Prop := ∃ u v x' y', k = linkI u v x' y' ∧ ((a = u ∧ m = v ∧ x = x') ∨ (a = v ∧ m = u ∧ x = y'))
def LkR (ls : List (Addr × List Key)) : LK := fun a m x => ∃ q ∈ ls, LkOf q.2 a m x
theorem lk_bound {zs : List Str} : ∀ {ls : List (Addr × List Key)}, (∀ q ∈ ls, LkOk zs q.2) → ∃ L : Int, 0 ≤ L ∧ ∀ a m x, LkR ls a m x → a ∈ zs ∧ m ∈ zs ∧ 1 ≤ x ∧ x ≤ L
  | [], _ => ⟨0, Int.le_refl _, fun _ _ _ ⟨q, hq, _⟩ => nomatch hq⟩
  | p :: ls, h => by
    obtain ⟨L, l0, hL⟩ := lk_bound (ls := ls) fun q hq => h q (List.mem_cons_of_mem _ hq)
    obtain ⟨u, v, x, y, e, hu, hv, _, x1, y1⟩ := h p List.mem_cons_self
    refine ⟨L + x + y, by omega, fun a m z hz => ?_⟩
    obtain ⟨q, hq, lk⟩ := hz
    rcases List.mem_cons.mp hq with rfl | hq
    · obtain ⟨u', v', x', y', e2, c⟩ := lk
      rw [e] at e2
      cases e2
      rcases c with ⟨rfl, rfl, rfl⟩ | ⟨rfl, rfl, rfl⟩
      · exact ⟨hu, hv, by omega, by omega⟩
      · exact ⟨hv, hu, by omega, by omega⟩
    · obtain ⟨q1, q2, q3, q4⟩ := hL a m z ⟨q, hq, lk⟩
      exact ⟨q1, q2, q3, by omega⟩
theorem NetW.rel {C : Addr} {H : Hp} {n r l : Addr} {zs : List Str} {ls : List (Addr × List Key)} (h : NetW C H n r l zs ls) : ∃ L, RelOk (LkR ls) zs L := by
  obtain ⟨L, l0, hL⟩ := lk_bound fun q hq => (h.lk.el q hq).2
  exact ⟨L, h.ok.2.1, l0, hL⟩
/-- net.length(x, y) of any told values -/
def spLen {K : PySem.W.Frag} (C N : Addr) : Sp := fun vs H Q E => ∃ (n r l : Addr) (zs : List Str) (ls : List (Addr × List Key)) (x y : V), vs = [.ref n, x, y] ∧ NetW C H n r l zs ls ∧ Odd K H x ∧ Odd K H y ∧
  (∀ a b, x = .str a → y = .str b → a ∈ zs → b ∈ zs → ∀ v H', Same H H' → ((∃ t : Int, v = .int t ∧ LkR ls a b t) ∨ (v = .non ∧ ∀ t : Int, ¬ LkR ls a b t)) → Q v H') ∧
  (¬ inR x zs → ∀ d H', Same H H' → H' d = some (.xd [("value", x)]) → E (.ref N) (some d) H') ∧
  (inR x zs → ¬ inR y zs → ∀ d H', Same H H' → H' d = some (.xd [("value", y)]) → E (.ref N) (some d) H')
section
variable {P : Program} {w : World} {K : PySem.W.Frag} {mg : Str → Option Value} {base : Heap} {ca ia fa : Nat → Addr} {fd fi : Nat → FuncData}
theorem dp_pair {H : Hp} {t : Addr} {a b : Str} (h : H t = some (.tup [.str a, .str b])) : Dp K H (.ref t) (.tuple [.str a, .str b]) := .tup (SqT.of h) (.cons (.str a) (.cons (.str b) .nil))
theorem ok_m_length (T : Txt K mg ca ia fa fd fi) : FnOk P w K mg base (L2.CX P w) 5 (ia 104) (fi 104) ["self", "a", "b"] (spLen (K := K) (ca 20) (ca 4)) := by
  have G_need_routers := ok_need_routers (P := P) (w := w) (base := base) T
  have G_m_links := ok_m_links (P := P) (w := w) (base := base) T
  obtain ⟨pl, hp_links⟩ := T.P_links
  refine T.F_m_length.okX sc_m_length (fun vs H Q E h => ?_) (fun cdv A outer s H vs Q E hr h => ?_)
  · obtain ⟨n, r, l, zs, ls, x, y, rfl, _⟩ := h
    rfl
  · obtain ⟨n, r, l, zs, ls, x, y, rfl, hw, ox, oy, k, k1, k2⟩ := h
    refine ⟨_, (pss_cons (ps_expr (pe_call G_need_routers (hr.mono (by decide)) rfl T.g_need_routers T.k_need_routers T.b_need_routers .nil (passes_call (takes_of rfl rfl rfl rfl) fun _ _ _ _ h => h) (pa_cons (pv 0) (pa_cons (pv 1) (pa_cons (pv 2) pa_nil)))))
      (pss_cons (ps_for (passes_of rfl) rfl (pi_tup (pe_prop (pv 0) T.cl_Net hp_links G_m_links (hr.mono (by decide)) T.b_m_links .nil pass0 rfl)) (pg_tup rfl (pgs_cons (pg_name (i := 3) sc_m_length.nd rfl (Or.inl rfl)) (pgs_cons (pg_name (i := 4) sc_m_length.nd rfl (Or.inl rfl)) (pgs_cons (pg_name (i := 5) sc_m_length.nd rfl (Or.inl rfl)) (pgs_cons (pg_name (i := 6) sc_m_length.nd rfl (Or.inl rfl)) pgs_nil))))) (pss_cons (ps_if (pt_cmpR (op_eqD hr.units) (pe_tup (pa_cons (pv 1) (pa_cons (pv 2) pa_nil))) (pe_tup (pa_cons (pv 3) (pa_cons (pv 4) pa_nil))) (nomark _)) (pss_one (ps_ret (pv 5))) pss_nil)
      (pss_one (ps_if (pt_cmpR (op_eqD hr.units) (pe_tup (pa_cons (pv 2) (pa_cons (pv 1) pa_nil))) (pe_tup (pa_cons (pv 3) (pa_cons (pv 4) pa_nil))) (nomark _)) (pss_one (ps_ret (pv 6))) pss_nil))))
      (pss_one (ps_ret pe_non)))), ?_⟩
    obtain ⟨dx, hn⟩ := hw.net
    refine ⟨_, rfl, _, rfl, _, rfl, n, r, l, zs, x, y, rfl, hw.net, hw.rt, ox, oy, fun ix iy => ?_, k1, k2⟩
    obtain ⟨a, ha, rfl⟩ := ix
    obtain ⟨b, hb, rfl⟩ := iy
    have k := k a b rfl rfl ha hb
    refine nxt ?_
    refine ⟨_, rfl, n, dx, _, rfl, hn, n, dx, _, _, rfl, hn, rfl, l, rfl, ⟨_, SqT.of hw.lk.at_⟩, ?_⟩
    refine for_it (walk_tup (xs := ls.map fun q => V.ref q.1)) (fun i σ H' => (∀ q ∈ ls.take i, ∀ t : Int, ¬ LkOf q.2 a b t) ∧ Same H H' ∧ ∃ x3 x4 x5 x6 : Option V, σ = [some (.ref n), some (.str a), some (.str b), x3, x4, x5, x6]) ⟨fun q hq => (nomatch hq), Same.refl H, none, none, none, none, rfl⟩ (fun i σ H' _ z => SqT.of (z.2.1 _ _ hw.lk.at_)) ?_ ?_
    · rintro i x σ H1 H2 hi ⟨ij, s1, x3, x4, x5, x6, rfl⟩ ⟨rfl, hx⟩
      obtain ⟨p, hp, rfl⟩ := at_map hx
      have mp := List.mem_of_getElem? hp
      obtain ⟨ep, c, d, cx, cy, e3, hc, hd, cd, _⟩ := hw.lk.el p mp
      rw [e3] at ep
      refine ⟨p.1, _, rfl, SqT.of (s1 _ _ ep), rfl, _, _, rfl, _, _, rfl, _, _, rfl, _, _, rfl, rfl, ?_⟩
      refine ⟨_, rfl, _, rfl, (by show 2 ≤ sizeLine; decide), fun t1 n1 => ⟨_, rfl, _, rfl, (by show 2 ≤ sizeLine; decide), fun t2 n2 => ?_⟩⟩
      have la := hw.low ha
      have lb := hw.low hb
      have lc := hw.low hc
      have ld := hw.low hd
      have s3 : Same H (upd (upd H2 t1 (.tup [.str a, .str b])) t2 (.tup [.str c, .str d])) := (s1.trans (same_new n1)).trans (same_new n2)
      refine ⟨_, _, dp_pair (same_new n2 _ _ upd_same), dp_pair upd_same, pair_shaped la lb, pair_shaped lc ld, _, rfl, ite2 (fun e1 => ?_) fun e1 => ?_⟩
      · have e2 := of_decide_eq_true ((pair_eqv a b c d).symm.trans e1)
        cases e2
        exact ⟨_, rfl, k _ _ s3 (.inl ⟨cx, rfl, p, mp, a, b, cx, cy, e3, .inl ⟨rfl, rfl, rfl⟩⟩)⟩
      · refine nxt ?_
        refine stepH (fun H3 => Same H H3) s3 fun H3 s3 => ?_
        refine ⟨_, rfl, _, rfl, (by show 2 ≤ sizeLine; decide), fun t3 n3 => ⟨_, rfl, _, rfl, (by show 2 ≤ sizeLine; decide), fun t4 n4 => ?_⟩⟩
        have s4 : Same H (upd (upd H3 t3 (.tup [.str b, .str a])) t4 (.tup [.str c, .str d])) := (s3.trans (same_new n3)).trans (same_new n4)
        refine ⟨_, _, dp_pair (same_new n4 _ _ upd_same), dp_pair upd_same, pair_shaped lb la, pair_shaped lc ld, _, rfl, ite2 (fun e2 => ?_) fun e2 => ?_⟩
        · have e2 := of_decide_eq_true ((pair_eqv b a c d).symm.trans e2)
          cases e2
          exact ⟨_, rfl, k _ _ s4 (.inl ⟨cy, rfl, p, mp, b, a, cx, cy, e3, .inr ⟨rfl, rfl, rfl⟩⟩)⟩
        · refine nxt ⟨fun q hq t lk => ?_, s4, _, _, _, _, rfl⟩
          rw [List.take_add_one (l := ls), show ls[i]? = some p from hp] at hq
          rcases List.mem_append.mp hq with hq | hq
          · exact ij q hq t lk
          · obtain rfl : q = p := by simpa using hq
            obtain ⟨u, v, x', y', e5, z⟩ := lk
            rw [e3] at e5
            cases e5
            rcases z with ⟨rfl, rfl, _⟩ | ⟨rfl, rfl, _⟩
            · exact e1 ((pair_eqv a b a b).trans (decide_eq_true rfl))
            · exact e2 ((pair_eqv b a b a).trans (decide_eq_true rfl))
    · rintro σ H1 ⟨ij, s1, x3, x4, x5, x6, rfl⟩
      rw [List.length_map, List.take_length] at ij
      exact nxt (k _ _ s1 (.inr ⟨rfl, fun t ⟨q, hq, lk⟩ => ij q hq t lk⟩))
end
end Toy
set_option Elab.async false
set_option linter.all false
set_option maxRecDepth 100000
set_option maxHeartbeats 8000000
namespace Toy
open PySem L2 Q RZ D7 TL
/-! ### the text of a net -/
def tRowS : TE := fun σ H Q => tJs [tC (V.str (Str.ofString "link ")), tFmt (tVar 2), tC (V.str (Str.ofString " ")), tFmt (tVar 3), tC (V.str (Str.ofString " ")), tFmt (tVar 4), tC (V.str (Str.ofString " ")), tFmt (tVar 5)] Str.empty σ H fun out H1 => Q (V.str out) H1
abbrev tx (s : String) : Str := Str.ofString s
def num (n : Nat) : Str := Str.ofString (toString (n : Int))
/-- a row, its words separated by a space -/
def wrd (ws : List Str) : Str := Txt.join (tx " ") ws
def linkW (a b : Str) (x y : Nat) : List Str := [tx "link", a, b, num x, num y]
def netW (zs : List Str) : List Str := tx "routers" :: zs
/-- without this sign -/
def Free (s : Nat) (z : Str) : Prop := s ∉ tl z
theorem free_name {s : Nat} (h : s < 97) {z : Str} (n : Low z) : Free s z := fun m => by
  have := (n s m).1
  omega
theorem free_num {s : Nat} (h : s < 48) (n : Nat) : Free s (num n) := by
  unfold Free num
  rw [tl_num]
  exact numL_free (.inl h)
theorem free_link {s : Nat} (h : s < 97) : Free s (tx "link") := by
  have e : tl (tx "link") = [108, 105, 110, 107] := by decide +kernel
  unfold Free
  rw [e]
  simp
  omega
theorem free_routers {s : Nat} (h : s < 97) : Free s (tx "routers") := by
  have e : tl (tx "routers") = [114, 111, 117, 116, 101, 114, 115] := by decide +kernel
  unfold Free
  rw [e]
  simp
  omega
theorem sp_tl : tl (tx " ") = [32] := by decide +kernel
theorem lf_tl : tl (tx "\n") = [10] := by decide +kernel
theorem split_wrd {ws : List Str} (ne : ws ≠ []) (h : ∀ z ∈ ws, Free 32 z) : Txt.split (wrd ws) (tx " ") = ws := split_join sp_tl (by decide +kernel) ne h
theorem split_rows {rs : List Str} (ne : rs ≠ []) (h : ∀ z ∈ rs, Free 10 z) : Txt.split (Txt.join (tx "\n") rs) (tx "\n") = rs := split_join lf_tl (by decide +kernel) ne h
theorem joinL_mem {S : List Nat} {c : Nat} : ∀ {ps : List (List Nat)}, c ∈ joinL S ps → c ∈ S ∨ ∃ p ∈ ps, c ∈ p
  | [], h => (nomatch h)
  | [p], h => .inr ⟨p, List.mem_cons_self, h⟩
  | p :: q :: r, h => by
    have h : c ∈ p ++ (S ++ joinL S (q :: r)) := h
    rcases List.mem_append.mp h with h | h
    · exact .inr ⟨p, List.mem_cons_self, h⟩
    · rcases List.mem_append.mp h with h | h
      · exact .inl h
      · exact (joinL_mem h).imp id fun ⟨p', m, h⟩ => ⟨p', List.mem_cons_of_mem _ m, h⟩
theorem free_wrd {ws : List Str} (h : ∀ z ∈ ws, Free 10 z) : Free 10 (wrd ws) := fun m => by
  unfold wrd at m
  rw [join_eq, tl_join, sp_tl] at m
  rcases joinL_mem m with m | ⟨p, hp, m⟩
  · simp at m
  · obtain ⟨z, hz, rfl⟩ := List.mem_map.mp hp
    exact h z hz m
/-- the words of a link are told apart -/
theorem link_parts {a b : Str} (ha : NameOk a) (hb : NameOk b) (x y : Nat) {s : Nat} (h : s < 48) : ∀ z ∈ linkW a b x y, Free s z := fun z hz => by
  unfold linkW at hz
  simp only [List.mem_cons, List.not_mem_nil, or_false] at hz
  rcases hz with rfl | rfl | rfl | rfl | rfl
  · exact free_link (by omega)
  · exact free_name (by omega) ha.2.2
  · exact free_name (by omega) hb.2.2
  · exact free_num h _
  · exact free_num h _
theorem net_parts {zs : List Str} (nok : ∀ z ∈ zs, NameOk z) {s : Nat} (h : s < 48) : ∀ z ∈ netW zs, Free s z := fun z hz => by
  rcases List.mem_cons.mp hz with rfl | hz
  · exact free_routers (by omega)
  · exact free_name (by omega) (nok z hz).2.2
/-- the first sign of a number from 1 on is no nought -/
theorem numL_head {n : Nat} : 1 ≤ n → ∃ c l, numL n = c :: l ∧ c ≠ 48 := by
  induction n using Nat.strongRecOn with
  | _ n ih =>
    intro h
    by_cases l : n < 10
    · exact ⟨48 + n, [], numL_lt l, by omega⟩
    · obtain ⟨c, r, e, ne⟩ := ih (n / 10) (by omega) (by omega)
      exact ⟨c, r ++ [48 + n % 10], by rw [numL_step (by omega), e]; rfl, ne⟩
theorem num_tl (n : Nat) : tl (num n) = numL n := tl_num n
theorem num_len {n : Nat} (h : n < 1000000000) : 1 ≤ (num n).length ∧ (num n).length ≤ 9 := by
  rw [len_tl, num_tl]
  exact ⟨List.length_pos_iff.mpr (numL_ne n), numL_len (k := 9) (by decide) h⟩
theorem num_int {n : Nat} (h : n < 1000000000) : intText? (num n) = some (n : Int) := int_num (by have := numL_len (k := 9) (by decide) h; omega)
theorem num_log {n : Nat} (h : n < 1000000000) : (n : Int).natAbs.log2 < 1920 := by
  rw [Int.natAbs_natCast]
  by_cases z : n = 0
  · subst z
    decide
  · exact (Nat.log2_lt z).mpr (Nat.lt_trans h (by decide +kernel))
/-! the two ways to write a link -/
theorem wrd_link (a b : Str) (x y : Nat) : wrd (linkW a b x y) = tx "link " ++ a ++ tx " " ++ b ++ tx " " ++ num x ++ tx " " ++ num y := by
  refine ext_tl ?_
  unfold wrd linkW
  rw [join_eq, tl_join, sp_tl]
  simp only [tl_append, List.map_cons, List.map_nil, joinL, sp_tl]
  have e1 : tl (tx "link ") = tl (tx "link") ++ [32] := by decide +kernel
  rw [e1]
  simp only [List.append_assoc, List.cons_append, List.nil_append]
theorem wrd_net {zs : List Str} (ne : zs ≠ []) : wrd (netW zs) = tx "routers " ++ wrd zs := by
  match zs, ne with
  | z :: zs, _ =>
    refine ext_tl ?_
    unfold wrd netW
    rw [join_eq, join_eq, tl_append, tl_join, tl_join, sp_tl]
    have e1 : tl (tx "routers ") = tl (tx "routers") ++ [32] := by decide +kernel
    rw [e1]
    simp only [List.map_cons, joinL, List.append_assoc, List.cons_append, List.nil_append]
/-! lengths -/
theorem joinL_len (S : List Nat) : ∀ ps : List (List Nat), (joinL S ps).length ≤ (ps.map List.length).sum + ps.length * S.length
  | [] => Nat.zero_le _
  | [p] => by
    show p.length ≤ _
    simp
  | p :: q :: r => by
    have ih := joinL_len S (q :: r)
    show (p ++ (S ++ joinL S (q :: r))).length ≤ _
    rw [List.length_append, List.length_append, List.map_cons, List.sum_cons, List.length_cons, Nat.succ_mul]
    omega
theorem wrd_len {ws : List Str} {m : Nat} (h : ∀ z ∈ ws, z.length ≤ m) : (wrd ws).length ≤ ws.length * (m + 1) := by
  unfold wrd
  rw [len_tl, join_eq, tl_join, sp_tl]
  refine Nat.le_trans (joinL_len _ _) ?_
  have : ∀ l : List Str, (∀ z ∈ l, z.length ≤ m) → ((l.map tl).map List.length).sum ≤ l.length * m := fun l => by
    induction l with
    | nil => intro _; exact Nat.zero_le _
    | cons z l ih =>
      intro h
      have := ih fun y hy => h y (List.mem_cons_of_mem _ hy)
      have hz := h z List.mem_cons_self
      rw [len_tl] at hz
      rw [List.map_cons, List.map_cons, List.sum_cons, List.length_cons, Nat.succ_mul]
      omega
  have := this ws h
  rw [List.length_map, List.length_singleton, Nat.mul_add]
  omega
theorem sum_le {ws : List Str} {m : Nat} : (∀ z ∈ ws, z.length ≤ m) → (ws.map (·.length)).sum ≤ ws.length * m := by
  induction ws with
  | nil => intro _; exact Nat.zero_le _
  | cons z l ih =>
    intro h
    have := ih fun y hy => h y (List.mem_cons_of_mem _ hy)
    have hz := h z List.mem_cons_self
    rw [List.map_cons, List.sum_cons, List.length_cons, Nat.succ_mul]
    omega
theorem link_len {a b : Str} (ha : NameOk a) (hb : NameOk b) {x y : Nat} (hx : x < 1000000000) (hy : y < 1000000000) : ∀ z ∈ linkW a b x y, z.length ≤ 9 := fun z hz => by
  unfold linkW at hz
  simp only [List.mem_cons, List.not_mem_nil, or_false] at hz
  rcases hz with rfl | rfl | rfl | rfl | rfl
  · decide +kernel
  · have := ha.2.1; omega
  · have := hb.2.1; omega
  · exact (num_len hx).2
  · exact (num_len hy).2
theorem net_len {zs : List Str} (nok : ∀ z ∈ zs, NameOk z) : ∀ z ∈ netW zs, z.length ≤ 9 := fun z hz => by
  rcases List.mem_cons.mp hz with rfl | hz
  · decide +kernel
  · have := (nok z hz).2.1; omega
/-- the row of a link by its parts -/
def rowW (k : List Key) : Str := match k with
  | [.inr a, .inr b, .inl x, .inl y] => wrd (linkW a b x.toNat y.toNat)
  | _ => Str.empty
def rowsW (zs : List Str) (ls : List (Addr × List Key)) : List Str := wrd (netW zs) :: ls.map fun q => rowW q.2
def pageW (zs : List Str) (ls : List (Addr × List Key)) : Str := Txt.join (tx "\n") (rowsW zs ls)
/-- a link with lengths of nine figures at the most -/
def Lk9 (zs : List Str) (k : List Key) : Prop := ∃ (a b : Str) (x y : Nat), k = [.inr a, .inr b, .inl (x : Int), .inl (y : Int)] ∧ NameOk a ∧ NameOk b ∧ 1 ≤ x ∧ 1 ≤ y ∧ x < 1000000000 ∧ y < 1000000000
theorem row_eq {a b : Str} {x y : Nat} : rowW [.inr a, .inr b, .inl (x : Int), .inl (y : Int)] = wrd (linkW a b x y) := by
  show wrd (linkW a b (x : Int).toNat (y : Int).toNat) = _
  rw [Int.toNat_natCast, Int.toNat_natCast]
theorem rows_free {zs : List Str} {ls : List (Addr × List Key)} (nok : ∀ z ∈ zs, NameOk z) (h : ∀ q ∈ ls, Lk9 zs q.2) : ∀ r ∈ rowsW zs ls, Free 10 r := fun r hr => by
  rcases List.mem_cons.mp hr with rfl | hr
  · exact free_wrd (net_parts nok (by decide))
  · obtain ⟨q, hq, rfl⟩ := List.mem_map.mp hr
    obtain ⟨a, b, x, y, e, ha, hb, _⟩ := h q hq
    rw [e, row_eq]
    exact free_wrd (link_parts ha hb x y (by decide))
theorem rows_long {zs : List Str} {ls : List (Addr × List Key)} (z8 : zs.length ≤ 8) (nok : ∀ z ∈ zs, NameOk z) (h : ∀ q ∈ ls, Lk9 zs q.2) : ∀ r ∈ rowsW zs ls, r.length ≤ 90 := fun r hr => by
  rcases List.mem_cons.mp hr with rfl | hr
  · have := wrd_len (net_len nok)
    unfold netW at this ⊢
    rw [List.length_cons] at this
    omega
  · obtain ⟨q, hq, rfl⟩ := List.mem_map.mp hr
    obtain ⟨a, b, x, y, e, ha, hb, _, _, hx, hy⟩ := h q hq
    rw [e, row_eq]
    have := wrd_len (link_len ha hb hx hy)
    have e5 : (linkW a b x y).length = 5 := rfl
    omega
theorem page_len {zs : List Str} {ls : List (Addr × List Key)} (z8 : zs.length ≤ 8) (nok : ∀ z ∈ zs, NameOk z) (h : ∀ q ∈ ls, Lk9 zs q.2) (few : ls.length ≤ 16) : (pageW zs ls).length ≤ 17 * 91 := by
  unfold pageW
  rw [len_tl, join_eq, tl_join, lf_tl]
  refine Nat.le_trans (joinL_len _ _) ?_
  have s := sum_le (rows_long z8 nok h)
  have e : (((rowsW zs ls).map tl).map List.length) = (rowsW zs ls).map (·.length) := by
    rw [List.map_map]
    exact List.map_congr_left fun z _ => (len_tl z).symm
  rw [e, List.length_map]
  have l : (rowsW zs ls).length ≤ 17 := by
    unfold rowsW
    rw [List.length_cons, List.length_map]
    omega
  have := Nat.mul_le_mul_right 90 l
  simp only [List.length_singleton, Nat.mul_one]
  omega
end Toy
set_option Elab.async false
set_option linter.all false
set_option maxRecDepth 100000
set_option maxHeartbeats 8000000
namespace Toy
open PySem L2 Q RZ D7 TL
theorem iteB2 {c : Bool} {A B : Prop} (h : c = false) (b : B) : if c = true then A else B := by
  rw [h]
  exact b
theorem ifE {c : Bool} {A B : Prop} (h1 : c = true → A) (h2 : c = false → B) : if c = true then A else B := by
  cases c with
  | true => exact h1 rfl
  | false => exact h2 rfl
theorem ixT {K : PySem.W.Frag} {H : Hp} {a : Addr} {xs : List V} (h : SqT K H a xs) (i : Nat) {v : V} {Q : VK} (e : xs[i]? = some v) (q : Q v H) : rIx K (.ref a) (.int (i : Int)) H Q :=
  .inr (.inl ⟨a, xs, (i : Int), v, rfl, rfl, h, atI_nat e, q⟩)
theorem ixL {K : PySem.W.Frag} {H : Hp} {a : Addr} {xs : List V} (h : SqL K H a xs) (i : Nat) {v : V} {Q : VK} (e : xs[i]? = some v) (q : Q v H) : rIx K (.ref a) (.int (i : Int)) H Q :=
  .inl ⟨a, xs, (i : Int), v, rfl, rfl, h, atI_nat e, q⟩
theorem Same.upd_at {H H' : Hp} {p : Addr} {o : HO} (s : Same H H') (n : H p = none) : Same H (upd H' p o) := fun b u e => by
  rw [upd_ne (ne_of_none e n)]
  exact s _ _ e
theorem all_true (n : Nat) : (List.replicate n true).all id = true := by simp
theorem cat_any {K : PySem.W.Frag} {H : Hp} {a b : Addr} {xs ys : List V} {Q : VK} (ha : SqT K H a xs) (hb : SqT K H b ys) (few : xs.length + ys.length ≤ 1000) (k : ∀ t H', Same H H' → SqT K H' t (xs ++ ys) → Q (.ref t) H') : rCatA K (.ref a) (.ref b) H Q := by
  refine ⟨a, b, xs, ys, rfl, rfl, ha, hb, by rw [sizeLine_eq]; omega, fun z => k b H (Same.refl H) ?_, fun _ z => k a H (Same.refl H) ?_, fun _ _ t nt => k t _ (same_new nt) (SqT.of upd_same)⟩
  · rw [z, List.nil_append]
    exact hb
  · rw [z, List.append_nil]
    exact ha
theorem empty_app (z : Str) : Str.empty ++ z = z := by
  refine ext_tl ?_
  rw [tl_append]
  rfl
theorem lenA (a b : Str) : (a ++ b).length = a.length + b.length := PySem.strLen_append a b
theorem digS (c : Nat) : (!decide ((⟨#[c]⟩ : Str).cps.toList < (Str.ofString "0").cps.toList)) = decide (48 ≤ c) ∧ (!decide ((Str.ofString "9").cps.toList < (⟨#[c]⟩ : Str).cps.toList)) = decide (c ≤ 57) := by
  have ea : (Str.ofString "0").cps.toList = [48] := by decide +kernel
  have ez : (Str.ofString "9").cps.toList = [57] := by decide +kernel
  rw [ea, ez]
  constructor
  · rw [Bool.eq_iff_iff]
    simp [List.cons_lt_cons_iff]
  · rw [Bool.eq_iff_iff]
    simp [List.cons_lt_cons_iff]
/-- number_of(word), the word of a number from 1 on -/
def spNumber : Sp := fun vs H Q _ => ∃ n : Nat, vs = [.str (num n)] ∧ 1 ≤ n ∧ n < 1000000000 ∧ ∀ H', Same H H' → Q (.int (n : Int)) H'
section
variable {P : Program} {w : World} {K : PySem.W.Frag} {mg : Str → Option Value} {base : Heap} {ca ia fa : Nat → Addr} {fd fi : Nat → FuncData}
theorem ok_number (T : Txt K mg ca ia fa fd fi) : FnOk P w K mg base CX0 1 (fa 15) (fd 15) ["word"] spNumber := by
  refine T.F_number_of.ok sc_number_of (fun vs H Q E h => ?_) (fun cdv A outer s H vs Q E hr h => ?_)
  · obtain ⟨n, rfl, _⟩ := h
    rfl
  · obtain ⟨n, rfl, n1, n9, k⟩ := h
    obtain ⟨tk9, hv_MOST_DIGITS⟩ := T.v_MOST_DIGITS
    obtain ⟨l1, l9⟩ := num_len n9
    refine ⟨_, (pss_cons (ps_if (PW.pt (pw_or (pt_not (pt_chain op_le op_le pe_int (pe_callB call_len (by rfl) T.n_len (by decide +kernel) (pa_cons (pv 0) pa_nil)) (pe_glob rfl hv_MOST_DIGITS (v := .int 9) ⟨_, rfl⟩))) (pw_or1 (pt_not (pt_val (pe_callB (cr_all rfl) (by rfl) T.n_all (by decide +kernel) (pa_cons (pe_lc (own := [("digit", 1)]) (g := (gName 1)) (tt := tYes) rfl sc_number_of.nd (pi_str (pv 0)) (blkOk_by (own := [("digit", 1)]) (N := N_number_of) (sc := defScope s_number_of) (by decide +kernel)) (fun _ _ _ _ _ => (pg_name (i := 1) sc_number_of.nd rfl (Or.inl rfl))) (fun _ _ _ _ _ => pts_nil) (fun _ _ _ _ _ => by exact (pe_chain op_le_str op_le_str pe_str (pv 1) pe_str))) pa_nil))))))) (pss_one (ps_ret pe_non)) pss_nil)
      (pss_one (ps_ret (pe_ifExp (PW.pt (pw_or (pt_cmpR op_eq (pv 0) pe_str (nomark _)) (pw_or1 (pt_cmpR op_ne (pe_ix ix_seq (pv 0) pe_int (fun _ _ => rfl)) pe_str (nomark _))))) (pe_callTy call_int_str (by rfl) T.n_int (by decide +kernel) (pa_cons (pv 0) pa_nil)) pe_non)))), ?_⟩
    have lenV : LenV K (.str (num n)) H (num n).length := ⟨by rw [sizeLine_eq]; omega, rfl⟩
    refine ⟨_, rfl, _, _, rfl, lenV, _, _, rfl, rfl, _, rfl, iteB (decide_eq_true (by omega)) ?_⟩
    refine ⟨_, _, rfl, rfl, _, rfl, iteB2 (by simp; omega) ?_⟩
    refine ⟨_, rfl, num n, rfl, fun D hD => ?_⟩
    refine lc_it walk_str (fun i H' => H' D = some (.lst ((List.replicate i true).map V.bl)) ∧ Same H H') ⟨upd_same, same_new hD⟩ (fun _ _ _ _ => trivial) ?_ ?_
    · rintro i x H1 H2 hi ⟨hb, s1⟩ ⟨rfl, c, hc, rfl⟩
      refine ⟨rfl, ?_⟩
      dsimp only [tYes]
      rw [if_pos rfl]
      have hi2 : i < (num n).length := hi
      have hc2 : c ∈ tl (num n) := by
        refine List.mem_of_getElem? (i := i) ?_
        rw [Array.getElem?_toList]
        exact hc
      rw [num_tl] at hc2
      have dg := numL_digits n c hc2
      obtain ⟨low1, low2⟩ := digS c
      refine ⟨_, rfl, _, _, rfl, rfl, _, rfl, iteB (by rw [low1]; exact decide_eq_true dg.1) ?_⟩
      refine ⟨_, _, rfl, rfl, ?_⟩
      rw [low2, decide_eq_true dg.2]
      exact ⟨_, hb, by rw [List.length_map, List.length_replicate, sizeLine_eq]; omega, by rw [upd_same, List.replicate_succ', List.map_append]; rfl, Same.upd_at s1 hD⟩
    · rintro H1 ⟨hb, s1⟩
      refine ⟨D, List.replicate _ true, rfl, SqL.of hb, ?_⟩
      rw [all_true]
      refine ⟨_, rfl, iteB2 rfl ?_⟩
      obtain ⟨c0, l0, e0, ne0⟩ := numL_head n1
      have t0 : tl (num n) = c0 :: l0 := by rw [num_tl]; exact e0
      have go : ∀ {G : Hp}, Same H G → (tCB (fun xs H Q => ∃ a n, xs = [V.str a] ∧ intText? a = some n ∧ a.length ≤ 640 ∧ Q (V.int n) H) (tCons (tVar 0) tNil)) (L2.start N_number_of [V.str (num n)]) G Q := fun {G} g =>
        ⟨_, rfl, num n, _, rfl, num_int n9, by omega, k G g⟩
      have z0 : tl (tx "0") = [48] := by decide +kernel
      refine ⟨_, rfl, rfl, _, rfl, iteB2 (decide_eq_false fun z => ?_) ?_⟩
      · injection z with z
        have t1 : tl (num n) = tl (tx "0") := congrArg tl z
        rw [t0, z0] at t1
        injection t1 with t1
        exact ne0 t1
      refine ⟨_, rfl, .inr (.inr ⟨num n, 0, c0, rfl, rfl, by rw [sizeLine_eq]; omega, atI_nat (xs := (num n).cps.toList) (j := 0) (by rw [show (num n).cps.toList = c0 :: l0 from t0]; rfl), rfl, _, rfl, iteB ?_ (go s1)⟩)⟩
      simp only [Bool.not_eq_true', decide_eq_false_iff_not]
      intro z
      injection z with z
      have t1 : tl (⟨#[c0]⟩ : Str) = tl (tx "0") := congrArg tl z
      rw [z0] at t1
      injection t1 with t1
      exact ne0 t1
/-- link_of(row) -/
def spLinkOf : Sp := fun vs H Q _ => ∃ (a b : Str) (x y : Nat), vs = [.str (wrd (linkW a b x y))] ∧ NameOk a ∧ NameOk b ∧ 1 ≤ x ∧ 1 ≤ y ∧ x < 1000000000 ∧ y < 1000000000 ∧
  ∀ t H', Same H H' → H' t = some (.tup [.str a, .str b, .int (x : Int), .int (y : Int)]) → Q (.ref t) H'
theorem ok_link_of (T : Txt K mg ca ia fa fd fi) : FnOk P w K mg base CX0 2 (fa 33) (fd 33) ["row"] spLinkOf := by
  have G_number_of := ok_number (P := P) (w := w) (base := base) T
  have G_is_name := ok_name (P := P) (w := w) (base := base) T
  refine T.F_link_of.ok sc_link_of (fun vs H Q E h => ?_) (fun cdv A outer s H vs Q E hr h => ?_)
  · obtain ⟨a, b, x, y, rfl, _⟩ := h
    rfl
  · obtain ⟨a, b, x, y, rfl, na, nb, x1, y1, x9, y9, k⟩ := h
    refine ⟨_, (pss_cons (ps_set (i := 1) sc_link_of.nd rfl (Or.inl rfl) (pe_split (pv 0) pe_str))
      (pss_cons (ps_if (PW.pt (pw_or (pt_cmpR op_ne (pe_callB call_len (by rfl) T.n_len (by decide +kernel) (pa_cons (pv 1) pa_nil)) pe_int (nomark _)) (pw_or1 (pt_cmpR op_ne (pe_ix ix_seq (pv 1) pe_int (fun _ _ => rfl)) pe_str (nomark _))))) (pss_one (ps_ret pe_non)) pss_nil)
      (pss_cons (ps_asg (pe_tup (pa_cons (pe_ix ix_seq (pv 1) pe_int (fun _ _ => rfl)) (pa_cons (pe_ix ix_seq (pv 1) pe_int (fun _ _ => rfl)) (pa_cons (pe_call G_number_of (hr.mono (by decide)) rfl T.g_number_of T.k_number_of T.b_number_of .nil pass0 (pa_cons (pe_ix ix_seq (pv 1) pe_int (fun _ _ => rfl)) pa_nil)) (pa_cons (pe_call G_number_of (hr.mono (by decide)) rfl T.g_number_of T.k_number_of T.b_number_of .nil pass0 (pa_cons (pe_ix ix_seq (pv 1) pe_int (fun _ _ => rfl)) pa_nil)) pa_nil))))) (pg_tup rfl (pgs_cons (pg_name (i := 2) sc_link_of.nd rfl (Or.inl rfl)) (pgs_cons (pg_name (i := 3) sc_link_of.nd rfl (Or.inl rfl)) (pgs_cons (pg_name (i := 4) sc_link_of.nd rfl (Or.inl rfl)) (pgs_cons (pg_name (i := 5) sc_link_of.nd rfl (Or.inl rfl)) pgs_nil))))))
      (pss_cons (ps_if (PW.pt (pw_or (pt_not (pt_val (pe_call G_is_name (hr.mono (by decide)) rfl T.g_is_name T.k_is_name T.b_is_name .nil pass0 (pa_cons (pv 2) pa_nil)))) (pw_or (pt_not (pt_val (pe_call G_is_name (hr.mono (by decide)) rfl T.g_is_name T.k_is_name T.b_is_name .nil pass0 (pa_cons (pv 3) pa_nil)))) (pw_or (pt_cmpR op_isN (pv 4) pe_non (nomark _)) (pw_or1 (pt_cmpR op_isN (pv 5) pe_non (nomark _))))))) (pss_one (ps_ret pe_non)) pss_nil)
      (pss_one (ps_ret (pe_tup (pa_cons (pv 2) (pa_cons (pv 3) (pa_cons (pv 4) (pa_cons (pv 5) pa_nil))))))))))), ?_⟩
    have len := wrd_len (link_len na nb x9 y9)
    have l5 : (linkW a b x y).length = 5 := rfl
    refine ⟨_, rfl, ⟨_, rfl⟩, _, _, rfl, rfl, by decide +kernel, by rw [sizeLine_eq]; omega, fun R nR => ?_⟩
    rw [split_wrd (by simp [linkW]) (link_parts na nb x y (by decide))]
    have sR := same_new (o := .lst ((linkW a b x y).map V.str)) nR
    have hR : upd H R (.lst ((linkW a b x y).map V.str)) R = some (.lst ((linkW a b x y).map V.str)) := upd_same
    generalize upd H R (.lst ((linkW a b x y).map V.str)) = H1 at sR hR ⊢
    have at_ : ∀ {G : Hp} {i : Nat} {z : Str} {Q' : VK}, Same H1 G → (linkW a b x y)[i]? = some z → Q' (.str z) G → rIx K (.ref R) (.int (i : Int)) G Q' := fun {G i z Q'} g e q =>
      ixL (SqL.of (g _ _ hR)) i (by rw [List.getElem?_map, e]; rfl) q
    refine ⟨_, rfl, _, _, rfl, .inl ⟨_, SqL.of hR, rfl⟩, rfl, _, rfl, iteB2 (by simp [linkW]) ?_⟩
    refine ⟨_, rfl, at_ (Same.refl _) (i := 0) rfl ⟨rfl, _, rfl, iteB2 (by simp) ?_⟩⟩
    refine nxt ?_
    refine ⟨_, rfl, at_ (Same.refl _) (i := 1) rfl ⟨_, rfl, at_ (Same.refl _) (i := 2) rfl ⟨_, rfl, at_ (Same.refl _) (i := 3) rfl ⟨x, rfl, x1, x9, fun H2 s2 => ⟨_, rfl, at_ s2 (i := 4) rfl ⟨y, rfl, y1, y9, fun H3 s3 => ⟨by show 4 ≤ sizeLine; decide, fun t nt => ?_⟩⟩⟩⟩⟩⟩⟩
    have st := same_new (o := .tup [.str a, .str b, .int (x : Int), .int (y : Int)]) nt
    have ht : upd H3 t (.tup [.str a, .str b, .int (x : Int), .int (y : Int)]) t = some (.tup [.str a, .str b, .int (x : Int), .int (y : Int)]) := upd_same
    have s04 := ((sR.trans s2).trans s3).trans st
    generalize upd H3 t (.tup [.str a, .str b, .int (x : Int), .int (y : Int)]) = H4 at ht s04 ⊢
    refine ⟨t, _, rfl, SqT.of ht, rfl, _, _, rfl, _, _, rfl, _, _, rfl, _, _, rfl, rfl, ?_⟩
    refine ⟨_, rfl, a, rfl, by have := na.2.1; omega, fun b1 h1 H5 s5 => ?_⟩
    obtain rfl : b1 = true := h1.mpr na
    refine ⟨_, rfl, iteB2 rfl ⟨_, rfl, b, rfl, by have := nb.2.1; omega, fun b2 h2 H6 s6 => ?_⟩⟩
    obtain rfl : b2 = true := h2.mpr nb
    refine ⟨_, rfl, iteB2 rfl ?_⟩
    refine ⟨_, rfl, rfl, _, rfl, iteB2 rfl ⟨_, rfl, rfl, _, rfl, iteB2 rfl ?_⟩⟩
    refine nxt ?_
    refine ⟨_, rfl, _, rfl, _, rfl, _, rfl, by show 4 ≤ sizeLine; decide, fun t2 nt2 => ?_⟩
    exact k t2 _ (((s04.trans s5).trans s6).trans (same_new nt2)) upd_same
/-- routers_of(row) -/
def spRoutersOf : Sp := fun vs H Q _ => ∃ zs : List Str, vs = [.str (wrd (netW zs))] ∧ (∀ z ∈ zs, NameOk z) ∧ zs.length ≤ 8 ∧ ∀ t H', Same H H' → H' t = some (.tup (zs.map V.str)) → Q (.ref t) H'
theorem ok_routers_of (T : Txt K mg ca ia fa fd fi) : FnOk P w K mg base CX0 2 (fa 32) (fd 32) ["row"] spRoutersOf := by
  have G_is_name := ok_name (P := P) (w := w) (base := base) T
  refine T.F_routers_of.ok sc_routers_of (fun vs H Q E h => ?_) (fun cdv A outer s H vs Q E hr h => ?_)
  · obtain ⟨zs, rfl, _⟩ := h
    rfl
  · obtain ⟨zs, rfl, nok, z8, k⟩ := h
    refine ⟨_, (pss_cons (ps_asg (pe_split (pv 0) pe_str) (pg_hd rfl (pg_name (i := 1) sc_routers_of.nd rfl (Or.inl rfl)) (pg_name (i := 2) sc_routers_of.nd rfl (Or.inl rfl))))
      (pss_cons (ps_if (PW.pt (pw_or (pt_cmpR op_ne (pv 1) pe_str (nomark _)) (pw_or1 (pt_not (pt_val (pe_callB (cr_all rfl) (by rfl) T.n_all (by decide +kernel) (pa_cons (pe_lc (own := [("name", 3)]) (g := (gName 3)) (tt := tYes) rfl sc_routers_of.nd (pi_list (pv 2)) (blkOk_by (own := [("name", 3)]) (N := N_routers_of) (sc := defScope s_routers_of) (by decide +kernel)) (fun _ _ _ _ _ => (pg_name (i := 3) sc_routers_of.nd rfl (Or.inl rfl))) (fun _ _ _ _ _ => pts_nil) (fun _ _ _ _ _ => by exact (pe_call G_is_name (hr.mono (by decide)) rfl T.g_is_name T.k_is_name T.b_is_name .nil pass0 (pa_cons (pv 3) pa_nil)))) pa_nil))))))) (pss_one (ps_ret pe_non)) pss_nil)
      (pss_one (ps_ret (pe_callTy call_tuple_of (by rfl) T.n_tuple (by decide +kernel) (pa_cons (pv 2) pa_nil)))))), ?_⟩
    have len := wrd_len (net_len nok)
    have l9 : (netW zs).length = zs.length + 1 := rfl
    refine ⟨_, rfl, ⟨_, rfl⟩, _, _, rfl, rfl, by decide +kernel, by rw [sizeLine_eq]; omega, fun R nR => ?_⟩
    rw [split_wrd (by simp [netW]) (net_parts nok (by decide))]
    have sR := same_new (o := .lst ((netW zs).map V.str)) nR
    have hR : upd H R (.lst ((netW zs).map V.str)) R = some (.lst ((netW zs).map V.str)) := upd_same
    generalize upd H R (.lst ((netW zs).map V.str)) = H1 at sR hR ⊢
    refine ⟨R, .str (tx "routers"), zs.map V.str, rfl, SqL.of hR, by rw [List.length_map]; omega, fun p np => ?_⟩
    have sp := same_new (o := .lst (zs.map V.str)) np
    have hp : upd H1 p (.lst (zs.map V.str)) p = some (.lst (zs.map V.str)) := upd_same
    have s02 := sR.trans sp
    generalize upd H1 p (.lst (zs.map V.str)) = H2 at sp hp s02 ⊢
    refine ⟨_, rfl, rfl, _, rfl, iteB2 (by simp) ?_⟩
    refine ⟨_, rfl, p, rfl, ⟨_, SqL.of hp⟩, fun D nD => ?_⟩
    refine lc_it (walk_list (xs := zs.map V.str)) (fun i H' => H' D = some (.lst ((List.replicate i true).map V.bl)) ∧ Same H2 H') ⟨upd_same, same_new nD⟩ (fun i H' _ q => SqL.of (q.2 _ _ hp)) ?_ ?_
    · rintro i x Ha Hb hi ⟨hb, sm⟩ ⟨rfl, hx⟩
      obtain ⟨z, hz, rfl⟩ := at_map hx
      have nz := nok z (List.mem_of_getElem? hz)
      rw [List.length_map] at hi
      refine ⟨rfl, ?_⟩
      dsimp only [tYes]
      rw [if_pos rfl]
      refine ⟨_, rfl, z, rfl, by have := nz.2.1; omega, fun b1 h1 H5 s5 => ?_⟩
      obtain rfl : b1 = true := h1.mpr nz
      exact ⟨_, s5 _ _ hb, by rw [List.length_map, List.length_replicate, sizeLine_eq]; omega, by rw [upd_same, List.replicate_succ', List.map_append]; rfl, Same.upd_at (sm.trans s5) nD⟩
    · rintro H3 ⟨hb, s3⟩
      refine ⟨D, List.replicate _ true, rfl, SqL.of hb, ?_⟩
      rw [all_true]
      refine ⟨_, rfl, iteB2 rfl ?_⟩
      refine nxt ?_
      exact ⟨_, rfl, p, _, rfl, .inl ⟨SqL.of (s3 _ _ hp), fun t nt => k t _ ((s02.trans s3).trans (same_new nt)) upd_same⟩⟩
/-- rows_of(text) -/
def spRowsOf : Sp := fun vs H Q _ => ∃ (zs : List Str) (ls : List (Addr × List Key)), vs = [.str (pageW zs ls)] ∧ (∀ z ∈ zs, NameOk z) ∧ zs.length ≤ 8 ∧ (∀ q ∈ ls, Lk9 zs q.2) ∧ ls.length ≤ 16 ∧ ∀ R H', Same H H' → H' R = some (.lst ((rowsW zs ls).map V.str)) → Q (.ref R) H'
theorem ok_rows_of (T : Txt K mg ca ia fa fd fi) : FnOk P w K mg base CX0 3 (fa 30) (fd 30) ["text"] spRowsOf := by
  refine T.F_rows_of.ok sc_rows_of (fun vs H Q E h => ?_) (fun cdv A outer s H vs Q E hr h => ?_)
  · obtain ⟨zs, ls, rfl, _⟩ := h
    rfl
  · obtain ⟨zs, ls, rfl, nok, z8, l9, few, k⟩ := h
    refine ⟨_, (pss_cons (ps_if (pt_not (pt_val (pe_callB call_isi (by rfl) T.n_isinstance (by decide +kernel) (pa_cons (pv 0) (pa_cons (pe_bltn (v := .ty "str") (by rfl) T.n_str (by decide +kernel) rfl) pa_nil))))) (pss_one (ps_raise rfl takes0 (pmk_oex T.c_BadText.oex T.iC_BadText T.tI_BadText (in_BadText T) (hr.mono (by decide)) T.bi_BadText .nil pass0 rfl T.c_BadText.g (pa_cons pe_non pa_nil)))) pss_nil)
      (pss_one (ps_ret (pe_split (pv 0) pe_str)))), ?_⟩
    have len := page_len z8 nok l9 few
    refine ⟨_, rfl, .str (pageW zs ls), .ty "str", _, _, true, rfl, .ty _, .base (.str _), rfl, _, rfl, iteB2 rfl ?_⟩
    refine nxt ?_
    refine ⟨_, rfl, ⟨_, rfl⟩, _, _, rfl, rfl, by decide +kernel, by rw [sizeLine_eq]; omega, fun R nR => ?_⟩
    have e : Txt.split (pageW zs ls) (tx "\n") = rowsW zs ls := split_rows (by simp [rowsW]) (rows_free nok l9)
    have e2 : Txt.split (pageW zs ls) (Str.ofString "\n") = rowsW zs ls := e
    rw [e2]
    exact k R _ (same_new nR) upd_same
/-- links, laid one by one -/
def LinksAt (H : Hp) (F : Addr) (ls : List (Addr × List Key)) : Prop := H F = some (.lst (ls.map fun q => V.ref q.1)) ∧ ∀ q ∈ ls, H q.1 = some (.tup (q.2.map kV))
/-- net_parts(rows) -/
def spNetParts : Sp := fun vs H Q _ => ∃ (R : Addr) (zs : List Str) (ls : List (Addr × List Key)), vs = [.ref R] ∧ H R = some (.lst ((rowsW zs ls).map V.str)) ∧ (∀ z ∈ zs, NameOk z) ∧ zs.length ≤ 8 ∧ (∀ q ∈ ls, Lk9 zs q.2) ∧ ls.length ≤ 16 ∧
  ∀ (t r l : Addr) (ls' : List (Addr × List Key)) (H' : Hp), Same H H' → H' t = some (.tup [.ref r, .ref l]) → H' r = some (.tup (zs.map V.str)) → H' l = some (.tup (ls'.map fun q => V.ref q.1)) → (∀ q ∈ ls', H' q.1 = some (.tup (q.2.map kV))) → ls'.map (·.2) = ls.map (·.2) → Q (.ref t) H'
theorem ok_net_parts (T : Txt K mg ca ia fa fd fi) : FnOk P w K mg base CX0 3 (fa 31) (fd 31) ["rows"] spNetParts := by
  have G_routers_of := ok_routers_of (P := P) (w := w) (base := base) T
  have G_link_of := ok_link_of (P := P) (w := w) (base := base) T
  refine T.F_net_parts.ok sc_net_parts (fun vs H Q E h => ?_) (fun cdv A outer s H vs Q E hr h => ?_)
  · obtain ⟨R, zs, ls, rfl, _⟩ := h
    rfl
  · obtain ⟨R, zs, ls, rfl, hR, nok, z8, l9, few, k⟩ := h
    refine ⟨_, (pss_cons (ps_set (i := 1) sc_net_parts.nd rfl (Or.inl rfl) (pe_ifExp (pt_truth (pv 0) (fun _ => rfl)) (pe_call G_routers_of (hr.mono (by decide)) rfl T.g_routers_of T.k_routers_of T.b_routers_of .nil pass0 (pa_cons (pe_ix ix_seq (pv 0) pe_int (fun _ _ => rfl)) pa_nil)) pe_non))
      (pss_cons (ps_if (pt_cmpR op_isN (pv 1) pe_non (nomark _)) (pss_one (ps_raise rfl takes0 (pmk_oex T.c_BadText.oex T.iC_BadText T.tI_BadText (in_BadText T) (hr.mono (by decide)) T.bi_BadText .nil pass0 rfl T.c_BadText.g (pa_cons pe_int pa_nil)))) pss_nil)
      (pss_cons (ps_set (i := 2) sc_net_parts.nd rfl (Or.inl rfl) (pe_lst pa_nil))
      (pss_cons (ps_for PassesOwn.never rfl (pi_enumS (by rfl) T.n_enumerate (pa_cons (pe_slice sl_list (pv 0) (po_some pe_int) po_none) pa_nil) (pk_cons pe_int pk_nil)) (pg_tup rfl (pgs_cons (pg_name (i := 3) sc_net_parts.nd rfl (Or.inl rfl)) (pgs_cons (pg_name (i := 4) sc_net_parts.nd rfl (Or.inl rfl)) pgs_nil))) (pss_cons (ps_set (i := 5) sc_net_parts.nd rfl (Or.inl rfl) (pe_call G_link_of (hr.mono (by decide)) rfl T.g_link_of T.k_link_of T.b_link_of .nil pass0 (pa_cons (pv 4) pa_nil)))
      (pss_cons (ps_if (pt_cmpR op_isN (pv 5) pe_non (nomark _)) (pss_one (ps_raise rfl takes0 (pmk_oex T.c_BadText.oex T.iC_BadText T.tI_BadText (in_BadText T) (hr.mono (by decide)) T.bi_BadText .nil pass0 rfl T.c_BadText.g (pa_cons (pv 3) pa_nil)))) pss_nil)
      (pss_one (ps_expr (pe_bm PySem.F.plainAttrs_list PySem.F.slot_list_append PySem.F.type_list_append mt_append (pv 2) (pa_cons (pv 5) pa_nil)))))))
      (pss_one (ps_ret (pe_tup (pa_cons (pv 1) (pa_cons (pe_callTy call_tuple_of (by rfl) T.n_tuple (by decide +kernel) (pa_cons (pv 2) pa_nil)) pa_nil))))))))), ?_⟩
    have hl : (rowsW zs ls).length = ls.length + 1 := by
      unfold rowsW
      rw [List.length_cons, List.length_map]
    refine ⟨_, rfl, true, .inl ⟨_, SqL.of hR, by rw [List.isEmpty_map]; rfl⟩, iteB rfl ⟨_, rfl, ixL (SqL.of hR) 0 (v := .str (wrd (netW zs))) (by rw [List.getElem?_map]; rfl) ⟨zs, rfl, nok, z8, fun r H1 s1 hr1 => ?_⟩⟩⟩
    refine ⟨_, rfl, rfl, _, rfl, iteB2 rfl ?_⟩
    refine nxt ?_
    refine ⟨by show 0 ≤ sizeLine; decide, fun F nF => ?_⟩
    have sF := same_new (o := .lst []) nF
    have hF : upd H1 F (.lst []) F = some (.lst []) := upd_same
    have s02 := s1.trans sF
    have hr2 := sF _ _ hr1
    generalize upd H1 F (.lst []) = H2 at sF hF s02 hr2 ⊢
    have hR2 := s02 _ _ hR
    refine ⟨_, rfl, _, rfl, R, _, rfl, SqL.of hR2, fun S nS => ?_⟩
    have ecut : cutV ((rowsW zs ls).map V.str) (some 1) none = (ls.map fun q => rowW q.2).map V.str := by
      rw [show (some (1 : Int)) = some ((1 : Nat) : Int) from rfl, cut_drop]
      rfl
    rw [ecut]
    have sS := same_new (o := .lst ((ls.map fun q => rowW q.2).map V.str)) nS
    have hS : upd H2 S (.lst ((ls.map fun q => rowW q.2).map V.str)) S = some (.lst ((ls.map fun q => rowW q.2).map V.str)) := upd_same
    have s03 := s02.trans sS
    have hF3 := sS _ _ hF
    have hr3 := sS _ _ hr2
    have SF : S ≠ F := fun z => by rw [z, hF] at nS; cases nS
    generalize upd H2 S (.lst ((ls.map fun q => rowW q.2).map V.str)) = H3 at sS hS s03 hF3 hr3 ⊢
    refine ⟨S, _, 1, rfl, rfl, by decide, SqL.of hS, ?_⟩
    have keepT : ∀ {G : Hp} {c : Addr} {ys : List V}, But F H3 G → H3 c = some (.tup ys) → G c = some (.tup ys) := fun {G c ys} b e => b _ _ (fun z => by rw [z, hF3] at e; cases e) e
    refine for_it (walk_enumS (xs := (ls.map fun q => rowW q.2).map V.str)) (fun i σ H' => ∃ (ls' : List (Addr × List Key)) (x3 x4 x5 : Option L2.V), σ = [some (.ref R), some (.ref r), some (.ref F), x3, x4, x5] ∧ LinksAt H' F ls' ∧ ls'.map (·.2) = (ls.take i).map (·.2) ∧ But F H3 H')
      ⟨[], _, _, _, rfl, ⟨hF3, fun q h => (nomatch h)⟩, rfl, But.refl _ _⟩ (fun i σ H' _ ⟨_, _, _, _, _, _, _, b⟩ => SqL.of (b _ _ SF hS)) ?_ ?_
    · rintro i x σ H4 H5 hi ⟨ls', x3, x4, x5, rfl, la, el, bu⟩ ⟨T1, y1, y2, rfl, nT, rfl, e1, e2⟩
      injection e1 with e1
      obtain ⟨z, hz, rfl⟩ := at_map e2
      rw [List.getElem?_map] at hz
      obtain ⟨q, hq, rfl⟩ := Option.map_eq_some_iff.mp hz
      have mq := List.mem_of_getElem? hq
      obtain ⟨a, b, x, y, eq, na, nb, x1, y1', x9, y9⟩ := l9 q mq
      have sT := same_new (o := .tup [y1, .str (rowW q.2)]) nT
      refine ⟨T1, _, rfl, SqT.of upd_same, rfl, _, _, rfl, _, _, rfl, rfl, ?_⟩
      have ll : ls'.length = i := by
        have h := congrArg List.length el
        rw [List.length_map, List.length_map, List.length_take] at h
        have := (List.getElem?_eq_some_iff.mp hq).1
        omega
      have lq := (List.getElem?_eq_some_iff.mp hq).1
      refine ⟨_, rfl, a, b, x, y, by rw [eq, row_eq]; rfl, na, nb, x1, y1', x9, y9, fun t H6 s6 ht => ?_⟩
      have s46 := sT.trans s6
      refine ⟨_, rfl, rfl, _, rfl, iteB2 rfl ?_⟩
      refine nxt ?_
      have hF6 := s46 _ _ la.1
      refine ⟨_, rfl, .inl ⟨rfl, _, SqL.of hF6⟩, _, rfl, F, _, _, rfl, rfl, hF6, by rw [List.length_map, sizeLine_eq]; omega, nxt ?_⟩
      refine ⟨ls' ++ [(t, q.2)], _, _, _, rfl, ⟨by rw [upd_same, List.map_append]; rfl, fun u hu => ?_⟩, ?_, fun c o n e => by rw [upd_ne n]; exact s46 _ _ (bu c o n e)⟩
      · have tF : ∀ {c : Addr} {ys : List V}, H6 c = some (.tup ys) → upd H6 F (.lst ((ls'.map fun q => V.ref q.1) ++ [.ref t])) c = some (.tup ys) := fun {c ys} e => by
          rw [upd_ne (fun z => by rw [z, hF6] at e; cases e)]
          exact e
        rcases List.mem_append.mp hu with hu | hu
        · exact tF (s46 _ _ (la.2 u hu))
        · rw [List.mem_singleton.mp hu]
          refine tF ?_
          show H6 t = some (.tup (q.2.map kV))
          rw [ht, eq]
          rfl
      · rw [List.map_append, el, List.take_add_one, hq, List.map_append]
        rfl
    · rintro σ H4 ⟨ls', x3, x4, x5, rfl, la, el, bu⟩
      rw [List.length_map, List.length_map, List.take_length] at el
      refine ⟨_, rfl, _, rfl, F, _, rfl, .inl ⟨SqL.of la.1, fun l nl => ⟨by show 2 ≤ sizeLine; decide, fun t nt => ?_⟩⟩⟩
      have sl := same_new (o := .tup (ls'.map fun q => V.ref q.1)) nl
      have st := same_new (o := .tup [.ref r, .ref l]) nt
      have F0 : H F = none := by
        cases e : H F with
        | none => rfl
        | some o => rw [s1 _ _ e] at nF; cases nF
      have s04 : Same H H4 := fun c o e => bu _ _ (fun z => by rw [z, F0] at e; cases e) (s03 _ _ e)
      exact k t r l ls' _ (s04.trans (sl.trans st)) upd_same (st _ _ (sl _ _ (keepT bu hr3))) (st _ _ upd_same) (fun q hq => st _ _ (sl _ _ (la.2 q hq))) el
/-- show_net(net) -/
def spShowNet (C : Addr) : Sp := fun vs H Q _ => ∃ (n r l : Addr) (zs : List Str) (ls : List (Addr × List Key)), vs = [.ref n] ∧ NetW C H n r l zs ls ∧ (∀ q ∈ ls, Lk9 zs q.2) ∧ ∀ H', Same H H' → Q (.str (pageW zs ls)) H'
theorem ok_show_net (T : Txt K mg ca ia fa fd fi) : FnOk P w K mg base CX0 3 (fa 28) (fd 28) ["net"] (spShowNet (ca 20)) := by
  have G_m_routers := ok_m_routers (P := P) (w := w) (base := base) T
  have G_m_links := ok_m_links (P := P) (w := w) (base := base) T
  obtain ⟨pr, hp_routers⟩ := T.P_routers
  obtain ⟨pl, hp_links⟩ := T.P_links
  refine T.F_show_net.ok sc_show_net (fun vs H Q E h => ?_) (fun cdv A outer s H vs Q E hr h => ?_)
  · obtain ⟨n, r, l, zs, ls, rfl, _⟩ := h
    rfl
  · obtain ⟨n, r, l, zs, ls, rfl, hw, l9, k⟩ := h
    refine ⟨_, (pss_cons (ps_set (i := 1) sc_show_net.nd rfl (Or.inl rfl) (pe_lst (pa_cons (pe_join pe_str (pe_op op_catA (pe_tup (pa_cons pe_str pa_nil)) (pe_prop (pv 0) T.cl_Net hp_routers G_m_routers (hr.mono (by decide)) T.b_m_routers .nil pass0 rfl))) pa_nil)))
      (pss_one (ps_ret (pe_join pe_str (pe_op op_cat (pv 1) (pe_lc (own := [("a", 2), ("b", 3), ("there", 4), ("back", 5)]) (g := (gTup K 4 (gCons (gName 2) (gCons (gName 3) (gCons (gName 4) (gCons (gName 5) gNil)))))) (tt := tYes) (te := tRowS) rfl sc_show_net.nd (pi_tup (pe_prop (pv 0) T.cl_Net hp_links G_m_links (hr.mono (by decide)) T.b_m_links .nil pass0 rfl)) (blkOk_by (own := [("a", 2), ("b", 3), ("there", 4), ("back", 5)]) (N := N_show_net) (sc := defScope s_show_net) (by decide +kernel)) (fun _ _ _ _ _ => (pg_tup rfl (pgs_cons (pg_name (i := 2) sc_show_net.nd rfl (Or.inl rfl)) (pgs_cons (pg_name (i := 3) sc_show_net.nd rfl (Or.inl rfl)) (pgs_cons (pg_name (i := 4) sc_show_net.nd rfl (Or.inl rfl)) (pgs_cons (pg_name (i := 5) sc_show_net.nd rfl (Or.inl rfl)) pgs_nil)))))) (fun _ _ _ _ _ => pts_nil) (fun _ _ _ _ _ => by exact (pe_joined (.cons pe_str (.cons (pe_fmt (pv 2)) (.cons pe_str (.cons (pe_fmt (pv 3)) (.cons pe_str (.cons (pe_fmt (pv 4)) (.cons pe_str (.cons (pe_fmt (pv 5)) .nil)))))))))))))))), ?_⟩
    obtain ⟨dx, hn⟩ := hw.net
    have z8 := hw.ok.2.1
    have nok := hw.ok.2.2
    have len := wrd_len (net_len nok)
    have lw : (netW zs).length = zs.length + 1 := rfl
    have sm := sum_le (net_len nok)
    refine ⟨⟨_, rfl⟩, by show 1 ≤ sizeLine; decide, fun t0 nt0 => ?_⟩
    have st0 := same_new (o := .tup [.str (tx "routers")]) nt0
    have ht0 : upd H t0 (.tup [.str (tx "routers")]) t0 = some (.tup (([tx "routers"] : List Str).map V.str)) := upd_same
    generalize upd H t0 (.tup [.str (tx "routers")]) = H1 at st0 ht0 ⊢
    have hn1 := st0 _ _ hn
    refine ⟨_, rfl, n, dx, _, rfl, hn1, n, dx, _, _, rfl, hn1, rfl, ?_⟩
    refine cat_any (SqT.of ht0) (SqT.of (st0 _ _ hw.rt)) (by rw [List.length_map, List.length_map]; show 1 + zs.length ≤ _; omega) fun t1 H2 s2 h1 => ?_
    rw [← List.map_append] at h1
    have h1 : SqT K H2 t1 ((netW zs).map V.str) := h1
    refine ⟨_, _, _, rfl, rfl, .inr h1, by show ((netW zs).map (·.length)).sum + (netW zs).length * 1 ≤ _; omega, by show 1 ≤ sizeLine; decide, fun L nL => ?_⟩
    have sL := same_new (o := .lst [.str (wrd (netW zs))]) nL
    have hL : upd H2 L (.lst [.str (wrd (netW zs))]) L = some (.lst (([wrd (netW zs)] : List Str).map V.str)) := upd_same
    have s03 := (st0.trans s2).trans sL
    have eq : upd H2 L (.lst [.str (Txt.join (Str.ofString " ") (netW zs))]) = upd H2 L (.lst [.str (wrd (netW zs))]) := rfl
    show _
    refine ⟨⟨_, rfl⟩, _, rfl, ?_⟩
    rw [eq]
    generalize upd H2 L (.lst [.str (wrd (netW zs))]) = H3 at sL hL s03 ⊢
    have hn3 := s03 _ _ hn
    refine ⟨_, rfl, n, dx, _, rfl, hn3, n, dx, _, _, rfl, hn3, rfl, l, rfl, ⟨_, SqT.of (s03 _ _ hw.lk.at_)⟩, fun D nD => ?_⟩
    have LD : L ≠ D := fun z => by rw [z, nD] at hL; cases hL
    refine lc_it (walk_tup (xs := ls.map fun q => V.ref q.1)) (fun i H' => H' D = some (.lst (((ls.take i).map fun q => rowW q.2).map V.str)) ∧ Same H3 H') ⟨upd_same, same_new nD⟩ (fun i H' _ q => SqT.of (q.2 _ _ (s03 _ _ hw.lk.at_))) ?_ ?_
    · rintro i x Ha Hb hi ⟨hb, sm⟩ ⟨rfl, hx⟩
      obtain ⟨q, hq, rfl⟩ := at_map hx
      have mq := List.mem_of_getElem? hq
      obtain ⟨a, b, x, y, e, na, nb, x1, y1, x9, y9⟩ := l9 q mq
      have hq1 := sm _ _ (s03 _ _ (hw.lk.el q mq).1)
      rw [e] at hq1
      have lx := (num_len x9).2
      have ly := (num_len y9).2
      have la := na.2.1
      have lb := nb.2.1
      have l0 : Str.empty.length = 0 := rfl
      have l5 : (Str.ofString "link ").length = 5 := by decide +kernel
      have ls1 : (Str.ofString " ").length = 1 := by decide +kernel
      have lnx : (Str.ofString (toString (x : Int))).length ≤ 9 := lx
      have lny : (Str.ofString (toString (y : Int))).length ≤ 9 := ly
      refine ⟨q.1, _, rfl, SqT.of hq1, rfl, _, _, rfl, _, _, rfl, _, _, rfl, _, _, rfl, rfl, ?_⟩
      dsimp only [tYes]
      rw [if_pos rfl]
      refine ⟨rfl, ?_⟩
      unfold tRowS
      refine ⟨_, rfl, by simp only [lenA, sizeLine_eq]; omega, _, rfl, .inl ⟨a, rfl, by rw [sizeLine_eq]; omega, _, rfl, by simp only [lenA, sizeLine_eq]; omega, _, rfl, by simp only [lenA, sizeLine_eq]; omega, _, rfl, .inl ⟨b, rfl, by rw [sizeLine_eq]; omega, _, rfl, by simp only [lenA, sizeLine_eq]; omega, _, rfl, by simp only [lenA, sizeLine_eq]; omega, _, rfl, .inr ⟨(x : Int), rfl, num_log x9, _, rfl, by simp only [lenA, sizeLine_eq]; omega, _, rfl, by simp only [lenA, sizeLine_eq]; omega, _, rfl, .inr ⟨(y : Int), rfl, num_log y9, _, rfl, by simp only [lenA, sizeLine_eq]; omega, ?_⟩⟩⟩⟩⟩
      rw [List.length_map] at hi
      have few := hw.m
      refine ⟨_, hb, by rw [List.length_map, List.length_map, List.length_take, sizeLine_eq]; omega, ?_, Same.upd_at sm nD⟩
      rw [upd_same, List.take_add_one, hq, List.map_append, List.map_append]
      have er : rowW q.2 = Str.empty ++ Str.ofString "link " ++ a ++ Str.ofString " " ++ b ++ Str.ofString " " ++ Str.ofString (toString (x : Int)) ++ Str.ofString " " ++ Str.ofString (toString (y : Int)) := by
        rw [e, row_eq, wrd_link, empty_app]
        rfl
      rw [← er]
      rfl
    · rintro H4 ⟨hb, s4⟩
      rw [List.length_map, List.take_length] at hb
      refine ⟨L, D, _, _, rfl, rfl, s4 _ _ hL, hb, by rw [List.length_map, List.length_map, List.length_map, sizeLine_eq]; have := hw.m; show 1 + ls.length ≤ _; omega, fun p np => ?_⟩
      have sp := same_new (o := .lst ((([wrd (netW zs)] : List Str).map V.str) ++ ((ls.map fun q => rowW q.2).map V.str))) np
      have hp : upd H4 p (.lst ((([wrd (netW zs)] : List Str).map V.str) ++ ((ls.map fun q => rowW q.2).map V.str))) p = some (.lst ((rowsW zs ls).map V.str)) := upd_same
      have lr : (rowsW zs ls).length = ls.length + 1 := by
        unfold rowsW
        rw [List.length_cons, List.length_map]
      have sr := sum_le (rows_long z8 nok l9)
      refine ⟨_, p, rowsW zs ls, rfl, rfl, .inl (SqL.of hp), ?_, ?_⟩
      · have := hw.m
        have e1 : (Str.ofString "\n").length = 1 := by decide +kernel
        rw [e1]
        omega
      · exact k _ ((s03.trans s4).trans sp)
/-- read_net(text) -/
def spReadNet (C : Addr) : Sp := fun vs H Q _ => ∃ (zs : List Str) (ls : List (Addr × List Key)), vs = [.str (pageW zs ls)] ∧ RtOk zs ∧ zs.Pairwise tLt ∧ (∀ q ∈ ls, Lk9 zs q.2) ∧ (∀ q ∈ ls, LkOk zs q.2) ∧ ls.Pairwise (fun p q => pLt p.2 q.2) ∧ ls.length ≤ 16 ∧
  ∀ (n r l : Addr) (ls' : List (Addr × List Key)) (H' : Hp), Same H H' → NetW C H' n r l zs ls' → ls'.map (·.2) = ls.map (·.2) → Q (.ref n) H'
theorem ok_read_net (T : Txt K mg ca ia fa fd fi) : FnOk P w K mg base CX0 8 (fa 29) (fd 29) ["text"] (spReadNet (ca 20)) := by
  have G_rows_of := ok_rows_of (P := P) (w := w) (base := base) T
  have G_net_parts := ok_net_parts (P := P) (w := w) (base := base) T
  have G_m_init := ok_init (P := P) (w := w) (base := base) T
  refine T.F_read_net.ok sc_read_net (fun vs H Q E h => ?_) (fun cdv A outer s H vs Q E hr h => ?_)
  · obtain ⟨zs, ls, rfl, _⟩ := h
    rfl
  · obtain ⟨zs, ls, rfl, rt, pw, l9, lo, up, few, k⟩ := h
    refine ⟨_, (pss_cons (ps_asg (pe_call G_net_parts (hr.mono (by decide)) rfl T.g_net_parts T.k_net_parts T.b_net_parts .nil pass0 (pa_cons (pe_call G_rows_of (hr.mono (by decide)) rfl T.g_rows_of T.k_rows_of T.b_rows_of .nil pass0 (pa_cons (pv 0) pa_nil)) pa_nil)) (pg_tup rfl (pgs_cons (pg_name (i := 1) sc_read_net.nd rfl (Or.inl rfl)) (pgs_cons (pg_name (i := 2) sc_read_net.nd rfl (Or.inl rfl)) pgs_nil))))
      (pss_one (ps_ret (pe_make T.M_Net G_m_init (hr.mono (by decide)) rfl T.g_Net T.b_m_init .nil passL (pa_cons (pv 1) (pa_cons (pv 2) pa_nil)))))), ?_⟩
    refine ⟨_, rfl, zs, ls, rfl, rt.2.2, rt.2.1, l9, few, fun R H1 s1 hR => ⟨R, zs, ls, rfl, hR, rt.2.2, rt.2.1, l9, few, fun t r l ls' H2 s2 ht hr2 hl el em => ?_⟩⟩
    refine ⟨t, _, rfl, SqT.of ht, rfl, _, _, rfl, _, _, rfl, rfl, ?_⟩
    have key : ∀ q ∈ ls', ∃ u ∈ ls, u.2 = q.2 := fun q hq => by
      have m : q.2 ∈ ls'.map (·.2) := List.mem_map.mpr ⟨q, hq, rfl⟩
      rw [em] at m
      obtain ⟨u, hu, e⟩ := List.mem_map.mp m
      exact ⟨u, hu, e⟩
    have len' : ls'.length = ls.length := by
      have h := congrArg List.length em
      rw [List.length_map, List.length_map] at h
      exact h
    have lks : Lks H2 zs l ls' := ⟨hl, fun q hq => ⟨el q hq, let ⟨u, hu, e⟩ := key q hq; e ▸ lo u hu⟩, by
      have h : (ls.map (·.2)).Pairwise fun p q => pLt p q := by
        rw [List.pairwise_map]
        exact up
      rw [← em, List.pairwise_map] at h
      exact h, by omega⟩
    refine ⟨_, rfl, _, rfl, ?_⟩
    refine mk_net hr2 (fun z hz => by have := (rt.2.2 z hz).2.1; omega) (by have := rt.2.1; omega) pw lks (fun _ n H3 nn s3 no => ?_) (fun n => absurd ⟨rt, by omega⟩ n)
    exact k n r l ls' H3 ((s1.trans s2).trans s3) ⟨no, s3 _ _ hr2, rt, pw, lks.same s3, by omega⟩ em
end
end Toy
set_option Elab.async false
set_option linter.all false
set_option maxRecDepth 100000
set_option maxHeartbeats 8000000
namespace Toy
open PySem L2 Q RZ D7 TL
/-! ### nets that are alike; worlds as data -/
abbrev kTk (k : List Key) : PyData := .tuple (k.map keyD)
abbrev rtD (zs : List Str) : PyData := .tuple (zs.map PyData.str)
abbrev lkD (ls : List (Addr × List Key)) : PyData := .tuple ((ls.map (·.2)).map kTk)
theorem lay_strs : ∀ {zs : List Str}, (∀ z ∈ zs, Low z) → PyData.canLayAll0 (zs.map PyData.str) = true ∧ PyData.depthAll (zs.map PyData.str) = 0
  | [], _ => ⟨rfl, rfl⟩
  | z :: zs, h => by
    obtain ⟨i1, i2⟩ := lay_strs (zs := zs) fun y hy => h y (List.mem_cons_of_mem _ hy)
    rw [List.map_cons]
    simp only [PyData.canLayAll0, PyData.depthAll, i1, i2, PyData.canLay0, PyData.depth, low_ok (h z List.mem_cons_self)]
    exact ⟨rfl, rfl⟩
theorem lay_links : ∀ {kk : List (List Key)}, (∀ k ∈ kk, ∃ a b x y, k = [.inr a, .inr b, .inl x, .inl y] ∧ Low a ∧ Low b) → PyData.canLayAll0 (kk.map kTk) = true ∧ PyData.depthAll (kk.map kTk) ≤ 1
  | [], _ => ⟨rfl, Nat.zero_le _⟩
  | k :: kk, h => by
    obtain ⟨i1, i2⟩ := lay_links (kk := kk) fun y hy => h y (List.mem_cons_of_mem _ hy)
    obtain ⟨a, b, x, y, rfl, la, lb⟩ := h k List.mem_cons_self
    rw [List.map_cons]
    have e : PyData.canLay0 (kTk [.inr a, .inr b, .inl x, .inl y]) = true ∧ PyData.depth (kTk [.inr a, .inr b, .inl x, .inl y]) = 1 := by
      simp [kTk, keyD, PyData.canLay0, PyData.canLayAll0, PyData.depth, PyData.depthAll, low_ok la, low_ok lb]
    simp only [PyData.canLayAll0, PyData.depthAll, i1, e.1, e.2]
    exact ⟨rfl, by omega⟩
section
variable {K : PySem.W.Frag} {H : Hp} {N : Nat} {wl r l : Addr} {zs : List Str} {ls : List (Addr × List Key)}
theorem dp_strs : ∀ zs : List Str, DpAll K H (zs.map V.str) (zs.map PyData.str)
  | [] => .nil
  | z :: zs => .cons (.str z) (dp_strs zs)
theorem dd_strs : ∀ zs : List Str, DdAll K H (zs.map V.str) (zs.map PyData.str)
  | [] => .nil
  | z :: zs => .cons (.str z) (dd_strs zs)
theorem dp_keys : ∀ k : List Key, DpAll K H (k.map kV) (k.map keyD)
  | [] => .nil
  | .inl i :: k => .cons (.int i) (dp_keys k)
  | .inr z :: k => .cons (.str z) (dp_keys k)
theorem dd_keys : ∀ k : List Key, DdAll K H (k.map kV) (k.map keyD)
  | [] => .nil
  | .inl i :: k => .cons (.int i) (dd_keys k)
  | .inr z :: k => .cons (.str z) (dd_keys k)
theorem dp_links : ∀ {ls : List (Addr × List Key)}, (∀ q ∈ ls, H q.1 = some (.tup (q.2.map kV))) → DpAll K H (ls.map fun q => V.ref q.1) ((ls.map (·.2)).map kTk)
  | [], _ => .nil
  | q :: ls, h => .cons (.tup (SqT.of (h q List.mem_cons_self)) (dp_keys q.2)) (dp_links fun p hp => h p (List.mem_cons_of_mem _ hp))
theorem dd_links : ∀ {ls : List (Addr × List Key)}, (∀ q ∈ ls, H q.1 = some (.tup (q.2.map kV))) → DdAll K H (ls.map fun q => V.ref q.1) ((ls.map (·.2)).map kTk)
  | [], _ => .nil
  | q :: ls, h => .cons (.tup (SqT.of (h q List.mem_cons_self)) (dd_keys q.2)) (dd_links fun p hp => h p (List.mem_cons_of_mem _ hp))
end
section
variable {K : PySem.W.Frag} {C : Addr} {H : Hp} {n r l : Addr} {zs : List Str} {ls : List (Addr × List Key)}
theorem NetW.low4 (h : NetW C H n r l zs ls) : ∀ k ∈ ls.map (·.2), ∃ a b x y, k = [.inr a, .inr b, .inl x, .inl y] ∧ Low a ∧ Low b := fun k hk => by
  obtain ⟨q, hq, rfl⟩ := List.mem_map.mp hk
  obtain ⟨_, a, b, x, y, e, ha, hb, _⟩ := h.lk.el q hq
  exact ⟨a, b, _, _, e, h.low ha, h.low hb⟩
theorem NetW.rp (h : NetW C H n r l zs ls) : Dp K H (.ref r) (rtD zs) := .tup (SqT.of h.rt) (dp_strs zs)
theorem NetW.lp (h : NetW C H n r l zs ls) : Dp K H (.ref l) (lkD ls) := .tup (SqT.of h.lk.at_) (dp_links fun q hq => (h.lk.el q hq).1)
theorem NetW.rs (h : NetW C H n r l zs ls) : SeqAt.shaped (rtD zs) = true := by
  obtain ⟨e1, e2⟩ := lay_strs fun z hz => h.low hz
  simp only [SeqAt.shaped, rtD, PyData.canLay0, PyData.depth, e1, e2]
  decide
theorem NetW.lsh (h : NetW C H n r l zs ls) : SeqAt.shaped (lkD ls) = true := by
  obtain ⟨e1, e2⟩ := lay_links h.low4
  simp only [SeqAt.shaped, lkD, PyData.canLay0, PyData.depth, e1, Bool.true_and]
  exact decide_eq_true (by omega)
theorem NetW.rv (h : NetW C H n r l zs ls) : PyData.eqv (rtD zs) (rtD zs) = true := SeqAt.eqv_refl _ (by
  obtain ⟨e1, e2⟩ := lay_strs fun z hz => h.low hz
  simp only [rtD, PyData.canLay0, e1])
theorem NetW.lv (h : NetW C H n r l zs ls) : PyData.eqv (lkD ls) (lkD ls) = true := SeqAt.eqv_refl _ (by
  obtain ⟨e1, e2⟩ := lay_links h.low4
  simp only [lkD, PyData.canLay0, e1])
end
/-- made == another one, alike -/
def spEqN (C : Addr) : Sp := fun vs H Q _ => ∃ (n m r l r' l' : Addr) (zs : List Str) (ls ls' : List (Addr × List Key)), vs = [.ref n, .ref m] ∧ NetW C H n r l zs ls ∧ NetW C H m r' l' zs ls' ∧ ls.map (·.2) = ls'.map (·.2) ∧ Q (.bl true) H
section
variable {P : Program} {w : World} {K : PySem.W.Frag} {mg : Str → Option Value} {base : Heap} {ca ia fa : Nat → Addr} {fd fi : Nat → FuncData}
theorem Txt.insN (T : Txt K mg ca ia fa fd fi) {H : Hp} {n r l : Addr} (h : NetO (ca 20) H n r l) : TyX K H (.ref n) (.ref (ca 20)) := by
  obtain ⟨dx, e⟩ := h
  exact .base (.ins e T.cl_Net T.H_Net T.hn T.ht T.O_Net)
theorem ok_eqN (T : Txt K mg ca ia fa fd fi) : FnOk P w K mg base CX0 3 (ia 103) (fi 103) ["self", "other"] (spEqN (ca 20)) := by
  have G_m_routers := ok_m_routers (P := P) (w := w) (base := base) T
  have G_m_links := ok_m_links (P := P) (w := w) (base := base) T
  obtain ⟨pr, hp_routers⟩ := T.P_routers
  obtain ⟨pl, hp_links⟩ := T.P_links
  refine T.F_m_u_eq_.ok sc_m_u_eq_ (fun vs H Q E h => ?_) (fun cdv A outer s H vs Q E hr h => ?_)
  · obtain ⟨n, m, r, l, r', l', zs, ls, ls', rfl, _⟩ := h
    rfl
  · obtain ⟨n, m, r, l, r', l', zs, ls, ls', rfl, hn, hm, e, k⟩ := h
    refine ⟨_, (pss_one (ps_ret (pe_and (pe_callB call_isi (by rfl) T.n_isinstance (by decide +kernel) (pa_cons (pv 1) (pa_cons (pe_glob rfl T.g_Net (v := .ref (ca 20)) rfl) pa_nil))) (pe_and (pe_cmpR (op_eqD hr.units) (pe_prop (pv 0) T.cl_Net hp_routers G_m_routers (hr.mono (by decide)) T.b_m_routers .nil pass0 rfl) (pe_prop (pv 1) T.cl_Net hp_routers G_m_routers (hr.mono (by decide)) T.b_m_routers .nil pass0 rfl) (nomark _)) (pe_one (pe_cmpR (op_eqD hr.units) (pe_prop (pv 0) T.cl_Net hp_links G_m_links (hr.mono (by decide)) T.b_m_links .nil pass0 rfl) (pe_prop (pv 1) T.cl_Net hp_links G_m_links (hr.mono (by decide)) T.b_m_links .nil pass0 rfl) (nomark _))))))), ?_⟩
    have kit : PySem.W.kitOne K (.ref (ca 20)) (.ref (ca 20)) = some true := by
      unfold PySem.W.kitOne
      rw [if_pos (by simp)]
    refine ⟨_, rfl, _, _, _, _, _, rfl, .own _, T.insN hm.net, kit, _, rfl, ?_⟩
    rw [if_pos rfl]
    obtain ⟨dx, en⟩ := hn.net
    obtain ⟨dy, em⟩ := hm.net
    refine ⟨_, rfl, n, dx, _, rfl, en, n, dx, _, _, rfl, en, rfl, _, rfl, m, dy, _, rfl, em, m, dy, _, _, rfl, em, rfl, rtD zs, rtD zs, hn.rp, hm.rp, hn.rs, hn.rs, _, rfl, ?_⟩
    rw [hn.rv, if_pos rfl]
    refine ⟨_, rfl, n, dx, _, rfl, en, n, dx, _, _, rfl, en, rfl, _, rfl, m, dy, _, rfl, em, m, dy, _, _, rfl, em, rfl, lkD ls, lkD ls', hn.lp, hm.lp, hn.lsh, hm.lsh, ?_⟩
    have e2 : lkD ls' = lkD ls := by
      unfold lkD
      rw [e]
    rw [e2, hn.lv]
    exact k
end
/-- small data -/
structure Sm (n k : Nat) (d : PyData) : Prop where
  ok : d.showable = true
  len : d.shown.length ≤ n
  dp : d.depth ≤ k
theorem Sm.mono {n k n' k' : Nat} {d : PyData} (h : Sm n k d) (a : n ≤ n') (b : k ≤ k') : Sm n' k' d := ⟨h.ok, Nat.le_trans h.len a, Nat.le_trans h.dp b⟩
theorem sm_all {n k : Nat} : ∀ {xs : List PyData}, (∀ x ∈ xs, Sm n k x) →
    PyData.showableAll xs = true ∧ piled (PyData.shownAll xs) ≤ xs.length * (n + 2) ∧ PyData.depthAll xs ≤ k
  | [], _ => ⟨rfl, Nat.zero_le _, Nat.zero_le _⟩
  | x :: xs, h => by
    obtain ⟨h1, h2, h3⟩ := sm_all (xs := xs) fun y m => h y (List.mem_cons_of_mem _ m)
    obtain ⟨q1, q2, q3⟩ := h x (List.mem_cons_self ..)
    refine ⟨?_, ?_, ?_⟩
    · simp only [PyData.showableAll, q1, h1, Bool.and_self]
    · simp only [PyData.shownAll, piled_cons, List.length_cons, Nat.succ_mul]
      omega
    · simp only [PyData.depthAll]
      omega
theorem sm_tuple {n k : Nat} {xs : List PyData} (h : ∀ x ∈ xs, Sm n k x) : Sm (xs.length * (n + 2) + 2) (k + 1) (.tuple xs) := by
  obtain ⟨h1, h2, h3⟩ := sm_all h
  refine ⟨?_, ?_, ?_⟩
  · simp only [PyData.showable, h1]
  · simp only [PyData.shown]
    exact Nat.le_trans (fmt_text _) (by omega)
  · simp only [PyData.depth]
    omega
theorem list_tuple (ts : List Str) : (listText ts).length ≤ piled ts + 3 := by
  have h := listText_len_le ts
  have e : ∀ l : List Str, (l.map (·.length)).sum + 2 * l.length = piled l := fun l => by
    induction l with
    | nil => rfl
    | cons a l ih =>
      rw [List.map_cons, List.sum_cons, List.length_cons, piled_cons, ← ih]
      omega
  rw [e] at h
  exact h
theorem sm_list {n k : Nat} {xs : List PyData} (h : ∀ x ∈ xs, Sm n k x) : Sm (xs.length * (n + 2) + 3) (k + 1) (.list xs) := by
  obtain ⟨h1, h2, h3⟩ := sm_all h
  refine ⟨?_, ?_, ?_⟩
  · simp only [PyData.showable, h1]
  · simp only [PyData.shown]
    exact Nat.le_trans (list_tuple _) (by omega)
  · simp only [PyData.depth]
    omega
/-- a short text of plain signs -/
abbrev Tc (z : Str) : Prop := z.length ≤ 10 ∧ ∀ c ∈ z.cps.toList, c < 128
theorem sm_tc {z : Str} (h : Tc z) : Sm 110 3 (.str z) := by
  refine ⟨rfl, ?_, ?_⟩
  · have q := PySem.StrLaws.reprText_len z fun c hc => by have := h.2 c hc; omega
    simp only [PyData.shown]
    have := h.1
    omega
  · simp only [PyData.depth]
    omega
theorem sm_nat {n : Nat} (h : n < 1000000000) : Sm 20 3 (.int (n : Int)) := by
  refine ⟨?_, ?_, ?_⟩
  · unfold PyData.showable
    rw [decide_eq_true_eq, Int.natAbs_natCast]
    by_cases z : n = 0
    · subst z
      decide
    · exact (Nat.log2_lt z).mpr (Nat.lt_trans h (by decide +kernel))
  · unfold PyData.shown
    have e : (toString (n : Int) : String) = n.repr := rfl
    rw [e, PySem.ofString_length]
    exact Nat.le_trans ((Nat.length_repr_le_iff (k := 9) (by decide)).mpr h) (by decide)
  · unfold PyData.depth
    decide
/-- a world: its routers, its links, lengths up to N -/
structure Wd (H : Hp) (N : Nat) (wl r l : Addr) (zs : List Str) (ls : List (Addr × List Key)) : Prop where
  wl_ : H wl = some (.tup [.ref r, .ref l])
  r_ : H r = some (.tup (zs.map V.str))
  l_ : H l = some (.tup (ls.map fun q => V.ref q.1))
  el : ∀ q ∈ ls, H q.1 = some (.tup (q.2.map kV)) ∧ ∃ (a b : Str) (x y : Nat), q.2 = linkK a b x y ∧ a ∈ zs ∧ b ∈ zs ∧ tLt a b ∧ 1 ≤ x ∧ x ≤ N ∧ 1 ≤ y ∧ y ≤ N
  up : ls.Pairwise (fun q r => ksLt (q.2.take 2) (r.2.take 2) = true)
  few : ls.length ≤ 16
  pw : zs.Pairwise tLt
  nok : ∀ z ∈ zs, NameOk z
  l2 : 2 ≤ zs.length
  l8 : zs.length ≤ 8
section
variable {H H' : Hp} {N M : Nat} {wl r l : Addr} {zs : List Str} {ls : List (Addr × List Key)}
theorem Wd.same (h : Wd H N wl r l zs ls) (s : Same H H') : Wd H' N wl r l zs ls :=
  ⟨s _ _ h.wl_, s _ _ h.r_, s _ _ h.l_, fun q hq => ⟨s _ _ (h.el q hq).1, (h.el q hq).2⟩, h.up, h.few, h.pw, h.nok, h.l2, h.l8⟩
theorem Wd.more (h : Wd H N wl r l zs ls) (le : N ≤ M) : Wd H M wl r l zs ls :=
  ⟨h.wl_, h.r_, h.l_, fun q hq => by
    obtain ⟨h1, a, b, x, y, e, h2, h3, h4, h5, h6, h7, h8⟩ := h.el q hq
    exact ⟨h1, a, b, x, y, e, h2, h3, h4, h5, Nat.le_trans h6 le, h7, Nat.le_trans h8 le⟩, h.up, h.few, h.pw, h.nok, h.l2, h.l8⟩
theorem Wd.lks (h : Wd H N wl r l zs ls) : Lks H zs l ls := by
  refine ⟨h.l_, fun q hq => ?_, h.up, by have := h.few; omega⟩
  obtain ⟨z, a, b, x, y, e2, ha, hb, ab, x1, _, y1, _⟩ := h.el q hq
  exact ⟨z, a, b, (x : Int), (y : Int), e2, ha, hb, ab, by omega, by omega⟩
theorem Wd.ix (h : Wd H N wl r l zs ls) {K : PySem.W.Frag} {Q : VK} (i : Nat) {v : V} (e : ([V.ref r, V.ref l] : List V)[i]? = some v) (q : Q v H) : rIx K (.ref wl) (.int (i : Int)) H Q := .inr (.inl ⟨wl, _, (i : Int), v, rfl, rfl, SqT.of h.wl_, atI_nat e, q⟩)
end
theorem Wd.but {p : Addr} {H H' : Hp} {B N : Nat} {wl r l : Addr} {zs : List Str} {ls : List (Addr × List Key)} (h : Wd H N wl r l zs ls) (hp : Pot H p B) (b : But p H H') : Wd H' N wl r l zs ls :=
  ⟨b _ _ (tup_notp h.wl_ hp) h.wl_, b _ _ (tup_notp h.r_ hp) h.r_, b _ _ (tup_notp h.l_ hp) h.l_, fun q hq => ⟨b _ _ (tup_notp (h.el q hq).1 hp) (h.el q hq).1, (h.el q hq).2⟩, h.up, h.few, h.pw, h.nok, h.l2, h.l8⟩
/-- _law_made(world) -/
def spMade (C : Addr) : Sp := fun vs H Q _ => ∃ (N : Nat) (wl r l : Addr) (zs : List Str) (ls : List (Addr × List Key)), vs = [.ref wl] ∧ Wd H N wl r l zs ls ∧ ∀ n H', Same H H' → NetW C H' n r l zs ls → Q (.ref n) H'
section
variable {P : Program} {w : World} {K : PySem.W.Frag} {mg : Str → Option Value} {base : Heap} {ca ia fa : Nat → Addr} {fd fi : Nat → FuncData}
theorem ok_made (T : Txt K mg ca ia fa fd fi) : FnOk P w K mg base CX0 8 (fa 44) (fd 44) ["_law_world_here"] (spMade (ca 20)) := by
  have G_m_init := ok_init (P := P) (w := w) (base := base) T
  refine T.F_l_made.ok sc_l_made (fun vs H Q E h => ?_) (fun cdv A outer s H vs Q E hr h => ?_)
  · obtain ⟨N, wl, r, l, zs, ls, rfl, _⟩ := h
    rfl
  · obtain ⟨N, wl, r, l, zs, ls, rfl, hw, k⟩ := h
    refine ⟨_, (pss_one (ps_ret (pe_make T.M_Net G_m_init (hr.mono (by decide)) rfl T.g_Net T.b_m_init .nil passL (pa_cons (pe_ix ix_seq (pv 0) pe_int (fun _ _ => rfl)) (pa_cons (pe_ix ix_seq (pv 0) pe_int (fun _ _ => rfl)) pa_nil))))), ?_⟩
    refine ⟨_, rfl, hw.ix 0 rfl ⟨_, rfl, hw.ix 1 rfl ?_⟩⟩
    have ok : RtOk zs := ⟨hw.l2, hw.l8, hw.nok⟩
    refine mk_net hw.r_ (fun z hz => by have := (hw.nok z hz).2.1; omega) (by have := hw.l8; omega) hw.pw hw.lks (fun _ n H' nn s e => k n H' s ⟨e, s _ _ hw.r_, ok, hw.pw, hw.lks.same s, hw.few⟩) (fun n => absurd ⟨ok, hw.few⟩ n)
end
end Toy
set_option Elab.async false
set_option linter.all false
set_option maxRecDepth 100000
set_option maxHeartbeats 8000000
namespace Toy
open PySem L2 Q RZ D7 TL
theorem Wd.l9 {H : Hp} {N : Nat} {wl r l : Addr} {zs : List Str} {ls : List (Addr × List Key)} (h : Wd H N wl r l zs ls) (hN : N < 1000000000) : ∀ q ∈ ls, Lk9 zs q.2 := fun q hq => by
  obtain ⟨_, a, b, x, y, e, ha, hb, _, x1, xN, y1, yN⟩ := h.el q hq
  exact ⟨a, b, x, y, e, h.nok a ha, h.nok b hb, x1, y1, by omega, by omega⟩
/-- _law_net_page(world) -/
def spPage : Sp := fun vs H Q _ => ∃ (N : Nat) (wl r l : Addr) (zs : List Str) (ls : List (Addr × List Key)), vs = [.ref wl] ∧ Wd H N wl r l zs ls ∧ N < 1000000000 ∧ ∀ H', Same H H' → Q (.str (pageW zs ls)) H'
section
variable {P : Program} {w : World} {K : PySem.W.Frag} {mg : Str → Option Value} {base : Heap} {ca ia fa : Nat → Addr} {fd fi : Nat → FuncData}
theorem ok_page (T : Txt K mg ca ia fa fd fi) : FnOk P w K mg base CX0 1 (fa 45) (fd 45) ["_law_world_here"] spPage := by
  refine T.F_l_net_page.ok sc_l_net_page (fun vs H Q E h => ?_) (fun cdv A outer s H vs Q E hr h => ?_)
  · obtain ⟨N, wl, r, l, zs, ls, rfl, _⟩ := h
    rfl
  · obtain ⟨N, wl, r, l, zs, ls, rfl, hw, hN, k⟩ := h
    refine ⟨_, (pss_cons (ps_set (i := 1) sc_l_net_page.nd rfl (Or.inl rfl) (pe_lst (pa_cons (pe_op op_add_str pe_str (pe_join pe_str (pe_ix ix_seq (pv 0) pe_int (fun _ _ => rfl)))) pa_nil)))
      (pss_cons (ps_expr (pe_bm PySem.F.plainAttrs_list PySem.F.slot_list_extend PySem.F.type_list_extend mt_extend (pv 1) (pa_cons (pe_lc (own := [("_law_a", 2), ("_law_b", 3), ("_law_there", 4), ("_law_back", 5)]) (g := (gTup K 4 (gCons (gName 2) (gCons (gName 3) (gCons (gName 4) (gCons (gName 5) gNil)))))) (tt := tYes) rfl sc_l_net_page.nd (pi_tup (pe_ix ix_seq (pv 0) pe_int (fun _ _ => rfl))) (blkOk_by (own := [("_law_a", 2), ("_law_b", 3), ("_law_there", 4), ("_law_back", 5)]) (N := N_l_net_page) (sc := defScope s_l_net_page) (by decide +kernel)) (fun _ _ _ _ _ => (pg_tup rfl (pgs_cons (pg_name (i := 2) sc_l_net_page.nd rfl (Or.inl rfl)) (pgs_cons (pg_name (i := 3) sc_l_net_page.nd rfl (Or.inl rfl)) (pgs_cons (pg_name (i := 4) sc_l_net_page.nd rfl (Or.inl rfl)) (pgs_cons (pg_name (i := 5) sc_l_net_page.nd rfl (Or.inl rfl)) pgs_nil)))))) (fun _ _ _ _ _ => pts_nil) (fun _ _ _ _ _ => by exact (pe_op op_add_str (pe_op op_add_str (pe_op op_add_str (pe_op op_add_str (pe_op op_add_str (pe_op op_add_str (pe_op op_add_str pe_str (pv 2)) pe_str) (pv 3)) pe_str) (pe_callTy call_str_int (by rfl) T.n_str (by decide +kernel) (pa_cons (pv 4) pa_nil))) pe_str) (pe_callTy call_str_int (by rfl) T.n_str (by decide +kernel) (pa_cons (pv 5) pa_nil))))) pa_nil)))
      (pss_one (ps_ret (pe_join pe_str (pv 1)))))), ?_⟩
    have z8 := hw.l8
    have l2 := hw.l2
    have l9 := hw.l9 hN
    have nz : ∀ z ∈ zs, z.length ≤ 8 := fun z hz => (hw.nok z hz).2.1
    have sm := sum_le nz
    have wl9 := wrd_len nz
    have l8 : (Str.ofString "routers ").length = 8 := by decide +kernel
    have e1 : (Str.ofString " ").length = 1 := by decide +kernel
    refine ⟨⟨_, rfl⟩, _, rfl, hw.ix 0 rfl ⟨_, r, zs, rfl, rfl, .inr (SqT.of hw.r_), by rw [e1]; omega, ?_⟩⟩
    have ew : tx "routers " ++ wrd zs = wrd (netW zs) := (wrd_net (fun z => by rw [z] at l2; exact absurd l2 (by decide))).symm
    have wl8 : (wrd zs).length ≤ 72 := by
      refine Nat.le_trans wl9 ?_
      have := Nat.mul_le_mul_right 9 z8
      omega
    refine ⟨_, _, rfl, rfl, by rw [l8, sizeLine_eq]; show 8 + (wrd zs).length ≤ _; omega, by show 1 ≤ sizeLine; decide, fun L nL => ?_⟩
    have eq : upd H L (.lst [.str (Str.ofString "routers " ++ Txt.join (Str.ofString " ") zs)]) = upd H L (.lst [.str (wrd (netW zs))]) := by rw [← ew]; rfl
    rw [eq]
    have sL := same_new (o := .lst [.str (wrd (netW zs))]) nL
    have hL : upd H L (.lst [.str (wrd (netW zs))]) L = some (.lst (([wrd (netW zs)] : List Str).map V.str)) := upd_same
    generalize upd H L (.lst [.str (wrd (netW zs))]) = H1 at sL hL ⊢
    have hw1 := hw.same sL
    refine ⟨_, rfl, .inl ⟨rfl, _, SqL.of hL⟩, _, rfl, hw1.ix 1 rfl ⟨l, rfl, ⟨_, SqT.of hw1.l_⟩, fun D nD => ?_⟩⟩
    refine lc_it (walk_tup (xs := ls.map fun q => V.ref q.1)) (fun i H' => H' D = some (.lst (((ls.take i).map fun q => rowW q.2).map V.str)) ∧ Same H1 H') ⟨upd_same, same_new nD⟩ (fun i H' _ q => SqT.of (q.2 _ _ hw1.l_)) ?_ ?_
    · rintro i x Ha Hb hi ⟨hb, sm⟩ ⟨rfl, hx⟩
      obtain ⟨q, hq, rfl⟩ := at_map hx
      have mq := List.mem_of_getElem? hq
      obtain ⟨a, b, x, y, e, na, nb, x1, y1, x9, y9⟩ := l9 q mq
      have hq1 := sm _ _ (hw1.el q mq).1
      rw [e] at hq1
      have lx := (num_len x9).2
      have ly := (num_len y9).2
      have la := na.2.1
      have lb := nb.2.1
      have l5 : (Str.ofString "link ").length = 5 := by decide +kernel
      have lnx : (Str.ofString (toString (x : Int))).length ≤ 9 := lx
      have lny : (Str.ofString (toString (y : Int))).length ≤ 9 := ly
      refine ⟨q.1, _, rfl, SqT.of hq1, rfl, _, _, rfl, _, _, rfl, _, _, rfl, _, _, rfl, rfl, ?_⟩
      dsimp only [tYes]
      rw [if_pos rfl]
      refine ⟨rfl, ?_⟩
      have e1' : (Str.ofString " ").length = 1 := e1
      refine ⟨_, rfl, _, _, rfl, rfl, by simp only [lenA, sizeLine_eq]; omega, _, _, rfl, rfl, by simp only [lenA, sizeLine_eq]; omega, _, rfl, _, _, rfl, rfl, by simp only [lenA, sizeLine_eq]; omega, _, _, rfl, rfl, by simp only [lenA, sizeLine_eq]; omega, _, rfl, _, rfl, num_log x9, _, _, rfl, rfl, by simp only [lenA, sizeLine_eq]; omega, _, _, rfl, rfl, by simp only [lenA, sizeLine_eq]; omega, _, rfl, _, rfl, num_log y9, _, _, rfl, rfl, by simp only [lenA, sizeLine_eq]; omega, ?_⟩
      rw [List.length_map] at hi
      have few := hw.few
      refine ⟨_, hb, by rw [List.length_map, List.length_map, List.length_take, sizeLine_eq]; omega, ?_, Same.upd_at sm nD⟩
      rw [upd_same, List.take_add_one, hq, List.map_append, List.map_append]
      have er : rowW q.2 = Str.ofString "link " ++ a ++ Str.ofString " " ++ b ++ Str.ofString " " ++ Str.ofString (toString (x : Int)) ++ Str.ofString " " ++ Str.ofString (toString (y : Int)) := by
        rw [e, row_eq, wrd_link]
        rfl
      rw [← er]
      rfl
    · rintro H4 ⟨hb, s4⟩
      rw [List.length_map, List.take_length] at hb
      have hL4 := s4 _ _ hL
      have LD : D ≠ L := fun z => by rw [z, hL] at nD; cases nD
      refine ⟨L, D, _, _, rfl, rfl, hL4, hb, by rw [List.length_map, List.length_map, List.length_map, sizeLine_eq]; have := hw.few; show 1 + ls.length ≤ _; omega, nxt ?_⟩
      have hp : upd H4 L (.lst ((([wrd (netW zs)] : List Str).map V.str) ++ ((ls.map fun q => rowW q.2).map V.str))) L = some (.lst ((rowsW zs ls).map V.str)) := upd_same
      have lr : (rowsW zs ls).length = ls.length + 1 := by
        unfold rowsW
        rw [List.length_cons, List.length_map]
      have sr := sum_le (rows_long z8 hw.nok l9)
      have sf : Same H (upd H4 L (.lst ((([wrd (netW zs)] : List Str).map V.str) ++ ((ls.map fun q => rowW q.2).map V.str)))) := Same.upd_at (fun c o e => s4 _ _ (sL _ _ e)) nL
      refine ⟨⟨_, rfl⟩, _, rfl, _, L, rowsW zs ls, rfl, rfl, .inl (SqL.of hp), ?_, ?_⟩
      · have := hw.few
        have e1 : (Str.ofString "\n").length = 1 := by decide +kernel
        rw [e1]
        omega
      · exact k _ sf
end
end Toy
set_option Elab.async false
set_option linter.all false
set_option maxRecDepth 100000
set_option maxHeartbeats 8000000
namespace Toy
open PySem L2 Q RZ D7 TL
theorem seqN {a u : TS} {D : Ends} {σ : L2.St} {H : Hp} (Pn : L2.St → Hp → Prop) (ha : ∀ D' : Ends, (∀ σ' H', Pn σ' H' → D'.nx σ' H') → a D' σ H) (hu : ∀ σ' H', Pn σ' H' → u D σ' H') : tSeq a u D σ H := ha _ hu
/-- the world that the text is made of -/
structure Wn (p : Addr) (H0 H : Hp) (B : Nat) (wl : Addr) : Prop where
  ex : ∃ (r l : Addr) (zs : List Str) (ls : List (Addr × List Key)), Wd H 999999999 wl r l zs ls
  bu : But p H0 H
  po : Pot H p B
theorem world_shows {H : Hp} {N : Nat} {wl r l : Addr} {zs : List Str} {ls : List (Addr × List Key)} (h : Wd H N wl r l zs ls) (hN : N < 1000000000) : Shows (.tuple [rtD zs, lkD ls]) := by
  have nm : ∀ z ∈ zs, Sm 110 3 (.str z) := fun z hz => by
    have n := h.nok z hz
    exact sm_tc ⟨by have := n.2.1; omega, fun c hc => by have := (n.2.2 c hc).2; omega⟩
  have l8 := h.l8
  have few := h.few
  have s1 : Sm 7300 6 (rtD zs) := (sm_tuple (n := 110) (k := 3) (xs := zs.map PyData.str) fun x hx => by
    obtain ⟨z, hz, rfl⟩ := List.mem_map.mp hx
    exact nm z hz).mono (by rw [List.length_map]; have := Nat.mul_le_mul_right (110 + 2) l8; omega) (by decide)
  have s2 : Sm 7300 6 (lkD ls) := (sm_tuple (n := 450) (k := 4) (xs := (ls.map (·.2)).map kTk) fun x hx => by
    obtain ⟨k, hk, rfl⟩ := List.mem_map.mp hx
    obtain ⟨q, hq, rfl⟩ := List.mem_map.mp hk
    obtain ⟨_, a, b, i, j, e, ha, hb, _, i1, iN, j1, jN⟩ := h.el q hq
    rw [e]
    refine (sm_tuple (n := 110) (k := 3) (xs := [.str a, .str b, .int (i : Int), .int (j : Int)]) fun x hx => ?_).mono (by show 4 * 112 + 2 ≤ 450; decide) (Nat.le_refl _)
    simp only [List.mem_cons, List.not_mem_nil, or_false] at hx
    rcases hx with rfl | rfl | rfl | rfl
    · exact nm a ha
    · exact nm b hb
    · exact (sm_nat (by omega)).mono (by decide) (by decide)
    · exact (sm_nat (by omega)).mono (by decide) (by decide)).mono (by rw [List.length_map, List.length_map]; have := Nat.mul_le_mul_right (450 + 2) few; omega) (by decide)
  have s3 : Sm 20000 7 (.tuple [rtD zs, lkD ls]) := (sm_tuple (n := 7300) (k := 6) fun x hx => by
    simp only [List.mem_cons, List.not_mem_nil, or_false] at hx
    rcases hx with rfl | rfl
    · exact s1
    · exact s2).mono (by show 2 * 7302 + 2 ≤ 20000; decide) (Nat.le_refl _)
  exact ⟨s3.ok, Nat.le_trans s3.len (by decide), Nat.le_trans s3.dp (by decide)⟩
/-- the same pairs with other lengths -/
def Alike (q u : Addr × List Key) : Prop := ∃ (a b : Str) (x y x' y' : Nat), q.2 = linkK a b x y ∧ u.2 = linkK a b x' y' ∧ 1 ≤ x' ∧ x' ≤ 999999999 ∧ 1 ≤ y' ∧ y' ≤ 999999999
inductive AlikeL : List (Addr × List Key) → List (Addr × List Key) → Prop
  | nil : AlikeL [] []
  | snoc {qs us : List (Addr × List Key)} {q u : Addr × List Key} : AlikeL qs us → Alike q u → AlikeL (qs ++ [q]) (us ++ [u])
theorem AlikeL.len {qs us : List (Addr × List Key)} (h : AlikeL qs us) : qs.length = us.length := by
  induction h with
  | nil => rfl
  | snoc _ _ ih => rw [List.length_append, List.length_append, ih]; rfl
theorem AlikeL.pairs {qs us : List (Addr × List Key)} (h : AlikeL qs us) : qs.map (fun q => q.2.take 2) = us.map fun q => q.2.take 2 := by
  induction h with
  | nil => rfl
  | snoc _ a ih =>
    obtain ⟨c, d, x, y, x', y', e1, e2, _⟩ := a
    rw [List.map_append, List.map_append, ih, List.map_singleton, List.map_singleton, e1, e2]
    rfl
theorem AlikeL.of {qs us : List (Addr × List Key)} (h : AlikeL qs us) : ∀ u ∈ us, ∃ q ∈ qs, Alike q u := by
  induction h with
  | nil => intro u hu; cases hu
  | snoc _ a ih =>
    intro u hu
    rcases List.mem_append.mp hu with hu | hu
    · obtain ⟨q, hq, z⟩ := ih u hu
      exact ⟨q, List.mem_append_left _ hq, z⟩
    · rw [List.mem_singleton.mp hu]
      exact ⟨_, List.mem_append_right _ (List.mem_singleton.mpr rfl), a⟩
/-- _law_fine(pot) -/
def spFine : Sp := fun vs H Q _ => ∃ (p : Addr) (B : Nat), vs = [.ref p] ∧ Pot H p B ∧ B < 700000 ∧ ∀ H', But p H H' → Pot H' p (B + 300) → Q (.bl true) H'
section
variable {P : Program} {w : World} {K : PySem.W.Frag} {mg : Str → Option Value} {base : Heap} {ca ia fa : Nat → Addr} {fd fi : Nat → FuncData}
theorem ok_fine (T : Txt K mg ca ia fa fd fi) : FnG P w K mg base CX0 9 (fa 46) (fd 46) ["_law_pot_here"] spFine := by
  have G_l_world := ok_world (P := P) (w := w) (base := base) T
  have G_l_take := ok_take (P := P) (w := w) (base := base) T
  have G_l_of := ok_of (P := P) (w := w) (base := base) T
  have G_l_made := ok_made (P := P) (w := w) (base := base) T
  have G_l_net_page := ok_page (P := P) (w := w) (base := base) T
  have G_show_net := ok_show_net (P := P) (w := w) (base := base) T
  have G_read_net := ok_read_net (P := P) (w := w) (base := base) T
  have G_m_u_eq_ := ok_eqN (P := P) (w := w) (base := base) T
  have G_m_routers := ok_m_routers (P := P) (w := w) (base := base) T
  have G_m_links := ok_m_links (P := P) (w := w) (base := base) T
  obtain ⟨pr, hp_routers⟩ := T.P_routers
  obtain ⟨pl, hp_links⟩ := T.P_links
  refine okG T.F_l_fine sc_l_fine (fun vs H Q E h => ?_) (fun cdv A outer s H vs Q E hgd hr h => ?_)
  · obtain ⟨p, B, rfl, _⟩ := h
    rfl
  · obtain ⟨p, B0, rfl, po, hB, k⟩ := h
    refine ⟨_, (pss_cons (ps_set (i := 1) sc_l_fine.nd rfl (Or.inl rfl) (pe_call G_l_world (hr.mono (by decide)) rfl T.g_l_world T.k_l_world T.b_l_world .nil pass0 (pa_cons (pv 0) (pa_cons pe_int (pa_cons pe_int (pa_cons pe_int pa_nil))))))
      (pss_cons (ps_if (pt_cmpR op_eq (pe_call G_l_take (hr.mono (by decide)) rfl T.g_l_take T.k_l_take T.b_l_take .nil pass0 (pa_cons (pv 0) (pa_cons pe_int pa_nil))) pe_int (nomark _)) (pss_cons (ps_set (i := 2) sc_l_fine.nd rfl (Or.inr rfl) (pe_lst (pa_cons pe_int (pa_cons pe_int (pa_cons pe_int (pa_cons pe_int (pa_cons (pe_op op_pw pe_int pe_int) (pa_cons (pe_op op_add pe_int (pe_call G_l_take (hr.mono (by decide)) rfl T.g_l_take T.k_l_take T.b_l_take .nil pass0 (pa_cons (pv 0) (pa_cons (pe_op op_sub (pe_op op_pw pe_int pe_int) pe_int) pa_nil)))) pa_nil))))))))
      (pss_one (ps_set (i := 1) sc_l_fine.nd rfl (Or.inl rfl) (pe_tup (pa_cons (pe_ix ix_seq (pv 1) pe_int (fun _ _ => rfl)) (pa_cons (pe_callTy call_tuple_of (by rfl) T.n_tuple (by decide +kernel) (pa_cons (pe_lc (own := [("_law_a", 3), ("_law_b", 4), ("_law_there", 5), ("_law_back", 6)]) (g := (gTup K 4 (gCons (gName 3) (gCons (gName 4) (gCons (gName 5) (gCons (gName 6) gNil)))))) (tt := tYes) rfl sc_l_fine.nd (pi_tup (pe_ix ix_seq (pv 1) pe_int (fun _ _ => rfl))) (blkOk_by (own := [("_law_a", 3), ("_law_b", 4), ("_law_there", 5), ("_law_back", 6)]) (N := N_l_fine) (sc := defScope s_l_fine) (by decide +kernel)) (fun _ _ _ _ _ => (pg_tup rfl (pgs_cons (pg_name (i := 3) sc_l_fine.nd rfl (Or.inl rfl)) (pgs_cons (pg_name (i := 4) sc_l_fine.nd rfl (Or.inl rfl)) (pgs_cons (pg_name (i := 5) sc_l_fine.nd rfl (Or.inl rfl)) (pgs_cons (pg_name (i := 6) sc_l_fine.nd rfl (Or.inl rfl)) pgs_nil)))))) (fun _ _ _ _ _ => pts_nil) (fun _ _ _ _ _ => by exact (pe_tup (pa_cons (pv 3) (pa_cons (pv 4) (pa_cons (pe_call G_l_of (hr.mono (by decide)) rfl T.g_l_of T.k_l_of T.b_l_of .nil pass0 (pa_cons (pv 0) (pa_cons (pv 2) pa_nil))) (pa_cons (pe_call G_l_of (hr.mono (by decide)) rfl T.g_l_of T.k_l_of T.b_l_of .nil pass0 (pa_cons (pv 0) (pa_cons (pv 2) pa_nil))) pa_nil))))))) pa_nil)) pa_nil)))))) pss_nil)
      (pss_cons (ps_par (i := 7) (j := 8) (by rfl) sc_l_fine.nd rfl rfl (by decide) rfl rfl (pa_cons (pe_call G_l_made (hr.mono (by decide)) rfl T.g_l_made T.k_l_made T.b_l_made .nil pass0 (pa_cons (pv 1) pa_nil)) (pa_cons (pe_call G_l_net_page (hr.mono (by decide)) rfl T.g_l_net_page T.k_l_net_page T.b_l_net_page .nil pass0 (pa_cons (pv 1) pa_nil)) pa_nil)) (by rfl))
      (pss_cons (ps_if (PW.pt (pw_or (pt_cmpR op_ne (pe_call G_show_net (hr.mono (by decide)) rfl T.g_show_net T.k_show_net T.b_show_net .nil pass0 (pa_cons (pv 7) pa_nil)) (pv 8) (nomark _)) (pw_or1 (pt_not (pt_val (pe_callB call_isA (by rfl) T.n_isinstance (by decide +kernel) (pa_cons (pe_call G_show_net (hr.mono (by decide)) rfl T.g_show_net T.k_show_net T.b_show_net .nil pass0 (pa_cons (pv 7) pa_nil)) (pa_cons (pe_bltn (v := .ty "str") (by rfl) T.n_str (by decide +kernel) rfl) pa_nil)))))))) (pss_one (ps_ret pe_bl)) pss_nil)
      (pss_cons (ps_set (i := 9) sc_l_fine.nd rfl (Or.inl rfl) (pe_call G_read_net (hr.mono (by decide)) rfl T.g_read_net T.k_read_net T.b_read_net .nil pass0 (pa_cons (pv 8) pa_nil)))
      (pss_one (ps_ret (pe_and (pe_cmpR (op_eqO G_m_u_eq_ T.b_m_u_eq_ T.E_Net.1 T.E_Net.2 (hr.mono (by decide))) (pv 9) (pv 7) (nomark _)) (pe_and (pe_callB call_isA (by rfl) T.n_isinstance (by decide +kernel) (pa_cons (pv 9) (pa_cons (pe_glob rfl T.g_Net (v := .ref (ca 20)) rfl) pa_nil))) (pe_one (pe_cmpR op_eq (pe_repr hgd hr T.n_repr (pe_tup (pa_cons (pe_prop (pv 9) T.cl_Net hp_routers G_m_routers (hr.mono (by decide)) T.b_m_routers .nil pass0 rfl) (pa_cons (pe_prop (pv 9) T.cl_Net hp_links G_m_links (hr.mono (by decide)) T.b_m_links .nil pass0 rfl) pa_nil)))) (pe_repr hgd hr T.n_repr (pv 1)) (nomark _)))))))))))), ?_⟩
    refine ⟨_, rfl, p, 2, 8, 9, B0, rfl, po, by omega, by decide, by decide, by decide, by decide, fun wl r l zs ls H1 hwl hz hl pw nok lo' hi' lks b1 p1 => ?_⟩
    have hw : Wd H1 90 wl r l zs ls := ⟨hwl, hz, hl, lks.1, lks.2.1, lks.2.2, pw, nok, by omega, by omega⟩
    dsimp only [gName]
    refine seqN (fun σ H' => ∃ (wl' : Addr) (x2 x3 x4 x5 x6 : Option L2.V), σ = [some (.ref p), some (.ref wl'), x2, x3, x4, x5, x6, none, none, none] ∧ Wn p H H' (B0 + 290) wl') (fun D' k' => ?_) ?_
    · refine ⟨_, rfl, p, 3, B0 + 200, rfl, p1, by decide, by decide, by omega, fun d H2 d3 b2 p2 => ⟨rfl, _, rfl, ifE (fun c => ?_) fun c => ?_⟩⟩
      · have cpw8 : CPw 10 8 := ⟨by decide, 4, by decide, by decide⟩
        have cpw9 : CPw 10 9 := ⟨by decide, 4, by decide, by decide⟩
        refine ⟨_, _, rfl, rfl, cpw8, _, rfl, _, _, rfl, rfl, cpw9, _, _, rfl, rfl, p, _, B0 + 201, rfl, p2, by decide +kernel, by decide +kernel, by omega, fun e H3 e3 b3 p3 => ⟨_, _, rfl, rfl, by show 6 ≤ sizeLine; decide, fun L nL => ?_⟩⟩
        have e9 : e < 999999999 := by
          have h : (e : Int) < (10 : Int) ^ (9 : Int).toNat - 1 := e3
          have h2 : (10 : Int) ^ (9 : Int).toNat - 1 = 999999999 := by decide +kernel
          rw [h2] at h
          omega
        have e8 : (10 : Int) ^ (8 : Int).toNat = 100000000 := by decide +kernel
        have sL := same_new (o := .lst [.int 1, .int 9, .int 10, .int 999999999, .int ((10 : Int) ^ (8 : Int).toNat), .int (1 + (e : Int))]) nL
        obtain ⟨ms, em, hm, lm⟩ : ∃ ms : List Nat, ([.int 1, .int 9, .int 10, .int 999999999, .int ((10 : Int) ^ (8 : Int).toNat), .int (1 + (e : Int))] : List V) = ms.map (fun n : Nat => V.int (n : Int)) ∧ (∀ n ∈ ms, 1 ≤ n ∧ n ≤ 999999999) ∧ ms.length = 6 := by
          refine ⟨[1, 9, 10, 999999999, 100000000, 1 + e], ?_, ?_, rfl⟩
          · rw [e8]
            simp only [List.map_cons, List.map_nil, List.cons.injEq, and_true]
            refine ⟨rfl, rfl, rfl, rfl, rfl, ?_⟩
            rw [Int.natCast_add]
            rfl
          · intro n hn
            simp only [List.mem_cons, List.not_mem_nil, or_false] at hn
            rcases hn with rfl | rfl | rfl | rfl | rfl | rfl <;> omega
        have hL0 : upd H3 L (.lst [.int 1, .int 9, .int 10, .int 999999999, .int ((10 : Int) ^ (8 : Int).toNat), .int (1 + (e : Int))]) L = some (.lst (ms.map fun n : Nat => V.int (n : Int))) := by rw [upd_same, em]
        have p4 := p3.same sL
        have Lp : L ≠ p := (pot_none p3 nL)
        have hw3 := ((hw.but p1 b2).but p2 b3).same sL
        have b04 := ((b1.trans b2).trans b3).trans (But.of sL)
        generalize upd H3 L (.lst [.int 1, .int 9, .int 10, .int 999999999, .int ((10 : Int) ^ (8 : Int).toNat), .int (1 + (e : Int))]) = H4 at sL hL0 p4 hw3 b04 ⊢
        refine ⟨_, rfl, hw3.ix 0 rfl ⟨_, rfl, hw3.ix 1 rfl ⟨l, rfl, ⟨_, SqT.of hw3.l_⟩, fun D nD => ?_⟩⟩⟩
        have Dp : D ≠ p := pot_none p4 nD
        refine lc_it (walk_tup (xs := ls.map fun q => V.ref q.1)) (fun i H' => ∃ us : List (Addr × List Key), H' D = some (.lst (us.map fun q => V.ref q.1)) ∧ (∀ q ∈ us, H' q.1 = some (.tup (q.2.map kV))) ∧ AlikeL (ls.take i) us ∧ But p H4 H' ∧ Pot H' p (B0 + 202 + 2 * i))
          ⟨[], upd_same, fun q h => (nomatch h), .nil, But.of (same_new nD), (p4.same (same_new nD)).mono (by omega)⟩ (fun i H' _ ⟨_, _, _, _, b, _⟩ => SqT.of (b _ _ (tup_notp hw3.l_ p4) hw3.l_)) ?_ ?_
        · rintro i x Ha Hb hi ⟨us, hD, el, al, bu, po'⟩ ⟨rfl, hx⟩
          obtain ⟨q, hq, rfl⟩ := at_map hx
          have mq := List.mem_of_getElem? hq
          obtain ⟨hq1, a, b, cx, cy, eq, _⟩ := hw3.el q mq
          have hq2 := bu _ _ (tup_notp hq1 p4) hq1
          rw [eq] at hq2
          have few := hw3.few
          rw [List.length_map] at hi
          have lu : us.length ≤ 16 := by
            rw [← al.len, List.length_take]
            omega
          refine ⟨q.1, _, rfl, SqT.of hq2, rfl, _, _, rfl, _, _, rfl, _, _, rfl, _, _, rfl, rfl, ?_⟩
          dsimp only [tYes]
          rw [if_pos rfl]
          refine ⟨rfl, ?_⟩
          have hLb := bu _ _ Lp hL0
          refine ⟨_, rfl, _, rfl, _, rfl, _, rfl, p, .ref L, ms.map (fun n : Nat => V.int (n : Int)), B0 + 202 + 2 * i, rfl, po', by omega, .inl ⟨L, rfl, Lp, SqL.of hLb⟩, by rw [List.length_map, lm]; decide, by rw [List.length_map, lm]; decide, fun d1 v1 Hc hv1 bc pc => ?_⟩
          obtain ⟨n1, hn1, rfl⟩ := at_map hv1
          have hLc := bc _ _ Lp hLb
          refine ⟨_, rfl, _, rfl, p, .ref L, ms.map (fun n : Nat => V.int (n : Int)), B0 + 202 + 2 * i + 1, rfl, pc, by omega, .inl ⟨L, rfl, Lp, SqL.of hLc⟩, by rw [List.length_map, lm]; decide, by rw [List.length_map, lm]; decide, fun d2 v2 Hd hv2 bd pd => ?_⟩
          obtain ⟨n2, hn2, rfl⟩ := at_map hv2
          have m1 := hm n1 (List.mem_of_getElem? hn1)
          have m2 := hm n2 (List.mem_of_getElem? hn2)
          refine ⟨by show 4 ≤ sizeLine; decide, fun t nt => ?_⟩
          have st := same_new (o := .tup [.str a, .str b, .int (n1 : Int), .int (n2 : Int)]) nt
          have b5 := (bc.trans bd).trans (But.of st)
          have hD5 := b5 _ _ Dp hD
          refine ⟨_, hD5, by rw [List.length_map, sizeLine_eq]; omega, us ++ [(t, linkK a b n1 n2)], by rw [upd_same, List.map_append]; rfl, fun u hu => ?_, ?_, fun c o n e => ?_, ?_⟩
          · have keep : ∀ {c : Addr} {ys : List V} {u : HO}, upd Hd t u c = some (.tup ys) → upd Hd t u D = some (.lst (us.map fun q => V.ref q.1)) → ∀ {o : HO}, upd (upd Hd t u) D o c = some (.tup ys) := fun {c ys u} e eD {o} => by
              rw [upd_ne (fun z => by rw [z, eD] at e; cases e)]
              exact e
            rcases List.mem_append.mp hu with hu | hu
            · exact keep (b5 _ _ (tup_notp (el u hu) po') (el u hu)) hD5
            · rw [List.mem_singleton.mp hu]
              exact keep upd_same hD5
          · rw [List.take_add_one, hq]
            exact .snoc al ⟨a, b, cx, cy, n1, n2, eq, rfl, m1.1, m1.2, m2.1, m2.2⟩
          · rw [upd_ne (fun z => by rw [z, nD] at e; cases e)]
            exact b5 _ _ n (bu c o n e)
          · obtain ⟨o, s, c, e, r⟩ := pd.same st
            have : Pot (upd (upd Hd t (.tup [.str a, .str b, .int (n1 : Int), .int (n2 : Int)])) D (.lst ((us.map fun q => V.ref q.1) ++ [.ref t]))) p (B0 + 202 + 2 * i + 1 + 1) := ⟨o, s, c, by rw [upd_ne (Ne.symm Dp)]; exact e, r⟩
            exact this.mono (by omega)
        · rintro H5 ⟨us, hD, el, al, bu, po'⟩
          rw [List.length_map, List.take_length] at al
          rw [List.length_map] at po'
          refine ⟨D, _, rfl, .inl ⟨SqL.of hD, fun l2 nl2 => ⟨by show 2 ≤ sizeLine; decide, fun t nt => ?_⟩⟩⟩
          have sl := same_new (o := .tup (us.map fun q => V.ref q.1)) nl2
          have st := same_new (o := .tup [.ref r, .ref l2]) nt
          have few := hw3.few
          have hw5 := hw3.but p4 bu
          refine nxt (k' _ _ ⟨t, _, _, _, _, _, rfl, ⟨r, l2, zs, us, ⟨upd_same, st _ _ (sl _ _ hw5.r_), st _ _ upd_same, fun u hu => ⟨st _ _ (sl _ _ (el u hu)), ?_⟩, ?_, by rw [← al.len]; exact few, hw3.pw, hw3.nok, hw3.l2, hw3.l8⟩⟩, b04.trans (bu.trans (But.of (sl.trans st))), ((po'.same sl).same st).mono (by omega)⟩)
          · obtain ⟨q, hq, a, b, x, y, x', y', e1, e2, x1, x9, y1, y9⟩ := al.of u hu
            obtain ⟨_, a', b', i, j, e3, ha, hb, ab, _⟩ := hw3.el q hq
            rw [e1] at e3
            cases e3
            exact ⟨_, _, x', y', e2, ha, hb, ab, x1, x9, y1, y9⟩
          · have h := hw3.up
            rw [← List.pairwise_map (f := fun q : Addr × List Key => q.2.take 2) (R := fun k l => ksLt k l = true), al.pairs, List.pairwise_map] at h
            exact h
      · exact nxt (k' _ _ ⟨wl, _, _, _, _, _, rfl, ⟨r, l, zs, ls, (hw.but p1 b2).more (by decide)⟩, b1.trans b2, p2.mono (by omega)⟩)
    rintro σ H2 ⟨wl', x2, x3, x4, x5, x6, rfl, ⟨⟨r', l', zs', ls', hw2⟩, b2, p2⟩⟩
    have l9 := hw2.l9 (by decide)
    have ok : RtOk zs' := ⟨hw2.l2, hw2.l8, hw2.nok⟩
    refine ⟨_, rfl, 999999999, wl', r', l', zs', ls', rfl, hw2, fun n H3 s3 hn => ⟨_, rfl, 999999999, wl', r', l', zs', ls', rfl, hw2.same s3, by decide, fun H4 s4 => ⟨_, _, rfl, nxt ?_⟩⟩⟩
    have hn4 := hn.same s4
    have hw4 := (hw2.same s3).same s4
    refine ⟨_, rfl, n, r', l', zs', ls', rfl, hn4, l9, fun H5 s5 => ⟨_, rfl, rfl, _, rfl, iteB2 (by simp) ?_⟩⟩
    have hn5 := hn4.same s5
    have hw5 := hw4.same s5
    refine ⟨_, rfl, n, r', l', zs', ls', rfl, hn5, l9, fun H6 s6 => .inl ⟨.str (pageW zs' ls'), .ty "str", _, _, true, rfl, .ty _, .base (.str _), rfl, _, rfl, iteB2 rfl ?_⟩⟩
    have hn6 := hn5.same s6
    have hw6 := hw5.same s6
    refine nxt ?_
    refine ⟨_, rfl, zs', ls', rfl, ok, hw6.pw, l9, fun q hq => (hn6.lk.el q hq).2, hn6.lk.up, hw6.few, fun n2 r2 l2 ls2 H7 s7 hn2 em => ?_⟩
    have hn7 := hn6.same s7
    have hw7 := hw6.same s7
    obtain ⟨dx, e2⟩ := hn2.net
    obtain ⟨dy, e1⟩ := hn7.net
    have kit : PySem.W.kitOne K (.ref (ca 20)) (.ref (ca 20)) = some true := by
      unfold PySem.W.kitOne
      rw [if_pos (by simp)]
    refine ⟨_, rfl, _, rfl, n2, dx, _, rfl, e2, .inl ⟨n, dy, _, rfl, e1⟩, n2, n, r2, l2, r', l', zs', ls2, ls', rfl, hn2, hn7, em, true, rfl, _, rfl, iteB rfl ?_⟩
    refine ⟨_, rfl, .inl ⟨_, _, _, _, _, rfl, .own _, T.insN hn2.net, kit, _, rfl, iteB rfl ?_⟩⟩
    have sh := world_shows hw7 (by decide)
    have ek : lkD ls2 = lkD ls' := by
      unfold lkD
      rw [em]
    refine ⟨_, rfl, n2, dx, _, rfl, e2, n2, dx, _, _, rfl, e2, rfl, _, rfl, n2, dx, _, rfl, e2, n2, dx, _, _, rfl, e2, rfl, by show 2 ≤ sizeLine; decide, fun t nt => ?_⟩
    have st := same_new (o := .tup [.ref r2, .ref l2]) nt
    have d2 : Dd K (upd H7 t (.tup [.ref r2, .ref l2])) (.ref t) (.tuple [rtD zs', lkD ls']) := .tup (SqT.of upd_same) (.cons (.tup (SqT.of (st _ _ hn2.rt)) (dd_strs zs')) (.cons (by rw [← ek]; exact .tup (SqT.of (st _ _ hn2.lk.at_)) (dd_links fun q hq => st _ _ (hn2.lk.el q hq).1)) .nil))
    have hw8 := hw7.same st
    have d3 : Dd K (upd H7 t (.tup [.ref r2, .ref l2])) (.ref wl') (.tuple [rtD zs', lkD ls']) := .tup (SqT.of hw8.wl_) (.cons (.tup (SqT.of hw8.r_) (dd_strs zs')) (.cons (.tup (SqT.of hw8.l_) (dd_links fun q hq => (hw8.el q hq).1)) .nil))
    refine ⟨.ref t, _, rfl, d2, sh, _, rfl, .ref wl', _, rfl, d3, sh, rfl, ?_⟩
    rw [decide_eq_true rfl]
    have s27 := ((((s3.trans s4).trans s5).trans s6).trans s7).trans st
    exact k _ (b2.trans (But.of s27)) ((p2.same s27).mono (by omega))
end
end Toy
set_option Elab.async false
set_option linter.all false
set_option maxRecDepth 100000
set_option maxHeartbeats 8000000
namespace Toy
open PySem L2 Q RZ D7 TL
def spLaw (K : PySem.W.Frag) : Sp := fun vs H Q _ => ∃ (a : Addr) (ns : List Int), vs = [.ref a] ∧ SqL K H a (ns.map V.int) ∧ ns.length ≤ 63 ∧ ∀ H', Q (.bl true) H'
section
variable {P : Program} {w : World} {K : PySem.W.Frag} {mg : Str → Option Value} {base : Heap} {ca ia fa : Nat → Addr} {fd fi : Nat → FuncData}
theorem ok_law (T : Txt K mg ca ia fa fd fi) :
    FnG P w K mg base CX0 17 (fa 47) (fd 47) ["_law_script"] (spLaw K) := by
  have G_l_pots := ok_pots (P := P) (w := w) (base := base) T
  have G_l_fine := ok_fine (P := P) (w := w) (base := base) T
  refine okG T.F_law sc_law (fun vs H Q E h => ?_) (fun cdv A outer s H vs Q E hgd hr h => ?_)
  · obtain ⟨a, ns, rfl, _⟩ := h
    rfl
  · obtain ⟨a, ns, rfl, hs, hl, k⟩ := h
    refine ⟨_, (pss_cons (ps_for PassesOwn.never rfl (pi_list (pe_call G_l_pots (hr.mono (by decide)) rfl T.g_l_pots T.k_l_pots T.b_l_pots .nil pass0 (pa_cons (pv 0) (pa_cons pe_int pa_nil)))) (pg_name (i := 1) sc_law.nd rfl (Or.inr rfl)) (pss_one (ps_if (pt_not (pt_val (pe_callB (cr_all rfl) (by rfl) T.n_all (by decide +kernel) (pa_cons (pe_lc (own := [("_law_turn", 2)]) (g := (gName 2)) (tt := tYes) rfl sc_law.nd (pi_range1 rfl T.n_range (pa_cons pe_int pa_nil)) (blkOk_by (own := [("_law_turn", 2)]) (N := N_law) (sc := defScope s_law) (by decide +kernel)) (fun _ _ _ _ _ => (pg_name (i := 2) sc_law.nd rfl (Or.inl rfl))) (fun _ _ _ _ _ => pts_nil) (fun _ _ _ _ _ => by exact (pe_callG G_l_fine hgd (hr.mono (by decide)) rfl T.g_l_fine T.k_l_fine T.b_l_fine .nil pass0 (pa_cons (pv 1) pa_nil)))) pa_nil)))) (pss_one (ps_ret pe_bl)) pss_nil)))
      (pss_one (ps_ret pe_bl))), ?_⟩
    refine ⟨_, rfl, a, ns, 3, rfl, hs, by decide, hl, fun L0 ps H1 s1 hL0 few nd nL0 hp => ⟨L0, rfl, ⟨_, SqL.of hL0⟩, ?_⟩⟩
    refine for_it (walk_list (xs := ps.map V.ref)) (fun i σ H' => ∃ (x1 x2 : Option L2.V), σ = [some (.ref a), x1, x2] ∧ H' L0 = some (.lst (ps.map V.ref)) ∧ ∀ (j : Nat) (q : Addr), i ≤ j → ps[j]? = some q → Pot H' q 0)
      ⟨_, _, rfl, hL0, fun j q _ hq => hp q (List.mem_of_getElem? hq)⟩ (fun i σ H' _ ⟨_, _, _, z, _⟩ => SqL.of z) ?_ ?_
    · rintro i x σ H2 H3 hi ⟨x1, x2, rfl, hL2, hp2⟩ ⟨rfl, hx⟩
      obtain ⟨p, hpi, rfl⟩ := at_map hx
      have pp := hp2 i p (Nat.le_refl _) hpi
      have Lp : L0 ≠ p := fun z => by
        obtain ⟨_, _, _, e, _⟩ := hp p (List.mem_of_getElem? hpi)
        exact nL0 (z ▸ List.mem_of_getElem? hpi)
      refine ⟨3, rfl, by decide, by decide, fun D nD => ?_⟩
      have Dp : D ≠ p := pot_none pp nD
      refine lc_range (lo := 0) (n := (3 : Int).toNat) (fun j H' => H' D = some (.lst ((List.replicate j true).map V.bl)) ∧ But p H3 H' ∧ Pot H' p (300 * j))
        ⟨upd_same, But.of (same_new nD), pp.same (same_new nD)⟩ ?_ ?_
      · rintro j H4 hj ⟨hD, b4, p4⟩
        have j3 : j < 3 := hj
        refine ⟨rfl, ?_⟩
        dsimp only [tYes]
        rw [if_pos rfl]
        refine ⟨_, rfl, p, 300 * j, rfl, p4, by omega, fun H5 b5 p5 => ?_⟩
        have hD5 := b5 _ _ Dp hD
        refine ⟨_, hD5, by rw [List.length_map, List.length_replicate, sizeLine_eq]; omega, by rw [upd_same, List.replicate_succ', List.map_append]; rfl, fun c o n e => ?_, ?_⟩
        · rw [upd_ne (fun z => by rw [z, nD] at e; cases e)]
          exact b5 _ _ n (b4 c o n e)
        · obtain ⟨o, sd, c, e, r⟩ := p5
          have : Pot (upd H5 D (.lst ((List.replicate j true).map V.bl ++ [.bl true]))) p (300 * j + 300) := ⟨o, sd, c, by rw [upd_ne (Ne.symm Dp)]; exact e, r⟩
          exact this.mono (by omega)
      · rintro H4 ⟨hD, b4, p4⟩
        refine ⟨D, List.replicate _ true, rfl, SqL.of hD, ?_⟩
        rw [all_true]
        refine ⟨_, rfl, iteB2 rfl (nxt ⟨_, _, rfl, b4 _ _ Lp hL2, fun j q lj hq => ?_⟩)⟩
        have ne : q ≠ p := fun z => by
          rw [z] at hq
          have := nd_same (f := id) (by rw [List.map_id]; exact nd) hq hpi rfl
          omega
        obtain ⟨o, sd, c, e, r⟩ := hp2 j q (by omega) hq
        exact ⟨o, sd, c, b4 _ _ ne e, r⟩
    · rintro σ H2 ⟨x1, x2, rfl, _, _⟩
      exact k H2
end
end Toy
set_option Elab.async false
set_option linter.all false
set_option maxRecDepth 100000
set_option maxHeartbeats 8000000
namespace Toy
open PySem L2 Q RZ D7
theorem all_mk {P : Program} {w : World} {K : PySem.W.Frag} {h : Heap} {mg : Str → Option Value} {fl : Addr} (X : K.In h) (G : h.Ns mainGlobals mg) (hfl : mg "law" = some (.ref fl))
    {f0 : Addr} {od0 an0 : Option Addr} {sl0 : Array (Option Value)} {oc0 kV0 dc0 pm0 ct0 : Value} {cd0 : Value}
    {f9 : Addr} {od9 an9 : Option Addr} {sl9 : Array (Option Value)} {oc9 kV9 dc9 pm9 ct9 : Value} {cd9 : Value}
    {f10 : Addr} {od10 an10 : Option Addr} {sl10 : Array (Option Value)} {oc10 kV10 dc10 pm10 ct10 : Value} {cd10 : Value}
    {f11 : Addr} {od11 an11 : Option Addr} {sl11 : Array (Option Value)} {oc11 kV11 dc11 pm11 ct11 : Value} {cd11 : Value}
    {f12 : Addr} {od12 an12 : Option Addr} {sl12 : Array (Option Value)} {oc12 kV12 dc12 pm12 ct12 : Value} {cd12 : Value}
    {f15 : Addr} {od15 an15 : Option Addr} {sl15 : Array (Option Value)} {oc15 kV15 dc15 pm15 ct15 : Value} {cd15 : Value}
    {f21 : Addr} {od21 an21 : Option Addr} {sl21 : Array (Option Value)} {oc21 kV21 dc21 pm21 ct21 : Value} {cd21 : Value}
    {f22 : Addr} {od22 an22 : Option Addr} {sl22 : Array (Option Value)} {oc22 kV22 dc22 pm22 ct22 : Value} {cd22 : Value}
    {f23 : Addr} {od23 an23 : Option Addr} {sl23 : Array (Option Value)} {oc23 kV23 dc23 pm23 ct23 : Value} {cd23 : Value}
    {f24 : Addr} {od24 an24 : Option Addr} {sl24 : Array (Option Value)} {oc24 kV24 dc24 pm24 ct24 : Value} {cd24 : Value}
    {f25 : Addr} {od25 an25 : Option Addr} {sl25 : Array (Option Value)} {oc25 kV25 dc25 pm25 ct25 : Value} {cd25 : Value}
    {f26 : Addr} {od26 an26 : Option Addr} {sl26 : Array (Option Value)} {oc26 kV26 dc26 pm26 ct26 : Value} {cd26 : Value}
    {f28 : Addr} {od28 an28 : Option Addr} {sl28 : Array (Option Value)} {oc28 kV28 dc28 pm28 ct28 : Value} {cd28 : Value}
    {f29 : Addr} {od29 an29 : Option Addr} {sl29 : Array (Option Value)} {oc29 kV29 dc29 pm29 ct29 : Value} {cd29 : Value}
    {f30 : Addr} {od30 an30 : Option Addr} {sl30 : Array (Option Value)} {oc30 kV30 dc30 pm30 ct30 : Value} {cd30 : Value}
    {f31 : Addr} {od31 an31 : Option Addr} {sl31 : Array (Option Value)} {oc31 kV31 dc31 pm31 ct31 : Value} {cd31 : Value}
    {f32 : Addr} {od32 an32 : Option Addr} {sl32 : Array (Option Value)} {oc32 kV32 dc32 pm32 ct32 : Value} {cd32 : Value}
    {f33 : Addr} {od33 an33 : Option Addr} {sl33 : Array (Option Value)} {oc33 kV33 dc33 pm33 ct33 : Value} {cd33 : Value}
    {f35 : Addr} {od35 an35 : Option Addr} {sl35 : Array (Option Value)} {oc35 kV35 dc35 pm35 ct35 : Value} {cd35 : Value}
    {f36 : Addr} {od36 an36 : Option Addr} {sl36 : Array (Option Value)} {oc36 kV36 dc36 pm36 ct36 : Value} {cd36 : Value}
    {f37 : Addr} {od37 an37 : Option Addr} {sl37 : Array (Option Value)} {oc37 kV37 dc37 pm37 ct37 : Value} {cd37 : Value}
    {f38 : Addr} {od38 an38 : Option Addr} {sl38 : Array (Option Value)} {oc38 kV38 dc38 pm38 ct38 : Value} {cd38 : Value}
    {f39 : Addr} {od39 an39 : Option Addr} {sl39 : Array (Option Value)} {oc39 kV39 dc39 pm39 ct39 : Value} {cd39 : Value}
    {f40 : Addr} {od40 an40 : Option Addr} {sl40 : Array (Option Value)} {oc40 kV40 dc40 pm40 ct40 : Value} {cd40 : Value}
    {f41 : Addr} {od41 an41 : Option Addr} {sl41 : Array (Option Value)} {oc41 kV41 dc41 pm41 ct41 : Value} {cd41 : Value}
    {f42 : Addr} {od42 an42 : Option Addr} {sl42 : Array (Option Value)} {oc42 kV42 dc42 pm42 ct42 : Value} {cd42 : Value}
    {f43 : Addr} {od43 an43 : Option Addr} {sl43 : Array (Option Value)} {oc43 kV43 dc43 pm43 ct43 : Value} {cd43 : Value}
    {f44 : Addr} {od44 an44 : Option Addr} {sl44 : Array (Option Value)} {oc44 kV44 dc44 pm44 ct44 : Value} {cd44 : Value}
    {f45 : Addr} {od45 an45 : Option Addr} {sl45 : Array (Option Value)} {oc45 kV45 dc45 pm45 ct45 : Value} {cd45 : Value}
    {f46 : Addr} {od46 an46 : Option Addr} {sl46 : Array (Option Value)} {oc46 kV46 dc46 pm46 ct46 : Value} {cd46 : Value}
    {f47 : Addr} {od47 an47 : Option Addr} {sl47 : Array (Option Value)} {oc47 kV47 dc47 pm47 ct47 : Value} {cd47 : Value}
    {C2 N2 : Addr} {nm2 q2 : Str} {bs2 sub2 : List Value} {sn2 : List Str} {ab2 : Bool} {col2 : Option Bool} {dd2 : Option Addr} {m02 m12 m22 m32 m52 : Option Value}
    {C3 N3 : Addr} {nm3 q3 : Str} {bs3 sub3 : List Value} {sn3 : List Str} {ab3 : Bool} {col3 : Option Bool} {dd3 : Option Addr} {m03 m13 m23 m33 m53 : Option Value}
    {g3 : Addr} {god3 gan3 : Option Addr} {gsl3 : Array (Option Value)} {goc3 gkV3 gdc3 gpm3 gcd3 gct3 : Value}
    {C4 N4 : Addr} {nm4 q4 : Str} {bs4 sub4 : List Value} {sn4 : List Str} {ab4 : Bool} {col4 : Option Bool} {dd4 : Option Addr} {m04 m14 m24 m34 m54 : Option Value}
    {g4 : Addr} {god4 gan4 : Option Addr} {gsl4 : Array (Option Value)} {goc4 gkV4 gdc4 gpm4 gcd4 gct4 : Value}
    {C5 N5 : Addr} {nm5 q5 : Str} {bs5 sub5 : List Value} {sn5 : List Str} {ab5 : Bool} {col5 : Option Bool} {dd5 : Option Addr} {m05 m15 m25 m35 m55 : Option Value}
    {g5 : Addr} {god5 gan5 : Option Addr} {gsl5 : Array (Option Value)} {goc5 gkV5 gdc5 gpm5 gcd5 gct5 : Value}
    {C6 N6 : Addr} {nm6 q6 : Str} {bs6 sub6 : List Value} {sn6 : List Str} {ab6 : Bool} {col6 : Option Bool} {dd6 : Option Addr} {m06 m16 m26 m36 m56 : Option Value}
    {g6 : Addr} {god6 gan6 : Option Addr} {gsl6 : Array (Option Value)} {goc6 gkV6 gdc6 gpm6 gcd6 gct6 : Value}
    {CN : Addr}
    {f100 : Addr} {od100 an100 : Option Addr} {sl100 : Array (Option Value)} {oc100 kV100 dc100 pm100 ct100 cd100 : Value}
    {f101 : Addr} {od101 an101 : Option Addr} {sl101 : Array (Option Value)} {oc101 kV101 dc101 pm101 ct101 cd101 : Value}
    {pp101 : Addr} {pr101 : List Value}
    {f102 : Addr} {od102 an102 : Option Addr} {sl102 : Array (Option Value)} {oc102 kV102 dc102 pm102 ct102 cd102 : Value}
    {pp102 : Addr} {pr102 : List Value}
    {f103 : Addr} {od103 an103 : Option Addr} {sl103 : Array (Option Value)} {oc103 kV103 dc103 pm103 ct103 cd103 : Value}
    {f104 : Addr} {od104 an104 : Option Addr} {sl104 : Array (Option Value)} {oc104 kV104 dc104 pm104 ct104 cd104 : Value}
    {f105 : Addr} {od105 an105 : Option Addr} {sl105 : Array (Option Value)} {oc105 kV105 dc105 pm105 ct105 cd105 : Value}
    {f106 : Addr} {od106 an106 : Option Addr} {sl106 : Array (Option Value)} {oc106 kV106 dc106 pm106 ct106 cd106 : Value}
    {f107 : Addr} {od107 an107 : Option Addr} {sl107 : Array (Option Value)} {oc107 kV107 dc107 pm107 ct107 cd107 : Value}
    {tLONGEST_NAME : Tok}
    {tMOST_DIGITS : Tok}
    {tFEWEST_ROUTERS : Tok}
    {tMOST_ROUTERS : Tok}
    {tMOST_LINKS : Tok}
    (a0 : PySem.W.nsIn K mainGlobals "_wall" = some (some (.ref f0)))
    (l0 : K.lookup f0 = some ⟨oc0, od0, .func (PySem.W.fnOf "_wall" "_wall" (defArgs s__wall) (defBody s__wall) (defScope s__wall) .none kV0 dc0 pm0 an0 cd0 ct0), sl0⟩)
    (c0 : PySem.W.codeIn K cd0 "_wall" = true)
    (k0 : PySem.W.keepIn K (.ref f0) = true)
    (a9 : PySem.W.nsIn K mainGlobals "is_integer" = some (some (.ref f9)))
    (l9 : K.lookup f9 = some ⟨oc9, od9, .func (PySem.W.fnOf "is_integer" "is_integer" (defArgs s_is_integer) (defBody s_is_integer) (defScope s_is_integer) .none kV9 dc9 pm9 an9 cd9 ct9), sl9⟩)
    (c9 : PySem.W.codeIn K cd9 "is_integer" = true)
    (k9 : PySem.W.keepIn K (.ref f9) = true)
    (a10 : PySem.W.nsIn K mainGlobals "is_integer_from" = some (some (.ref f10)))
    (l10 : K.lookup f10 = some ⟨oc10, od10, .func (PySem.W.fnOf "is_integer_from" "is_integer_from" (defArgs s_is_integer_from) (defBody s_is_integer_from) (defScope s_is_integer_from) .none kV10 dc10 pm10 an10 cd10 ct10), sl10⟩)
    (c10 : PySem.W.codeIn K cd10 "is_integer_from" = true)
    (k10 : PySem.W.keepIn K (.ref f10) = true)
    (a11 : PySem.W.nsIn K mainGlobals "is_name" = some (some (.ref f11)))
    (l11 : K.lookup f11 = some ⟨oc11, od11, .func (PySem.W.fnOf "is_name" "is_name" (defArgs s_is_name) (defBody s_is_name) (defScope s_is_name) .none kV11 dc11 pm11 an11 cd11 ct11), sl11⟩)
    (c11 : PySem.W.codeIn K cd11 "is_name" = true)
    (k11 : PySem.W.keepIn K (.ref f11) = true)
    (a12 : PySem.W.nsIn K mainGlobals "is_rising" = some (some (.ref f12)))
    (l12 : K.lookup f12 = some ⟨oc12, od12, .func (PySem.W.fnOf "is_rising" "is_rising" (defArgs s_is_rising) (defBody s_is_rising) (defScope s_is_rising) .none kV12 dc12 pm12 an12 cd12 ct12), sl12⟩)
    (c12 : PySem.W.codeIn K cd12 "is_rising" = true)
    (k12 : PySem.W.keepIn K (.ref f12) = true)
    (a15 : PySem.W.nsIn K mainGlobals "number_of" = some (some (.ref f15)))
    (l15 : K.lookup f15 = some ⟨oc15, od15, .func (PySem.W.fnOf "number_of" "number_of" (defArgs s_number_of) (defBody s_number_of) (defScope s_number_of) .none kV15 dc15 pm15 an15 cd15 ct15), sl15⟩)
    (c15 : PySem.W.codeIn K cd15 "number_of" = true)
    (k15 : PySem.W.keepIn K (.ref f15) = true)
    (a21 : PySem.W.nsIn K mainGlobals "need_routers" = some (some (.ref f21)))
    (l21 : K.lookup f21 = some ⟨oc21, od21, .func (PySem.W.fnOf "need_routers" "need_routers" (defArgs s_need_routers) (defBody s_need_routers) (defScope s_need_routers) .none kV21 dc21 pm21 an21 cd21 ct21), sl21⟩)
    (c21 : PySem.W.codeIn K cd21 "need_routers" = true)
    (k21 : PySem.W.keepIn K (.ref f21) = true)
    (a22 : PySem.W.nsIn K mainGlobals "need_router" = some (some (.ref f22)))
    (l22 : K.lookup f22 = some ⟨oc22, od22, .func (PySem.W.fnOf "need_router" "need_router" (defArgs s_need_router) (defBody s_need_router) (defScope s_need_router) .none kV22 dc22 pm22 an22 cd22 ct22), sl22⟩)
    (c22 : PySem.W.codeIn K cd22 "need_router" = true)
    (k22 : PySem.W.keepIn K (.ref f22) = true)
    (a23 : PySem.W.nsIn K mainGlobals "is_length" = some (some (.ref f23)))
    (l23 : K.lookup f23 = some ⟨oc23, od23, .func (PySem.W.fnOf "is_length" "is_length" (defArgs s_is_length) (defBody s_is_length) (defScope s_is_length) .none kV23 dc23 pm23 an23 cd23 ct23), sl23⟩)
    (c23 : PySem.W.codeIn K cd23 "is_length" = true)
    (k23 : PySem.W.keepIn K (.ref f23) = true)
    (a24 : PySem.W.nsIn K mainGlobals "are_routers" = some (some (.ref f24)))
    (l24 : K.lookup f24 = some ⟨oc24, od24, .func (PySem.W.fnOf "are_routers" "are_routers" (defArgs s_are_routers) (defBody s_are_routers) (defScope s_are_routers) .none kV24 dc24 pm24 an24 cd24 ct24), sl24⟩)
    (c24 : PySem.W.codeIn K cd24 "are_routers" = true)
    (k24 : PySem.W.keepIn K (.ref f24) = true)
    (a25 : PySem.W.nsIn K mainGlobals "are_links" = some (some (.ref f25)))
    (l25 : K.lookup f25 = some ⟨oc25, od25, .func (PySem.W.fnOf "are_links" "are_links" (defArgs s_are_links) (defBody s_are_links) (defScope s_are_links) .none kV25 dc25 pm25 an25 cd25 ct25), sl25⟩)
    (c25 : PySem.W.codeIn K cd25 "are_links" = true)
    (k25 : PySem.W.keepIn K (.ref f25) = true)
    (a26 : PySem.W.nsIn K mainGlobals "is_link" = some (some (.ref f26)))
    (l26 : K.lookup f26 = some ⟨oc26, od26, .func (PySem.W.fnOf "is_link" "is_link" (defArgs s_is_link) (defBody s_is_link) (defScope s_is_link) .none kV26 dc26 pm26 an26 cd26 ct26), sl26⟩)
    (c26 : PySem.W.codeIn K cd26 "is_link" = true)
    (k26 : PySem.W.keepIn K (.ref f26) = true)
    (a28 : PySem.W.nsIn K mainGlobals "show_net" = some (some (.ref f28)))
    (l28 : K.lookup f28 = some ⟨oc28, od28, .func (PySem.W.fnOf "show_net" "show_net" (defArgs s_show_net) (defBody s_show_net) (defScope s_show_net) .none kV28 dc28 pm28 an28 cd28 ct28), sl28⟩)
    (c28 : PySem.W.codeIn K cd28 "show_net" = true)
    (k28 : PySem.W.keepIn K (.ref f28) = true)
    (a29 : PySem.W.nsIn K mainGlobals "read_net" = some (some (.ref f29)))
    (l29 : K.lookup f29 = some ⟨oc29, od29, .func (PySem.W.fnOf "read_net" "read_net" (defArgs s_read_net) (defBody s_read_net) (defScope s_read_net) .none kV29 dc29 pm29 an29 cd29 ct29), sl29⟩)
    (c29 : PySem.W.codeIn K cd29 "read_net" = true)
    (k29 : PySem.W.keepIn K (.ref f29) = true)
    (a30 : PySem.W.nsIn K mainGlobals "rows_of" = some (some (.ref f30)))
    (l30 : K.lookup f30 = some ⟨oc30, od30, .func (PySem.W.fnOf "rows_of" "rows_of" (defArgs s_rows_of) (defBody s_rows_of) (defScope s_rows_of) .none kV30 dc30 pm30 an30 cd30 ct30), sl30⟩)
    (c30 : PySem.W.codeIn K cd30 "rows_of" = true)
    (k30 : PySem.W.keepIn K (.ref f30) = true)
    (a31 : PySem.W.nsIn K mainGlobals "net_parts" = some (some (.ref f31)))
    (l31 : K.lookup f31 = some ⟨oc31, od31, .func (PySem.W.fnOf "net_parts" "net_parts" (defArgs s_net_parts) (defBody s_net_parts) (defScope s_net_parts) .none kV31 dc31 pm31 an31 cd31 ct31), sl31⟩)
    (c31 : PySem.W.codeIn K cd31 "net_parts" = true)
    (k31 : PySem.W.keepIn K (.ref f31) = true)
    (a32 : PySem.W.nsIn K mainGlobals "routers_of" = some (some (.ref f32)))
    (l32 : K.lookup f32 = some ⟨oc32, od32, .func (PySem.W.fnOf "routers_of" "routers_of" (defArgs s_routers_of) (defBody s_routers_of) (defScope s_routers_of) .none kV32 dc32 pm32 an32 cd32 ct32), sl32⟩)
    (c32 : PySem.W.codeIn K cd32 "routers_of" = true)
    (k32 : PySem.W.keepIn K (.ref f32) = true)
    (a33 : PySem.W.nsIn K mainGlobals "link_of" = some (some (.ref f33)))
    (l33 : K.lookup f33 = some ⟨oc33, od33, .func (PySem.W.fnOf "link_of" "link_of" (defArgs s_link_of) (defBody s_link_of) (defScope s_link_of) .none kV33 dc33 pm33 an33 cd33 ct33), sl33⟩)
    (c33 : PySem.W.codeIn K cd33 "link_of" = true)
    (k33 : PySem.W.keepIn K (.ref f33) = true)
    (a35 : PySem.W.nsIn K mainGlobals "_law_pot" = some (some (.ref f35)))
    (l35 : K.lookup f35 = some ⟨oc35, od35, .func (PySem.W.fnOf "_law_pot" "_law_pot" (defArgs s_l_pot) (defBody s_l_pot) (defScope s_l_pot) .none kV35 dc35 pm35 an35 cd35 ct35), sl35⟩)
    (c35 : PySem.W.codeIn K cd35 "_law_pot" = true)
    (k35 : PySem.W.keepIn K (.ref f35) = true)
    (a36 : PySem.W.nsIn K mainGlobals "_law_take" = some (some (.ref f36)))
    (l36 : K.lookup f36 = some ⟨oc36, od36, .func (PySem.W.fnOf "_law_take" "_law_take" (defArgs s_l_take) (defBody s_l_take) (defScope s_l_take) .none kV36 dc36 pm36 an36 cd36 ct36), sl36⟩)
    (c36 : PySem.W.codeIn K cd36 "_law_take" = true)
    (k36 : PySem.W.keepIn K (.ref f36) = true)
    (a37 : PySem.W.nsIn K mainGlobals "_law_pots" = some (some (.ref f37)))
    (l37 : K.lookup f37 = some ⟨oc37, od37, .func (PySem.W.fnOf "_law_pots" "_law_pots" (defArgs s_l_pots) (defBody s_l_pots) (defScope s_l_pots) .none kV37 dc37 pm37 an37 cd37 ct37), sl37⟩)
    (c37 : PySem.W.codeIn K cd37 "_law_pots" = true)
    (k37 : PySem.W.keepIn K (.ref f37) = true)
    (a38 : PySem.W.nsIn K mainGlobals "_law_of" = some (some (.ref f38)))
    (l38 : K.lookup f38 = some ⟨oc38, od38, .func (PySem.W.fnOf "_law_of" "_law_of" (defArgs s_l_of) (defBody s_l_of) (defScope s_l_of) .none kV38 dc38 pm38 an38 cd38 ct38), sl38⟩)
    (c38 : PySem.W.codeIn K cd38 "_law_of" = true)
    (k38 : PySem.W.keepIn K (.ref f38) = true)
    (a39 : PySem.W.nsIn K mainGlobals "_law_turned" = some (some (.ref f39)))
    (l39 : K.lookup f39 = some ⟨oc39, od39, .func (PySem.W.fnOf "_law_turned" "_law_turned" (defArgs s_l_turned) (defBody s_l_turned) (defScope s_l_turned) .none kV39 dc39 pm39 an39 cd39 ct39), sl39⟩)
    (c39 : PySem.W.codeIn K cd39 "_law_turned" = true)
    (k39 : PySem.W.keepIn K (.ref f39) = true)
    (a40 : PySem.W.nsIn K mainGlobals "_law_names" = some (some (.ref f40)))
    (l40 : K.lookup f40 = some ⟨oc40, od40, .func (PySem.W.fnOf "_law_names" "_law_names" (defArgs s_l_names) (defBody s_l_names) (defScope s_l_names) .none kV40 dc40 pm40 an40 cd40 ct40), sl40⟩)
    (c40 : PySem.W.codeIn K cd40 "_law_names" = true)
    (k40 : PySem.W.keepIn K (.ref f40) = true)
    (a41 : PySem.W.nsIn K mainGlobals "_law_far" = some (some (.ref f41)))
    (l41 : K.lookup f41 = some ⟨oc41, od41, .func (PySem.W.fnOf "_law_far" "_law_far" (defArgs s_l_far) (defBody s_l_far) (defScope s_l_far) .none kV41 dc41 pm41 an41 cd41 ct41), sl41⟩)
    (c41 : PySem.W.codeIn K cd41 "_law_far" = true)
    (k41 : PySem.W.keepIn K (.ref f41) = true)
    (a42 : PySem.W.nsIn K mainGlobals "_law_pairs" = some (some (.ref f42)))
    (l42 : K.lookup f42 = some ⟨oc42, od42, .func (PySem.W.fnOf "_law_pairs" "_law_pairs" (defArgs s_l_pairs) (defBody s_l_pairs) (defScope s_l_pairs) .none kV42 dc42 pm42 an42 cd42 ct42), sl42⟩)
    (c42 : PySem.W.codeIn K cd42 "_law_pairs" = true)
    (k42 : PySem.W.keepIn K (.ref f42) = true)
    (a43 : PySem.W.nsIn K mainGlobals "_law_world" = some (some (.ref f43)))
    (l43 : K.lookup f43 = some ⟨oc43, od43, .func (PySem.W.fnOf "_law_world" "_law_world" (defArgs s_l_world) (defBody s_l_world) (defScope s_l_world) .none kV43 dc43 pm43 an43 cd43 ct43), sl43⟩)
    (c43 : PySem.W.codeIn K cd43 "_law_world" = true)
    (k43 : PySem.W.keepIn K (.ref f43) = true)
    (a44 : PySem.W.nsIn K mainGlobals "_law_made" = some (some (.ref f44)))
    (l44 : K.lookup f44 = some ⟨oc44, od44, .func (PySem.W.fnOf "_law_made" "_law_made" (defArgs s_l_made) (defBody s_l_made) (defScope s_l_made) .none kV44 dc44 pm44 an44 cd44 ct44), sl44⟩)
    (c44 : PySem.W.codeIn K cd44 "_law_made" = true)
    (k44 : PySem.W.keepIn K (.ref f44) = true)
    (a45 : PySem.W.nsIn K mainGlobals "_law_net_page" = some (some (.ref f45)))
    (l45 : K.lookup f45 = some ⟨oc45, od45, .func (PySem.W.fnOf "_law_net_page" "_law_net_page" (defArgs s_l_net_page) (defBody s_l_net_page) (defScope s_l_net_page) .none kV45 dc45 pm45 an45 cd45 ct45), sl45⟩)
    (c45 : PySem.W.codeIn K cd45 "_law_net_page" = true)
    (k45 : PySem.W.keepIn K (.ref f45) = true)
    (a46 : PySem.W.nsIn K mainGlobals "_law_fine" = some (some (.ref f46)))
    (l46 : K.lookup f46 = some ⟨oc46, od46, .func (PySem.W.fnOf "_law_fine" "_law_fine" (defArgs s_l_fine) (defBody s_l_fine) (defScope s_l_fine) .none kV46 dc46 pm46 an46 cd46 ct46), sl46⟩)
    (c46 : PySem.W.codeIn K cd46 "_law_fine" = true)
    (k46 : PySem.W.keepIn K (.ref f46) = true)
    (a47 : PySem.W.nsIn K mainGlobals "law" = some (some (.ref f47)))
    (l47 : K.lookup f47 = some ⟨oc47, od47, .func (PySem.W.fnOf "law" "law" (defArgs s_law) (defBody s_law) (defScope s_law) .none kV47 dc47 pm47 an47 cd47 ct47), sl47⟩)
    (c47 : PySem.W.codeIn K cd47 "law" = true)
    (k47 : PySem.W.keepIn K (.ref f47) = true)
    (aC2 : PySem.W.nsIn K mainGlobals "NetError" = some (some (.ref C2)))
    (xL2 : K.lookup C2 = some (excClassObj nm2 q2 C2 N2 bs2 [.type "ValueError", .type "Exception", .type "BaseException", .type "object"] true sn2 sub2 ab2 col2 dd2 m02 m12 m22 m32 m52 "ValueError.__new__"))
    (aC3 : PySem.W.nsIn K mainGlobals "BadNet" = some (some (.ref C3)))
    (xL3 : K.lookup C3 = some (excClassObj nm3 q3 C3 N3 bs3 [.ref C2, .type "ValueError", .type "Exception", .type "BaseException", .type "object"] true sn3 sub3 ab3 col3 dd3 m03 m13 m23 m33 m53 "ValueError.__new__"))
    (sa3 : PySem.W.findIn K (.ref C3) "__setattr__" = some (some (.builtin "object.__setattr__")))
    (ga3 : PySem.W.findIn K (.ref C3) "__getattribute__" = some (some (.builtin "BaseException.__getattribute__")))
    (gg3 : PySem.W.findIn K (.ref C3) "__getattr__" = some none)
    (hc3 : PySem.W.findIn K (.ref C3) "__class__" = some (some (.builtin "object.__class__")))
    (kC3 : PySem.W.keepIn K (.ref C3) = true)
    (ii3 : PySem.W.findIn K (.ref C3) "__init__" = some (some (.ref g3)))
    (gl3 : K.lookup g3 = some ⟨goc3, god3, .func (PySem.W.fnOf "__init__" "BadNet.__init__" (defArgs (inClass (topS 3) 0)) (defBody (inClass (topS 3) 0)) (defScope (inClass (topS 3) 0)) .none gkV3 gdc3 gpm3 gan3 gcd3 gct3), gsl3⟩)
    (gc3 : PySem.W.codeIn K gcd3 "BadNet.__init__" = true)
    (gk3 : PySem.W.keepIn K (.ref g3) = true)
    (gt3 : PySem.W.typeIn K (.ref g3) = some (.type "function"))
    (no3value : PySem.W.findIn K (.ref C3) "value" = some none)
    (aC4 : PySem.W.nsIn K mainGlobals "NoRouter" = some (some (.ref C4)))
    (xL4 : K.lookup C4 = some (excClassObj nm4 q4 C4 N4 bs4 [.ref C2, .type "ValueError", .type "Exception", .type "BaseException", .type "object"] true sn4 sub4 ab4 col4 dd4 m04 m14 m24 m34 m54 "ValueError.__new__"))
    (sa4 : PySem.W.findIn K (.ref C4) "__setattr__" = some (some (.builtin "object.__setattr__")))
    (ga4 : PySem.W.findIn K (.ref C4) "__getattribute__" = some (some (.builtin "BaseException.__getattribute__")))
    (gg4 : PySem.W.findIn K (.ref C4) "__getattr__" = some none)
    (hc4 : PySem.W.findIn K (.ref C4) "__class__" = some (some (.builtin "object.__class__")))
    (kC4 : PySem.W.keepIn K (.ref C4) = true)
    (ii4 : PySem.W.findIn K (.ref C4) "__init__" = some (some (.ref g4)))
    (gl4 : K.lookup g4 = some ⟨goc4, god4, .func (PySem.W.fnOf "__init__" "NoRouter.__init__" (defArgs (inClass (topS 4) 0)) (defBody (inClass (topS 4) 0)) (defScope (inClass (topS 4) 0)) .none gkV4 gdc4 gpm4 gan4 gcd4 gct4), gsl4⟩)
    (gc4 : PySem.W.codeIn K gcd4 "NoRouter.__init__" = true)
    (gk4 : PySem.W.keepIn K (.ref g4) = true)
    (gt4 : PySem.W.typeIn K (.ref g4) = some (.type "function"))
    (no4value : PySem.W.findIn K (.ref C4) "value" = some none)
    (aC5 : PySem.W.nsIn K mainGlobals "NoLink" = some (some (.ref C5)))
    (xL5 : K.lookup C5 = some (excClassObj nm5 q5 C5 N5 bs5 [.ref C2, .type "ValueError", .type "Exception", .type "BaseException", .type "object"] true sn5 sub5 ab5 col5 dd5 m05 m15 m25 m35 m55 "ValueError.__new__"))
    (sa5 : PySem.W.findIn K (.ref C5) "__setattr__" = some (some (.builtin "object.__setattr__")))
    (ga5 : PySem.W.findIn K (.ref C5) "__getattribute__" = some (some (.builtin "BaseException.__getattribute__")))
    (gg5 : PySem.W.findIn K (.ref C5) "__getattr__" = some none)
    (hc5 : PySem.W.findIn K (.ref C5) "__class__" = some (some (.builtin "object.__class__")))
    (kC5 : PySem.W.keepIn K (.ref C5) = true)
    (ii5 : PySem.W.findIn K (.ref C5) "__init__" = some (some (.ref g5)))
    (gl5 : K.lookup g5 = some ⟨goc5, god5, .func (PySem.W.fnOf "__init__" "NoLink.__init__" (defArgs (inClass (topS 5) 0)) (defBody (inClass (topS 5) 0)) (defScope (inClass (topS 5) 0)) .none gkV5 gdc5 gpm5 gan5 gcd5 gct5), gsl5⟩)
    (gc5 : PySem.W.codeIn K gcd5 "NoLink.__init__" = true)
    (gk5 : PySem.W.keepIn K (.ref g5) = true)
    (gt5 : PySem.W.typeIn K (.ref g5) = some (.type "function"))
    (no5value : PySem.W.findIn K (.ref C5) "value" = some none)
    (aC6 : PySem.W.nsIn K mainGlobals "BadText" = some (some (.ref C6)))
    (xL6 : K.lookup C6 = some (excClassObj nm6 q6 C6 N6 bs6 [.ref C2, .type "ValueError", .type "Exception", .type "BaseException", .type "object"] true sn6 sub6 ab6 col6 dd6 m06 m16 m26 m36 m56 "ValueError.__new__"))
    (sa6 : PySem.W.findIn K (.ref C6) "__setattr__" = some (some (.builtin "object.__setattr__")))
    (ga6 : PySem.W.findIn K (.ref C6) "__getattribute__" = some (some (.builtin "BaseException.__getattribute__")))
    (gg6 : PySem.W.findIn K (.ref C6) "__getattr__" = some none)
    (hc6 : PySem.W.findIn K (.ref C6) "__class__" = some (some (.builtin "object.__class__")))
    (kC6 : PySem.W.keepIn K (.ref C6) = true)
    (ii6 : PySem.W.findIn K (.ref C6) "__init__" = some (some (.ref g6)))
    (gl6 : K.lookup g6 = some ⟨goc6, god6, .func (PySem.W.fnOf "__init__" "BadText.__init__" (defArgs (inClass (topS 6) 0)) (defBody (inClass (topS 6) 0)) (defScope (inClass (topS 6) 0)) .none gkV6 gdc6 gpm6 gan6 gcd6 gct6), gsl6⟩)
    (gc6 : PySem.W.codeIn K gcd6 "BadText.__init__" = true)
    (gk6 : PySem.W.keepIn K (.ref g6) = true)
    (gt6 : PySem.W.typeIn K (.ref g6) = some (.type "function"))
    (no6value : PySem.W.findIn K (.ref C6) "value" = some none)
    (aN : PySem.W.nsIn K mainGlobals "Net" = some (some (.ref CN)))
    (pg : PySem.W.plainGet K CN Str.empty = true)
    (hd : PySem.W.hasDictIn K CN = true)
    (po : PySem.W.plainOver K CN = true)
    (sN : PySem.W.findIn K (.ref CN) "__setattr__" = some (some (.builtin "object.__setattr__")))
    (mk : PySem.W.makesIn K CN = true)
    (kN : PySem.W.keepIn K (.ref CN) = true)
    (nf_routers : PySem.W.findIn K (.ref CN) "_routers" = some none)
    (nf_links : PySem.W.findIn K (.ref CN) "_links" = some none)
    (a100 : PySem.W.findIn K (.ref CN) "__init__" = some (some (.ref f100)))
    (i100 : PySem.W.isFn K (.ref f100) = true)
    (l100 : K.lookup f100 = some ⟨oc100, od100, .func (PySem.W.fnOf "__init__" "Net.__init__" (defArgs s_m_init) (defBody s_m_init) (defScope s_m_init) .none kV100 dc100 pm100 an100 cd100 ct100), sl100⟩)
    (c100 : PySem.W.codeIn K cd100 "Net.__init__" = true)
    (k100 : PySem.W.keepIn K (.ref f100) = true)
    (pa101 : PySem.W.findIn K (.ref CN) "routers" = some (some (.ref pp101)))
    (pb101 : PySem.W.specialIn K (.ref pp101) "__get__" = some (some (.builtin "property.__get__")))
    (pc101 : PySem.W.takesIn K (.ref pp101) = some true)
    (pd101 : PySem.W.recIn K pp101 "property" = some (.ref f101 :: pr101))
    (l101 : K.lookup f101 = some ⟨oc101, od101, .func (PySem.W.fnOf "routers" "Net.routers" (defArgs s_m_routers) (defBody s_m_routers) (defScope s_m_routers) .none kV101 dc101 pm101 an101 cd101 ct101), sl101⟩)
    (c101 : PySem.W.codeIn K cd101 "Net.routers" = true)
    (k101 : PySem.W.keepIn K (.ref f101) = true)
    (pa102 : PySem.W.findIn K (.ref CN) "links" = some (some (.ref pp102)))
    (pb102 : PySem.W.specialIn K (.ref pp102) "__get__" = some (some (.builtin "property.__get__")))
    (pc102 : PySem.W.takesIn K (.ref pp102) = some true)
    (pd102 : PySem.W.recIn K pp102 "property" = some (.ref f102 :: pr102))
    (l102 : K.lookup f102 = some ⟨oc102, od102, .func (PySem.W.fnOf "links" "Net.links" (defArgs s_m_links) (defBody s_m_links) (defScope s_m_links) .none kV102 dc102 pm102 an102 cd102 ct102), sl102⟩)
    (c102 : PySem.W.codeIn K cd102 "Net.links" = true)
    (k102 : PySem.W.keepIn K (.ref f102) = true)
    (a103 : PySem.W.findIn K (.ref CN) "__eq__" = some (some (.ref f103)))
    (i103 : PySem.W.isFn K (.ref f103) = true)
    (l103 : K.lookup f103 = some ⟨oc103, od103, .func (PySem.W.fnOf "__eq__" "Net.__eq__" (defArgs s_m_u_eq_) (defBody s_m_u_eq_) (defScope s_m_u_eq_) .none kV103 dc103 pm103 an103 cd103 ct103), sl103⟩)
    (c103 : PySem.W.codeIn K cd103 "Net.__eq__" = true)
    (k103 : PySem.W.keepIn K (.ref f103) = true)
    (eN : PySem.W.findIn K (.ref CN) "__ne__" = some (some (.builtin "object.__ne__")))
    (eO : PySem.W.mroIn K CN (.type "object") = some true)
    (eH : PySem.W.findIn K (.ref CN) "__class__" = some (some (.builtin "object.__class__")))
    (eJ : PySem.W.typeIn K (.ref CN) = some (.type "type"))
    (a104 : PySem.W.findIn K (.ref CN) "length" = some (some (.ref f104)))
    (i104 : PySem.W.isFn K (.ref f104) = true)
    (l104 : K.lookup f104 = some ⟨oc104, od104, .func (PySem.W.fnOf "length" "Net.length" (defArgs s_m_length) (defBody s_m_length) (defScope s_m_length) .none kV104 dc104 pm104 an104 cd104 ct104), sl104⟩)
    (c104 : PySem.W.codeIn K cd104 "Net.length" = true)
    (k104 : PySem.W.keepIn K (.ref f104) = true)
    (a105 : PySem.W.findIn K (.ref CN) "with_link" = some (some (.ref f105)))
    (i105 : PySem.W.isFn K (.ref f105) = true)
    (l105 : K.lookup f105 = some ⟨oc105, od105, .func (PySem.W.fnOf "with_link" "Net.with_link" (defArgs s_m_with_link) (defBody s_m_with_link) (defScope s_m_with_link) .none kV105 dc105 pm105 an105 cd105 ct105), sl105⟩)
    (c105 : PySem.W.codeIn K cd105 "Net.with_link" = true)
    (k105 : PySem.W.keepIn K (.ref f105) = true)
    (a106 : PySem.W.findIn K (.ref CN) "without" = some (some (.ref f106)))
    (i106 : PySem.W.isFn K (.ref f106) = true)
    (l106 : K.lookup f106 = some ⟨oc106, od106, .func (PySem.W.fnOf "without" "Net.without" (defArgs s_m_without) (defBody s_m_without) (defScope s_m_without) .none kV106 dc106 pm106 an106 cd106 ct106), sl106⟩)
    (c106 : PySem.W.codeIn K cd106 "Net.without" = true)
    (k106 : PySem.W.keepIn K (.ref f106) = true)
    (a107 : PySem.W.findIn K (.ref CN) "_links_without" = some (some (.ref f107)))
    (i107 : PySem.W.isFn K (.ref f107) = true)
    (l107 : K.lookup f107 = some ⟨oc107, od107, .func (PySem.W.fnOf "_links_without" "Net._links_without" (defArgs s_m_u_links_without) (defBody s_m_u_links_without) (defScope s_m_u_links_without) .none kV107 dc107 pm107 an107 cd107 ct107), sl107⟩)
    (c107 : PySem.W.codeIn K cd107 "Net._links_without" = true)
    (k107 : PySem.W.keepIn K (.ref f107) = true)
    (zabs : PySem.W.nsIn K mainGlobals "abs" = some none)
    (zall : PySem.W.nsIn K mainGlobals "all" = some none)
    (zany : PySem.W.nsIn K mainGlobals "any" = some none)
    (zbool : PySem.W.nsIn K mainGlobals "bool" = some none)
    (zenumerate : PySem.W.nsIn K mainGlobals "enumerate" = some none)
    (zint : PySem.W.nsIn K mainGlobals "int" = some none)
    (zisinstance : PySem.W.nsIn K mainGlobals "isinstance" = some none)
    (zlen : PySem.W.nsIn K mainGlobals "len" = some none)
    (zlist : PySem.W.nsIn K mainGlobals "list" = some none)
    (zmax : PySem.W.nsIn K mainGlobals "max" = some none)
    (zmin : PySem.W.nsIn K mainGlobals "min" = some none)
    (zrange : PySem.W.nsIn K mainGlobals "range" = some none)
    (zrepr : PySem.W.nsIn K mainGlobals "repr" = some none)
    (zset : PySem.W.nsIn K mainGlobals "set" = some none)
    (zsorted : PySem.W.nsIn K mainGlobals "sorted" = some none)
    (zstr : PySem.W.nsIn K mainGlobals "str" = some none)
    (ztuple : PySem.W.nsIn K mainGlobals "tuple" = some none)
    (zzip : PySem.W.nsIn K mainGlobals "zip" = some none)
    (vLONGEST_NAME : PySem.W.nsIn K mainGlobals "LONGEST_NAME" = some (some (.int 8 tLONGEST_NAME)))
    (vMOST_DIGITS : PySem.W.nsIn K mainGlobals "MOST_DIGITS" = some (some (.int 9 tMOST_DIGITS)))
    (vFEWEST_ROUTERS : PySem.W.nsIn K mainGlobals "FEWEST_ROUTERS" = some (some (.int 2 tFEWEST_ROUTERS)))
    (vMOST_ROUTERS : PySem.W.nsIn K mainGlobals "MOST_ROUTERS" = some (some (.int 8 tMOST_ROUTERS)))
    (vMOST_LINKS : PySem.W.nsIn K mainGlobals "MOST_LINKS" = some (some (.int 16 tMOST_LINKS)))
    (inj : ([C2, C3, C4, C5, C6] : List Addr).Nodup)
    (hn : PySem.W.specialIn K (.builtin "object.__class__") "__get__" = some (some (.builtin "getset_descriptor.__get__")))
    (ht : PySem.W.takesIn K (.builtin "object.__class__") = some true) :
    ∃ fd : FuncData, (∀ (s : Shared) (v : Value), BindsTo s fd ⟨[v], []⟩ [("_law_script", v)]) ∧ ∀ base : Heap, K.In base → base.Ns mainGlobals mg → FnG P w K mg base CX0 17 fl fd ["_law_script"] (spLaw K) := by
  have e := hfl.symm.trans (PySem.W.mg_of X G a47)
  obtain rfl : f47 = fl := by
    injection e with e
    injection e with e
    exact e.symm
  let dF : FuncData := (PySem.W.fnOf "law" "law" (defArgs s_law) (defBody s_law) (defScope s_law) .none kV47 dc47 pm47 an47 cd47 ct47)
  have T : Txt K mg (fun i => ([0, 0, C2, C3, C4, C5, C6, 0, 0, 0, 0, 0, 0, 0, 0, 0, 0, 0, 0, 0, CN] : List Addr).getD i 0) (fun i => ([0, 0, 0, g3, g4, g5, g6, 0, 0, 0, 0, 0, 0, 0, 0, 0, 0, 0, 0, 0, 0, 0, 0, 0, 0, 0, 0, 0, 0, 0, 0, 0, 0, 0, 0, 0, 0, 0, 0, 0, 0, 0, 0, 0, 0, 0, 0, 0, 0, 0, 0, 0, 0, 0, 0, 0, 0, 0, 0, 0, 0, 0, 0, 0, 0, 0, 0, 0, 0, 0, 0, 0, 0, 0, 0, 0, 0, 0, 0, 0, 0, 0, 0, 0, 0, 0, 0, 0, 0, 0, 0, 0, 0, 0, 0, 0, 0, 0, 0, 0, f100, f101, f102, f103, f104, f105, f106, f107] : List Addr).getD i 0) (fun i => ([f0, 0, 0, 0, 0, 0, 0, 0, 0, f9, f10, f11, f12, 0, 0, f15, 0, 0, 0, 0, 0, f21, f22, f23, f24, f25, f26, 0, f28, f29, f30, f31, f32, f33, 0, f35, f36, f37, f38, f39, f40, f41, f42, f43, f44, f45, f46, f47] : List Addr).getD i 0) (fun i => ([(PySem.W.fnOf "_wall" "_wall" (defArgs s__wall) (defBody s__wall) (defScope s__wall) .none kV0 dc0 pm0 an0 cd0 ct0), (PySem.W.fnOf "law" "law" (defArgs s_law) (defBody s_law) (defScope s_law) .none kV47 dc47 pm47 an47 cd47 ct47), (PySem.W.fnOf "law" "law" (defArgs s_law) (defBody s_law) (defScope s_law) .none kV47 dc47 pm47 an47 cd47 ct47), (PySem.W.fnOf "law" "law" (defArgs s_law) (defBody s_law) (defScope s_law) .none kV47 dc47 pm47 an47 cd47 ct47), (PySem.W.fnOf "law" "law" (defArgs s_law) (defBody s_law) (defScope s_law) .none kV47 dc47 pm47 an47 cd47 ct47), (PySem.W.fnOf "law" "law" (defArgs s_law) (defBody s_law) (defScope s_law) .none kV47 dc47 pm47 an47 cd47 ct47), (PySem.W.fnOf "law" "law" (defArgs s_law) (defBody s_law) (defScope s_law) .none kV47 dc47 pm47 an47 cd47 ct47), (PySem.W.fnOf "law" "law" (defArgs s_law) (defBody s_law) (defScope s_law) .none kV47 dc47 pm47 an47 cd47 ct47), (PySem.W.fnOf "law" "law" (defArgs s_law) (defBody s_law) (defScope s_law) .none kV47 dc47 pm47 an47 cd47 ct47), (PySem.W.fnOf "is_integer" "is_integer" (defArgs s_is_integer) (defBody s_is_integer) (defScope s_is_integer) .none kV9 dc9 pm9 an9 cd9 ct9), (PySem.W.fnOf "is_integer_from" "is_integer_from" (defArgs s_is_integer_from) (defBody s_is_integer_from) (defScope s_is_integer_from) .none kV10 dc10 pm10 an10 cd10 ct10), (PySem.W.fnOf "is_name" "is_name" (defArgs s_is_name) (defBody s_is_name) (defScope s_is_name) .none kV11 dc11 pm11 an11 cd11 ct11), (PySem.W.fnOf "is_rising" "is_rising" (defArgs s_is_rising) (defBody s_is_rising) (defScope s_is_rising) .none kV12 dc12 pm12 an12 cd12 ct12), (PySem.W.fnOf "law" "law" (defArgs s_law) (defBody s_law) (defScope s_law) .none kV47 dc47 pm47 an47 cd47 ct47), (PySem.W.fnOf "law" "law" (defArgs s_law) (defBody s_law) (defScope s_law) .none kV47 dc47 pm47 an47 cd47 ct47), (PySem.W.fnOf "number_of" "number_of" (defArgs s_number_of) (defBody s_number_of) (defScope s_number_of) .none kV15 dc15 pm15 an15 cd15 ct15), (PySem.W.fnOf "law" "law" (defArgs s_law) (defBody s_law) (defScope s_law) .none kV47 dc47 pm47 an47 cd47 ct47), (PySem.W.fnOf "law" "law" (defArgs s_law) (defBody s_law) (defScope s_law) .none kV47 dc47 pm47 an47 cd47 ct47), (PySem.W.fnOf "law" "law" (defArgs s_law) (defBody s_law) (defScope s_law) .none kV47 dc47 pm47 an47 cd47 ct47), (PySem.W.fnOf "law" "law" (defArgs s_law) (defBody s_law) (defScope s_law) .none kV47 dc47 pm47 an47 cd47 ct47), (PySem.W.fnOf "law" "law" (defArgs s_law) (defBody s_law) (defScope s_law) .none kV47 dc47 pm47 an47 cd47 ct47), (PySem.W.fnOf "need_routers" "need_routers" (defArgs s_need_routers) (defBody s_need_routers) (defScope s_need_routers) .none kV21 dc21 pm21 an21 cd21 ct21), (PySem.W.fnOf "need_router" "need_router" (defArgs s_need_router) (defBody s_need_router) (defScope s_need_router) .none kV22 dc22 pm22 an22 cd22 ct22), (PySem.W.fnOf "is_length" "is_length" (defArgs s_is_length) (defBody s_is_length) (defScope s_is_length) .none kV23 dc23 pm23 an23 cd23 ct23), (PySem.W.fnOf "are_routers" "are_routers" (defArgs s_are_routers) (defBody s_are_routers) (defScope s_are_routers) .none kV24 dc24 pm24 an24 cd24 ct24), (PySem.W.fnOf "are_links" "are_links" (defArgs s_are_links) (defBody s_are_links) (defScope s_are_links) .none kV25 dc25 pm25 an25 cd25 ct25), (PySem.W.fnOf "is_link" "is_link" (defArgs s_is_link) (defBody s_is_link) (defScope s_is_link) .none kV26 dc26 pm26 an26 cd26 ct26), (PySem.W.fnOf "law" "law" (defArgs s_law) (defBody s_law) (defScope s_law) .none kV47 dc47 pm47 an47 cd47 ct47), (PySem.W.fnOf "show_net" "show_net" (defArgs s_show_net) (defBody s_show_net) (defScope s_show_net) .none kV28 dc28 pm28 an28 cd28 ct28), (PySem.W.fnOf "read_net" "read_net" (defArgs s_read_net) (defBody s_read_net) (defScope s_read_net) .none kV29 dc29 pm29 an29 cd29 ct29), (PySem.W.fnOf "rows_of" "rows_of" (defArgs s_rows_of) (defBody s_rows_of) (defScope s_rows_of) .none kV30 dc30 pm30 an30 cd30 ct30), (PySem.W.fnOf "net_parts" "net_parts" (defArgs s_net_parts) (defBody s_net_parts) (defScope s_net_parts) .none kV31 dc31 pm31 an31 cd31 ct31), (PySem.W.fnOf "routers_of" "routers_of" (defArgs s_routers_of) (defBody s_routers_of) (defScope s_routers_of) .none kV32 dc32 pm32 an32 cd32 ct32), (PySem.W.fnOf "link_of" "link_of" (defArgs s_link_of) (defBody s_link_of) (defScope s_link_of) .none kV33 dc33 pm33 an33 cd33 ct33), (PySem.W.fnOf "law" "law" (defArgs s_law) (defBody s_law) (defScope s_law) .none kV47 dc47 pm47 an47 cd47 ct47), (PySem.W.fnOf "_law_pot" "_law_pot" (defArgs s_l_pot) (defBody s_l_pot) (defScope s_l_pot) .none kV35 dc35 pm35 an35 cd35 ct35), (PySem.W.fnOf "_law_take" "_law_take" (defArgs s_l_take) (defBody s_l_take) (defScope s_l_take) .none kV36 dc36 pm36 an36 cd36 ct36), (PySem.W.fnOf "_law_pots" "_law_pots" (defArgs s_l_pots) (defBody s_l_pots) (defScope s_l_pots) .none kV37 dc37 pm37 an37 cd37 ct37), (PySem.W.fnOf "_law_of" "_law_of" (defArgs s_l_of) (defBody s_l_of) (defScope s_l_of) .none kV38 dc38 pm38 an38 cd38 ct38), (PySem.W.fnOf "_law_turned" "_law_turned" (defArgs s_l_turned) (defBody s_l_turned) (defScope s_l_turned) .none kV39 dc39 pm39 an39 cd39 ct39), (PySem.W.fnOf "_law_names" "_law_names" (defArgs s_l_names) (defBody s_l_names) (defScope s_l_names) .none kV40 dc40 pm40 an40 cd40 ct40), (PySem.W.fnOf "_law_far" "_law_far" (defArgs s_l_far) (defBody s_l_far) (defScope s_l_far) .none kV41 dc41 pm41 an41 cd41 ct41), (PySem.W.fnOf "_law_pairs" "_law_pairs" (defArgs s_l_pairs) (defBody s_l_pairs) (defScope s_l_pairs) .none kV42 dc42 pm42 an42 cd42 ct42), (PySem.W.fnOf "_law_world" "_law_world" (defArgs s_l_world) (defBody s_l_world) (defScope s_l_world) .none kV43 dc43 pm43 an43 cd43 ct43), (PySem.W.fnOf "_law_made" "_law_made" (defArgs s_l_made) (defBody s_l_made) (defScope s_l_made) .none kV44 dc44 pm44 an44 cd44 ct44), (PySem.W.fnOf "_law_net_page" "_law_net_page" (defArgs s_l_net_page) (defBody s_l_net_page) (defScope s_l_net_page) .none kV45 dc45 pm45 an45 cd45 ct45), (PySem.W.fnOf "_law_fine" "_law_fine" (defArgs s_l_fine) (defBody s_l_fine) (defScope s_l_fine) .none kV46 dc46 pm46 an46 cd46 ct46), (PySem.W.fnOf "law" "law" (defArgs s_law) (defBody s_law) (defScope s_law) .none kV47 dc47 pm47 an47 cd47 ct47)] : List FuncData).getD i (PySem.W.fnOf "law" "law" (defArgs s_law) (defBody s_law) (defScope s_law) .none kV47 dc47 pm47 an47 cd47 ct47)) (fun i => ([dF, dF, dF, (PySem.W.fnOf "__init__" "BadNet.__init__" (defArgs (inClass (topS 3) 0)) (defBody (inClass (topS 3) 0)) (defScope (inClass (topS 3) 0)) .none gkV3 gdc3 gpm3 gan3 gcd3 gct3), (PySem.W.fnOf "__init__" "NoRouter.__init__" (defArgs (inClass (topS 4) 0)) (defBody (inClass (topS 4) 0)) (defScope (inClass (topS 4) 0)) .none gkV4 gdc4 gpm4 gan4 gcd4 gct4), (PySem.W.fnOf "__init__" "NoLink.__init__" (defArgs (inClass (topS 5) 0)) (defBody (inClass (topS 5) 0)) (defScope (inClass (topS 5) 0)) .none gkV5 gdc5 gpm5 gan5 gcd5 gct5), (PySem.W.fnOf "__init__" "BadText.__init__" (defArgs (inClass (topS 6) 0)) (defBody (inClass (topS 6) 0)) (defScope (inClass (topS 6) 0)) .none gkV6 gdc6 gpm6 gan6 gcd6 gct6), dF, dF, dF, dF, dF, dF, dF, dF, dF, dF, dF, dF, dF, dF, dF, dF, dF, dF, dF, dF, dF, dF, dF, dF, dF, dF, dF, dF, dF, dF, dF, dF, dF, dF, dF, dF, dF, dF, dF, dF, dF, dF, dF, dF, dF, dF, dF, dF, dF, dF, dF, dF, dF, dF, dF, dF, dF, dF, dF, dF, dF, dF, dF, dF, dF, dF, dF, dF, dF, dF, dF, dF, dF, dF, dF, dF, dF, dF, dF, dF, dF, dF, dF, dF, dF, dF, dF, dF, dF, dF, dF, dF, dF, (PySem.W.fnOf "__init__" "Net.__init__" (defArgs s_m_init) (defBody s_m_init) (defScope s_m_init) .none kV100 dc100 pm100 an100 cd100 ct100), (PySem.W.fnOf "routers" "Net.routers" (defArgs s_m_routers) (defBody s_m_routers) (defScope s_m_routers) .none kV101 dc101 pm101 an101 cd101 ct101), (PySem.W.fnOf "links" "Net.links" (defArgs s_m_links) (defBody s_m_links) (defScope s_m_links) .none kV102 dc102 pm102 an102 cd102 ct102), (PySem.W.fnOf "__eq__" "Net.__eq__" (defArgs s_m_u_eq_) (defBody s_m_u_eq_) (defScope s_m_u_eq_) .none kV103 dc103 pm103 an103 cd103 ct103), (PySem.W.fnOf "length" "Net.length" (defArgs s_m_length) (defBody s_m_length) (defScope s_m_length) .none kV104 dc104 pm104 an104 cd104 ct104), (PySem.W.fnOf "with_link" "Net.with_link" (defArgs s_m_with_link) (defBody s_m_with_link) (defScope s_m_with_link) .none kV105 dc105 pm105 an105 cd105 ct105), (PySem.W.fnOf "without" "Net.without" (defArgs s_m_without) (defBody s_m_without) (defScope s_m_without) .none kV106 dc106 pm106 an106 cd106 ct106), (PySem.W.fnOf "_links_without" "Net._links_without" (defArgs s_m_u_links_without) (defBody s_m_u_links_without) (defScope s_m_u_links_without) .none kV107 dc107 pm107 an107 cd107 ct107)] : List FuncData).getD i dF) :=
    { F__wall := fun_mk (st := s__wall) l0 c0 k0
      g__wall := PySem.W.mg_of X G a0
      F_is_integer := fun_mk (st := s_is_integer) l9 c9 k9
      g_is_integer := PySem.W.mg_of X G a9
      F_is_integer_from := fun_mk (st := s_is_integer_from) l10 c10 k10
      g_is_integer_from := PySem.W.mg_of X G a10
      F_is_name := fun_mk (st := s_is_name) l11 c11 k11
      g_is_name := PySem.W.mg_of X G a11
      F_is_rising := fun_mk (st := s_is_rising) l12 c12 k12
      g_is_rising := PySem.W.mg_of X G a12
      F_number_of := fun_mk (st := s_number_of) l15 c15 k15
      g_number_of := PySem.W.mg_of X G a15
      F_need_routers := fun_mk (st := s_need_routers) l21 c21 k21
      g_need_routers := PySem.W.mg_of X G a21
      F_need_router := fun_mk (st := s_need_router) l22 c22 k22
      g_need_router := PySem.W.mg_of X G a22
      F_is_length := fun_mk (st := s_is_length) l23 c23 k23
      g_is_length := PySem.W.mg_of X G a23
      F_are_routers := fun_mk (st := s_are_routers) l24 c24 k24
      g_are_routers := PySem.W.mg_of X G a24
      F_are_links := fun_mk (st := s_are_links) l25 c25 k25
      g_are_links := PySem.W.mg_of X G a25
      F_is_link := fun_mk (st := s_is_link) l26 c26 k26
      g_is_link := PySem.W.mg_of X G a26
      F_show_net := fun_mk (st := s_show_net) l28 c28 k28
      g_show_net := PySem.W.mg_of X G a28
      F_read_net := fun_mk (st := s_read_net) l29 c29 k29
      g_read_net := PySem.W.mg_of X G a29
      F_rows_of := fun_mk (st := s_rows_of) l30 c30 k30
      g_rows_of := PySem.W.mg_of X G a30
      F_net_parts := fun_mk (st := s_net_parts) l31 c31 k31
      g_net_parts := PySem.W.mg_of X G a31
      F_routers_of := fun_mk (st := s_routers_of) l32 c32 k32
      g_routers_of := PySem.W.mg_of X G a32
      F_link_of := fun_mk (st := s_link_of) l33 c33 k33
      g_link_of := PySem.W.mg_of X G a33
      F_l_pot := fun_mk (st := s_l_pot) l35 c35 k35
      g_l_pot := PySem.W.mg_of X G a35
      F_l_take := fun_mk (st := s_l_take) l36 c36 k36
      g_l_take := PySem.W.mg_of X G a36
      F_l_pots := fun_mk (st := s_l_pots) l37 c37 k37
      g_l_pots := PySem.W.mg_of X G a37
      F_l_of := fun_mk (st := s_l_of) l38 c38 k38
      g_l_of := PySem.W.mg_of X G a38
      F_l_turned := fun_mk (st := s_l_turned) l39 c39 k39
      g_l_turned := PySem.W.mg_of X G a39
      F_l_names := fun_mk (st := s_l_names) l40 c40 k40
      g_l_names := PySem.W.mg_of X G a40
      F_l_far := fun_mk (st := s_l_far) l41 c41 k41
      g_l_far := PySem.W.mg_of X G a41
      F_l_pairs := fun_mk (st := s_l_pairs) l42 c42 k42
      g_l_pairs := PySem.W.mg_of X G a42
      F_l_world := fun_mk (st := s_l_world) l43 c43 k43
      g_l_world := PySem.W.mg_of X G a43
      F_l_made := fun_mk (st := s_l_made) l44 c44 k44
      g_l_made := PySem.W.mg_of X G a44
      F_l_net_page := fun_mk (st := s_l_net_page) l45 c45 k45
      g_l_net_page := PySem.W.mg_of X G a45
      F_l_fine := fun_mk (st := s_l_fine) l46 c46 k46
      g_l_fine := PySem.W.mg_of X G a46
      F_law := fun_mk (st := s_law) l47 c47 k47
      g_law := PySem.W.mg_of X G a47
      cN := ⟨PySem.W.mg_of X G aC2, ⟨_, _, _, _, _, _, _, _, _, _, _, _, _, _, xL2⟩⟩
      c_BadNet := ⟨PySem.W.mg_of X G aC3, ⟨_, _, _, _, _, _, _, _, _, _, _, _, _, _, xL3⟩, sa3, ga3, gg3, hc3, kC3⟩
      FI_BadNet := fun_mk (st := inClass (topS 3) 0) gl3 gc3 gk3
      iC_BadNet := ii3
      tI_BadNet := gt3
      no_BadNet_value := no3value
      c_NoRouter := ⟨PySem.W.mg_of X G aC4, ⟨_, _, _, _, _, _, _, _, _, _, _, _, _, _, xL4⟩, sa4, ga4, gg4, hc4, kC4⟩
      FI_NoRouter := fun_mk (st := inClass (topS 4) 0) gl4 gc4 gk4
      iC_NoRouter := ii4
      tI_NoRouter := gt4
      no_NoRouter_value := no4value
      c_NoLink := ⟨PySem.W.mg_of X G aC5, ⟨_, _, _, _, _, _, _, _, _, _, _, _, _, _, xL5⟩, sa5, ga5, gg5, hc5, kC5⟩
      FI_NoLink := fun_mk (st := inClass (topS 5) 0) gl5 gc5 gk5
      iC_NoLink := ii5
      tI_NoLink := gt5
      no_NoLink_value := no5value
      c_BadText := ⟨PySem.W.mg_of X G aC6, ⟨_, _, _, _, _, _, _, _, _, _, _, _, _, _, xL6⟩, sa6, ga6, gg6, hc6, kC6⟩
      FI_BadText := fun_mk (st := inClass (topS 6) 0) gl6 gc6 gk6
      iC_BadText := ii6
      tI_BadText := gt6
      no_BadText_value := no6value
      g_Net := PySem.W.mg_of X G aN
      cl_Net := ⟨pg, hd, po, sN⟩
      no_Net_routers := nf_routers
      no_Net_links := nf_links
      F_m_init := fun_mk (st := s_m_init) l100 c100 k100
      M_Net := ⟨mk, a100, i100, kN⟩
      P_routers := ⟨pp101, pa101, pb101, pc101, pr101, pd101⟩
      F_m_routers := fun_mk (st := s_m_routers) l101 c101 k101
      P_links := ⟨pp102, pa102, pb102, pc102, pr102, pd102⟩
      F_m_links := fun_mk (st := s_m_links) l102 c102 k102
      F_m_u_eq_ := fun_mk (st := s_m_u_eq_) l103 c103 k103
      E_Net := ⟨a103, i103⟩
      N_Net := eN
      O_Net := eO
      H_Net := eH
      I_Net := eJ
      F_m_length := fun_mk (st := s_m_length) l104 c104 k104
      Me_m_length := ⟨a104, i104, k104⟩
      F_m_with_link := fun_mk (st := s_m_with_link) l105 c105 k105
      F_m_without := fun_mk (st := s_m_without) l106 c106 k106
      Me_m_without := ⟨a106, i106, k106⟩
      F_m_u_links_without := fun_mk (st := s_m_u_links_without) l107 c107 k107
      Me_m_u_links_without := ⟨a107, i107, k107⟩
      n_abs := PySem.W.mg_none_of X G zabs
      n_all := PySem.W.mg_none_of X G zall
      n_any := PySem.W.mg_none_of X G zany
      n_bool := PySem.W.mg_none_of X G zbool
      n_enumerate := PySem.W.mg_none_of X G zenumerate
      n_int := PySem.W.mg_none_of X G zint
      n_isinstance := PySem.W.mg_none_of X G zisinstance
      n_len := PySem.W.mg_none_of X G zlen
      n_list := PySem.W.mg_none_of X G zlist
      n_max := PySem.W.mg_none_of X G zmax
      n_min := PySem.W.mg_none_of X G zmin
      n_range := PySem.W.mg_none_of X G zrange
      n_repr := PySem.W.mg_none_of X G zrepr
      n_set := PySem.W.mg_none_of X G zset
      n_sorted := PySem.W.mg_none_of X G zsorted
      n_str := PySem.W.mg_none_of X G zstr
      n_tuple := PySem.W.mg_none_of X G ztuple
      n_zip := PySem.W.mg_none_of X G zzip
      v_LONGEST_NAME := ⟨tLONGEST_NAME, PySem.W.mg_of X G vLONGEST_NAME⟩
      v_MOST_DIGITS := ⟨tMOST_DIGITS, PySem.W.mg_of X G vMOST_DIGITS⟩
      v_FEWEST_ROUTERS := ⟨tFEWEST_ROUTERS, PySem.W.mg_of X G vFEWEST_ROUTERS⟩
      v_MOST_ROUTERS := ⟨tMOST_ROUTERS, PySem.W.mg_of X G vMOST_ROUTERS⟩
      v_MOST_LINKS := ⟨tMOST_LINKS, PySem.W.mg_of X G vMOST_LINKS⟩
      nd := inj
      hn := hn
      ht := ht }
  exact ⟨(PySem.W.fnOf "law" "law" (defArgs s_law) (defBody s_law) (defScope s_law) .none kV47 dc47 pm47 an47 cd47 ct47), fun s v => .of_eq rfl, fun base _ _ => ok_law T⟩

end Toy
set_option Elab.async false
open PySem PySem.W PyProof.Rows in
set_option maxRecDepth 100000 in
set_option maxHeartbeats 0 in
theorem PySem.Challenge.cw_quietturns_k63_nets_as_texts_holds : PySem.Challenge.rw_quietturns_k63_nets_as_texts.Holds := by
  w_on; o_law; k_head; (case hw => w_witness2)
  k_fill
  refine Q.walkG (l := PySem.Challenge.rw_quietturns_k63_nets_as_texts) (n := 63) (k := 17) (x := "_law_script") (sp := Toy.spLaw) rfl (by decide) rfl ⟨rfl, by decide, by decide⟩ (fun w h Y => PySem.W.kIn_of Y) ?F (fun K H a ns hn _ hS => ⟨a, ns, rfl, hS, hn, fun _ => rfl⟩)
  case F =>
    intro w mg fa h KX G hmg
    refine' Toy.all_mk KX G hmg ?a0 ?l0 ?c0 ?k0 ?a9 ?l9 ?c9 ?k9 ?a10 ?l10 ?c10 ?k10 ?a11 ?l11 ?c11 ?k11 ?a12 ?l12 ?c12 ?k12 ?a15 ?l15 ?c15 ?k15 ?a21 ?l21 ?c21 ?k21 ?a22 ?l22 ?c22 ?k22 ?a23 ?l23 ?c23 ?k23 ?a24 ?l24 ?c24 ?k24 ?a25 ?l25 ?c25 ?k25 ?a26 ?l26 ?c26 ?k26 ?a28 ?l28 ?c28 ?k28 ?a29 ?l29 ?c29 ?k29 ?a30 ?l30 ?c30 ?k30 ?a31 ?l31 ?c31 ?k31 ?a32 ?l32 ?c32 ?k32 ?a33 ?l33 ?c33 ?k33 ?a35 ?l35 ?c35 ?k35 ?a36 ?l36 ?c36 ?k36 ?a37 ?l37 ?c37 ?k37 ?a38 ?l38 ?c38 ?k38 ?a39 ?l39 ?c39 ?k39 ?a40 ?l40 ?c40 ?k40 ?a41 ?l41 ?c41 ?k41 ?a42 ?l42 ?c42 ?k42 ?a43 ?l43 ?c43 ?k43 ?a44 ?l44 ?c44 ?k44 ?a45 ?l45 ?c45 ?k45 ?a46 ?l46 ?c46 ?k46 ?a47 ?l47 ?c47 ?k47 ?aC2 ?xL2 ?aC3 ?xL3 ?sa3 ?ga3 ?gg3 ?hc3 ?kC3 ?ii3 ?gl3 ?gc3 ?gk3 ?gt3 ?no3value ?aC4 ?xL4 ?sa4 ?ga4 ?gg4 ?hc4 ?kC4 ?ii4 ?gl4 ?gc4 ?gk4 ?gt4 ?no4value ?aC5 ?xL5 ?sa5 ?ga5 ?gg5 ?hc5 ?kC5 ?ii5 ?gl5 ?gc5 ?gk5 ?gt5 ?no5value ?aC6 ?xL6 ?sa6 ?ga6 ?gg6 ?hc6 ?kC6 ?ii6 ?gl6 ?gc6 ?gk6 ?gt6 ?no6value ?aN ?pg ?hd ?po ?sN ?mk ?kN ?nf_routers ?nf_links ?a100 ?i100 ?l100 ?c100 ?k100 ?pa101 ?pb101 ?pc101 ?pd101 ?l101 ?c101 ?k101 ?pa102 ?pb102 ?pc102 ?pd102 ?l102 ?c102 ?k102 ?a103 ?i103 ?l103 ?c103 ?k103 ?eN ?eO ?eH ?eJ ?a104 ?i104 ?l104 ?c104 ?k104 ?a105 ?i105 ?l105 ?c105 ?k105 ?a106 ?i106 ?l106 ?c106 ?k106 ?a107 ?i107 ?l107 ?c107 ?k107 ?zabs ?zall ?zany ?zbool ?zenumerate ?zint ?zisinstance ?zlen ?zlist ?zmax ?zmin ?zrange ?zrepr ?zset ?zsorted ?zstr ?ztuple ?zzip ?vLONGEST_NAME ?vMOST_DIGITS ?vFEWEST_ROUTERS ?vMOST_ROUTERS ?vMOST_LINKS ?inj ?hn ?ht
    (case a0 => k_is)
    (case l0 => k_is)
    (case c0 => k_is)
    (case k0 => k_is)
    (case a9 => k_is)
    (case l9 => k_is)
    (case c9 => k_is)
    (case k9 => k_is)
    (case a10 => k_is)
    (case l10 => k_is)
    (case c10 => k_is)
    (case k10 => k_is)
    (case a11 => k_is)
    (case l11 => k_is)
    (case c11 => k_is)
    (case k11 => k_is)
    (case a12 => k_is)
    (case l12 => k_is)
    (case c12 => k_is)
    (case k12 => k_is)
    (case a15 => k_is)
    (case l15 => k_is)
    (case c15 => k_is)
    (case k15 => k_is)
    (case a21 => k_is)
    (case l21 => k_is)
    (case c21 => k_is)
    (case k21 => k_is)
    (case a22 => k_is)
    (case l22 => k_is)
    (case c22 => k_is)
    (case k22 => k_is)
    (case a23 => k_is)
    (case l23 => k_is)
    (case c23 => k_is)
    (case k23 => k_is)
    (case a24 => k_is)
    (case l24 => k_is)
    (case c24 => k_is)
    (case k24 => k_is)
    (case a25 => k_is)
    (case l25 => k_is)
    (case c25 => k_is)
    (case k25 => k_is)
    (case a26 => k_is)
    (case l26 => k_is)
    (case c26 => k_is)
    (case k26 => k_is)
    (case a28 => k_is)
    (case l28 => k_is)
    (case c28 => k_is)
    (case k28 => k_is)
    (case a29 => k_is)
    (case l29 => k_is)
    (case c29 => k_is)
    (case k29 => k_is)
    (case a30 => k_is)
    (case l30 => k_is)
    (case c30 => k_is)
    (case k30 => k_is)
    (case a31 => k_is)
    (case l31 => k_is)
    (case c31 => k_is)
    (case k31 => k_is)
    (case a32 => k_is)
    (case l32 => k_is)
    (case c32 => k_is)
    (case k32 => k_is)
    (case a33 => k_is)
    (case l33 => k_is)
    (case c33 => k_is)
    (case k33 => k_is)
    (case a35 => k_is)
    (case l35 => k_is)
    (case c35 => k_is)
    (case k35 => k_is)
    (case a36 => k_is)
    (case l36 => k_is)
    (case c36 => k_is)
    (case k36 => k_is)
    (case a37 => k_is)
    (case l37 => k_is)
    (case c37 => k_is)
    (case k37 => k_is)
    (case a38 => k_is)
    (case l38 => k_is)
    (case c38 => k_is)
    (case k38 => k_is)
    (case a39 => k_is)
    (case l39 => k_is)
    (case c39 => k_is)
    (case k39 => k_is)
    (case a40 => k_is)
    (case l40 => k_is)
    (case c40 => k_is)
    (case k40 => k_is)
    (case a41 => k_is)
    (case l41 => k_is)
    (case c41 => k_is)
    (case k41 => k_is)
    (case a42 => k_is)
    (case l42 => k_is)
    (case c42 => k_is)
    (case k42 => k_is)
    (case a43 => k_is)
    (case l43 => k_is)
    (case c43 => k_is)
    (case k43 => k_is)
    (case a44 => k_is)
    (case l44 => k_is)
    (case c44 => k_is)
    (case k44 => k_is)
    (case a45 => k_is)
    (case l45 => k_is)
    (case c45 => k_is)
    (case k45 => k_is)
    (case a46 => k_is)
    (case l46 => k_is)
    (case c46 => k_is)
    (case k46 => k_is)
    (case a47 => k_is)
    (case l47 => k_is)
    (case c47 => k_is)
    (case k47 => k_is)
    (case aC2 => k_is)
    (case xL2 => k_is)
    (case aC3 => k_is)
    (case xL3 => k_is)
    (case sa3 => k_is)
    (case ga3 => k_is)
    (case gg3 => k_is)
    (case hc3 => k_is)
    (case kC3 => k_is)
    (case ii3 => k_is)
    (case gl3 => k_is)
    (case gc3 => k_is)
    (case gk3 => k_is)
    (case gt3 => k_is)
    (case no3value => k_is)
    (case aC4 => k_is)
    (case xL4 => k_is)
    (case sa4 => k_is)
    (case ga4 => k_is)
    (case gg4 => k_is)
    (case hc4 => k_is)
    (case kC4 => k_is)
    (case ii4 => k_is)
    (case gl4 => k_is)
    (case gc4 => k_is)
    (case gk4 => k_is)
    (case gt4 => k_is)
    (case no4value => k_is)
    (case aC5 => k_is)
    (case xL5 => k_is)
    (case sa5 => k_is)
    (case ga5 => k_is)
    (case gg5 => k_is)
    (case hc5 => k_is)
    (case kC5 => k_is)
    (case ii5 => k_is)
    (case gl5 => k_is)
    (case gc5 => k_is)
    (case gk5 => k_is)
    (case gt5 => k_is)
    (case no5value => k_is)
    (case aC6 => k_is)
    (case xL6 => k_is)
    (case sa6 => k_is)
    (case ga6 => k_is)
    (case gg6 => k_is)
    (case hc6 => k_is)
    (case kC6 => k_is)
    (case ii6 => k_is)
    (case gl6 => k_is)
    (case gc6 => k_is)
    (case gk6 => k_is)
    (case gt6 => k_is)
    (case no6value => k_is)
    (case aN => k_is)
    (case pg => k_is)
    (case hd => k_is)
    (case po => k_is)
    (case sN => k_is)
    (case mk => k_is)
    (case kN => k_is)
    (case nf_routers => k_is)
    (case nf_links => k_is)
    (case a100 => k_is)
    (case i100 => k_is)
    (case l100 => k_is)
    (case c100 => k_is)
    (case k100 => k_is)
    (case pa101 => k_is)
    (case pb101 => k_is)
    (case pc101 => k_is)
    (case pd101 => k_is)
    (case l101 => k_is)
    (case c101 => k_is)
    (case k101 => k_is)
    (case pa102 => k_is)
    (case pb102 => k_is)
    (case pc102 => k_is)
    (case pd102 => k_is)
    (case l102 => k_is)
    (case c102 => k_is)
    (case k102 => k_is)
    (case a103 => k_is)
    (case i103 => k_is)
    (case l103 => k_is)
    (case c103 => k_is)
    (case k103 => k_is)
    (case eN => k_is)
    (case eO => k_is)
    (case eH => k_is)
    (case eJ => k_is)
    (case a104 => k_is)
    (case i104 => k_is)
    (case l104 => k_is)
    (case c104 => k_is)
    (case k104 => k_is)
    (case a105 => k_is)
    (case i105 => k_is)
    (case l105 => k_is)
    (case c105 => k_is)
    (case k105 => k_is)
    (case a106 => k_is)
    (case i106 => k_is)
    (case l106 => k_is)
    (case c106 => k_is)
    (case k106 => k_is)
    (case a107 => k_is)
    (case i107 => k_is)
    (case l107 => k_is)
    (case c107 => k_is)
    (case k107 => k_is)
    (case zabs => k_is)
    (case zall => k_is)
    (case zany => k_is)
    (case zbool => k_is)
    (case zenumerate => k_is)
    (case zint => k_is)
    (case zisinstance => k_is)
    (case zlen => k_is)
    (case zlist => k_is)
    (case zmax => k_is)
    (case zmin => k_is)
    (case zrange => k_is)
    (case zrepr => k_is)
    (case zset => k_is)
    (case zsorted => k_is)
    (case zstr => k_is)
    (case ztuple => k_is)
    (case zzip => k_is)
    (case vLONGEST_NAME => k_is)
    (case vMOST_DIGITS => k_is)
    (case vFEWEST_ROUTERS => k_is)
    (case vMOST_ROUTERS => k_is)
    (case vMOST_LINKS => k_is)
    (case inj => decide)
    (case hn => k_is)
    (case ht => k_is)
