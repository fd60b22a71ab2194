import PyProof.Rows.All
import Wide.All
import OpenK.AllK
import Wide.FinOn
import PyProof.EqAt
import PyProof.EqKinds
import PyProof.TupleCall
import PyProof.ReprRoads
import HandS.ForMost
import HandS.ForExc
import HandS.ExcInit
import HandS.ExcValue
import HandS.ExcIs
import HandS.IsInst
import HandS.Wide
import HandS.Ends
import HandS.TupSets
import HandS.SetFor
import HandS.SetTxt0
import KE.SortData
import HandS.Strs
import KE.GoesEnum
import KE.GoesMore
import HandS.Iter
import KE.DataCmp
import HandS.WordsExc
import HandS.Property
import HandS.Lambda
import HandS.RaiseMore
import HandS.EndTab
import HandS.NestedK
import HandS.Style
import HandS.Text
import HandS.TupAny
import HandS.Walk
import HandS.Zip
import HandS.Deep
import PyProof.StrLawsRepr
import HandS.FStrTup
import PySem.Challenge.RW_quietturns_k03_sizes_at_their_limits
set_option Elab.async false
set_option linter.all false
set_option maxRecDepth 100000
set_option maxHeartbeats 4000000
/-! Rules of our own over the hand layer: powers, calls where no display is under way, exceptions as values, repr of data. -/
namespace Q
open PySem PySem.Spec PyProof.Rows L2

/-! ### powers of greater numbers -/
def CPw (i j : Int) : Prop :=
  0 ≤ j ∧ ∃ m : Nat, i.natAbs < 2 ^ m ∧ (m : Int) * j ≤ 134217728
theorem op_pw {X : Cx} : OpR X (binaryOp .Pow) (rI CPw fun i j => .int (i ^ j.toNat)) :=
  opI fun i j _ _ _ _ _ hc q => by
    obtain ⟨h0, m, hm, hj⟩ := hc
    refine pow_int h0 ?_ q
    have b : Builtin.Int.intBits i ≤ m := PyProof.Rows.intBits_le hm
    have c : (Builtin.Int.intBits i : Int) * j ≤ (m : Int) * j :=
      Int.mul_le_mul_of_nonneg_right (by omega) h0
    exact Int.le_trans c hj

/-! ### defs that are called while no display is under way -/
structure FnG (P : Program) (w : World) (K : PySem.W.Frag) (mg : Str → Option Value)
    (base : Heap) (CX : CXT) (k : Nat) (f : Addr) (fd : FuncData) (ps : List Str) (sp : Sp) : Prop where
  len : ∀ vs H Q E, sp vs H Q E → vs.length = ps.length
  go : ∀ (A : Around) (outer : List Env) (s : Shared) (H : Hp) (args : Args) (us : List Value)
    (vs : List V) (Q : VK) (E : XK), A.guards = some [] → Room k A →
    Env0 P w K mg base A outer s H → BindsTo s fd args (ps.zip us) → Vals vs us → sp vs H Q E →
    codeAny (model P w) A (.call (.ref f) args) (CR CX outer P w H s Q E) s
section
variable {P : Program} {w : World} {K : PySem.W.Frag} {mg : Str → Option Value}
  {base : Heap} {CX : CXT} {k : Nat} {f : Addr} {fd : FuncData} {ps : List Str} {sp : Sp}
theorem FnG.of (F : FnOk P w K mg base CX k f fd ps sp) : FnG P w K mg base CX k f fd ps sp :=
  ⟨F.len, fun A o s H a us vs Q E _ => F.run A o s H a us vs Q E⟩
theorem FnG.mono {j : Nat} (F : FnG P w K mg base CX j f fd ps sp) (h : j ≤ k) :
    FnG P w K mg base CX k f fd ps sp :=
  ⟨F.len, fun A o s H a us vs Q E hg hr => F.go A o s H a us vs Q E hg (hr.mono h)⟩

/-- the rule for a def by its body, as fn_of, with the guards known -/
theorem fng_of {name qual : Str} {params : Arguments} {body : List Stmt} {scope : Scope}
    {dV kV doc pm cdv ct oc : Value} {an od : Option Addr} {osl : Array (Option Value)} {N : List Str}
    (lk : K.lookup f = some ⟨oc, od,
      .func (PySem.W.fnOf name qual params body scope dV kV doc pm an cdv ct), osl⟩)
    (hcd : PySem.W.codeIn K cdv qual = true) (S : FnScope N ps scope)
    (len : ∀ vs H Q E, sp vs H Q E → vs.length = ps.length)
    (hbody : ∀ (A : Around) (outer : List Env) (s : Shared) (H : Hp) (vs : List V) (Q : VK) (E : XK),
      A.guards = some [] → Room k (A.deeper (envOfC qual scope s.heap.objs.size f cdv)) → sp vs H Q E →
      ∃ t, PSs (cxOf CX P w K mg base N qual scope f cdv A outer s H E) body t ∧
        t { nx := fun _ H' => Q .non H', rt := Q } (start N vs) H) :
    FnG P w K mg base CX (k + 1) f
      (PySem.W.fnOf name qual params body scope dV kV doc pm an cdv ct) ps sp := by
  refine ⟨len, ?_⟩
  intro A outer s H args us vs Q E hgd hr e0 hb rv hsp
  have hlen := len _ _ _ _ hsp
  have inB : ∀ b o, base.get? b = some o → s.heap.get? b = some o := fun b o e => (e0.bs b o e).1
  have KX : K.In s.heap := e0.mod.kin.keeps inB
  have kinds : ∀ y ∈ ps.zip us, scope.names.lookup y.1 = some .local ∨
      (scope.names.lookup y.1 = some .cell ∧
        ((cellsFrom (s.heap.objs.size + 1) scope.names []).lookup y.1).isSome = true) := by
    rintro ⟨n, v⟩ hy
    cases S.par n (List.of_mem_zip hy).1 with
    | inl q => exact .inl q
    | inr q => exact .inr ⟨q, PySem.W.cellsFrom_some _ _ _ (.inl q)⟩
  refine codeAny_call_function hr.depth (KX _ _ lk) rfl S.co S.gen rfl
    (PySem.W.codeRec_of KX hcd) (hb _ _ _ _ ?_)
  refine wpAny_newFunctionEnv_cells S.kind kinds ?_
  intro env he s1 x
  subst he
  refine ⟨(e0.mod.nolimit.keeps inB).keeps x.toInCall.keep, codeAny_func ?_⟩
  obtain ⟨t, ht, hq⟩ := hbody A outer s H vs Q E hgd (hr.deeper _) hsp
  have I := inv_start (CX := CX) (E := E) S hr.hd e0 hlen rv x
  refine wpAny_mono (ht.run [] s1 (start N vs) H _ I hq) ?_ (fun _ _ z => z)
  intro fl s' hs
  cases fl with
  | ret u =>
    obtain ⟨v, σ', H', J, r', q⟩ := hs
    exact ⟨v, H', J.os, J.bare, J.base, J.hok, r', q⟩
  | next =>
    obtain ⟨σ', H', J, q⟩ := hs
    exact ⟨.non, H', J.os, J.bare, J.base, J.hok, rfl, q⟩
  | brk => exact hs.elim fun _ z => z.elim fun _ z => z.2.elim
  | cont => exact hs.elim fun _ z => z.elim fun _ z => z.2.elim

/-- as Fun.ok -/
theorem okG {x qual : Str} {st : Stmt} {N : List Str} (F : Fun K x qual st f fd)
    (S : FnScope N ps (defScope st)) (len : ∀ vs H Q E, sp vs H Q E → vs.length = ps.length)
    (hbody : ∀ (cdv : Value) (A : Around) (outer : List Env) (s : Shared) (H : Hp) (vs : List V)
      (Q : VK) (E : XK), A.guards = some [] →
      Room k (A.deeper (envOfC qual (defScope st) s.heap.objs.size f cdv)) → sp vs H Q E →
      ∃ t, PSs (cxOf CX0 P w K mg base N qual (defScope st) f cdv A outer s H E).nox (defBody st) t ∧
        t { nx := fun _ H' => Q .non H', rt := Q } (start N vs) H) :
    FnG P w K mg base CX0 (k + 1) f fd ps sp := by
  obtain ⟨oc, od, kV, doc, pm, an, cdv, ct, osl, rfl, lk, hcd⟩ := F.ex
  refine fng_of lk hcd S len ?_
  intro A outer s H vs Q E hgd hr hsp
  obtain ⟨t, h, q⟩ := hbody cdv A outer s H vs Q E hgd hr hsp
  exact ⟨t, h.nox, q⟩
end

section
variable {X : Cx} {CX : CXT} {k : Nat} {f : Addr} {fd : FuncData} {ps : List Str} {sp : Sp}
  {dvs : List V} {ds : List Value} {E : XK} {x : Str} {p pos : Pos} {e : Expr} {es : List Expr} {t : TA}
theorem run_g {pins : List (Addr × Obj)} {σ : L2.St} {H : Hp} {s : Shared} {Q : VK} {us : List Value}
    {vs : List V} (F : FnG X.prog X.w X.K X.mg X.base CX k f fd ps sp) (hgd : X.A.guards = some [])
    (hr : Room k X.A) (hb : Binds X.K fd ps ds) (hd : Vals dvs ds) (hx : Passes CX X E)
    (I : Inv X pins σ H s) (r : Vals vs us) (h : sp (vs ++ dvs) H Q E) :
    wpAny (model X.prog X.w) X.A (call (.ref f) us) (EP X pins σ Q) X.xe s := by
  have r2 := r.append hd
  have hl : (us ++ ds).length = ps.length := r2.length.symm.trans (F.len _ _ _ _ h)
  have c := F.go X.A X.stack s H ⟨us, []⟩ (us ++ ds) (vs ++ dvs) Q E hgd hr I.env0 (hb s us I.kIn hl) r2 h
  refine wpAny_call (codeAny_mono c ?_)
  intro r s' hq
  match r, hq with
  | .error er, hq => exact hx pins σ H s er s' I hq
  | .ok (.ret u), hq => exact I.after hq
/-- f(e, ..) -/
theorem pe_callG (F : FnG X.prog X.w X.K X.mg X.base CX k f fd ps sp) (hgd : X.A.guards = some [])
    (hr : Room k X.A) (hg : Gl X x) (hm : X.mg x = some (.ref f))
    (hk : PySem.W.keepIn X.K (.ref f) = true) (hb : Binds X.K fd ps ds) (hd : Vals dvs ds)
    (hx : Passes CX X E) (ha : PA X (e :: es) t) (hdb : (x == ("__debug__" : Str)) = false := by decide)
    (he : starEach (e :: es) X.env = (false, eval e X.env) :: starEach es X.env := by rfl)
    (hpl : (backTo pos (starEach es X.env)).any (·.1) = false := by rfl) :
    PE X (.Call (.Name x p) (e :: es) [] pos) (tCall sp dvs E t) := by
  constructor
  intro pins s σ H Q I h
  refine wpAny_Call_Name_kw (ld_glob I hg hm ?_ hdb)
  refine PySem.W.callWith_K (h₀ := X.base) I.ok.mod.kin hk ?_ he hpl
  refine thn (ha.run pos pins s σ H _ I h) ?_
  rintro us s1 ⟨vs, H1, I1, r, q⟩
  exact ⟨I1.kIn, run_g F hgd hr hb hd hx I1 r q⟩
end
end Q
set_option Elab.async false
set_option linter.all false
set_option maxRecDepth 100000
set_option maxHeartbeats 4000000
namespace Q
open PySem PySem.Spec PyProof.Rows L2

/-! ### the law's call, its promise under known guards -/
section
variable {P : Program} {w : World} {K : PySem.W.Frag} {mg mb : Str → Option Value} {k : Nat}
  {fa a : Addr} {fd : FuncData} {x : Str} {sp : Sp} {s₁ : Shared} {vs : List Value} {ns : List Int}
abbrev LawEnd (s₁ : Shared) : Result → Shared → Prop := fun r s' =>
  r = .ok (.ret (.bool true)) ∧ OldK s₁.heap s'.heap ∧ s'.os = s₁.os ∧ AllBare s'.gens
theorem law_core (KX : K.In s₁.heap) (hns : s₁.heap.Ns mainGlobals mg) (hb : s₁.heap.Ns builtinsNs mb)
    (hbb : ∀ x : Str, x ≠ "__name__" → mb x = bootBuiltins x) (hlim : s₁.heap.NoLimit)
    (hg : s₁.gens = #[])
    (ha : s₁.heap.get? a = some { cls := .type "list", data := .seq vs.toArray }) (hr : Room k callerA)
    (F : ∀ base : Heap, K.In base → base.Ns mainGlobals mg → FnG P w K mg base CX0 k fa fd [x] sp)
    (hbind : ∀ (s : Shared) (u : Value), BindsTo s fd ⟨[u], []⟩ [(x, u)])
    (H : Hp) (hO : Only H) (hS : sp [.ref a] H (fun v _ => v = .bl true) fun _ _ _ => False)
    (hok : HOk P w H s₁.heap) (hA : ∀ b, H b ≠ none → b = a) (hK : H a ≠ none → K.lookup a = none) :
    codeAny (model P w) callerA (.call (.ref fa) ⟨[.ref a], []⟩) (LawEnd s₁) s₁ := by
  have only_a : ∀ {b : Addr}, b ≠ a → H b = none := fun {b} ne => by
    cases q : H b with
    | none => rfl
    | some u => exact absurd (hA b (by rw [q]; exact nofun)) ne
  have dict_free : ∀ {b o es ep}, s₁.heap.get? b = some o → o.data = Data.dict es ep → H b = none := by
    intro b o es ep e d
    refine only_a ?_
    rintro rfl
    rw [ha] at e
    cases e
    cases d
  have ns_free : ∀ {b m}, s₁.heap.Ns b m → (hidT s₁.heap H).Ns b m := by
    rintro b m ⟨o, es, ep, e, d, r⟩
    exact ⟨o, es, ep, hidT_get e (dict_free e d), d, r⟩
  have k_free : ∀ {b o}, K.lookup b = some o → H b = none := by
    intro b o e
    cases q : H b with
    | none => rfl
    | some u =>
      have nn : H b ≠ none := by rw [q]; exact nofun
      cases hA b nn
      rw [hK nn] at e
      cases e
  have kin : K.In (hidT s₁.heap H) := fun b o e => hidT_get (KX b o e) (k_free e)
  obtain ⟨mc, l1, l2⟩ := hlim
  have md : Mod K mg (hidT s₁.heap H) :=
    { kin := kin, glob := ns_free hns, blt := ⟨mb, ns_free hb, hbb⟩, nolimit := ⟨mc, ns_free l1, l2⟩ }
  have e0 : Env0 P w K mg (hidT s₁.heap H) callerA [] s₁ H :=
    ⟨rfl, md, fun b o e => of_hidT e, Nat.le_of_eq (hidT_size _ _), trivial,
      fun b z => absurd (show b ∈ ([] : List Addr) from z) List.not_mem_nil, hok, .of_eq hg⟩
  have run := (F _ kin (ns_free hns)).go callerA [] s₁ H ⟨[.ref a], []⟩ [.ref a] [.ref a] _ _ rfl hr e0
    (hbind s₁ (.ref a)) (.cons rfl .nil) hS
  refine codeAny_mono run ?_
  intro r s' h
  match r, h with
  | .error e, h => exact False.elim h
  | .ok (.ret u), ⟨v, H', os, bare, un, hok', r', q⟩ =>
    subst q
    obtain rfl : u = Value.bool true := r'
    refine ⟨rfl, OldK.of_keep ?_, os, bare⟩
    intro b o e
    cases q : H b with
    | none =>
      refine un.keep b o e q (fun z => ?_) List.not_mem_nil
      exact absurd (show b ∈ ([] : List Addr) from z) List.not_mem_nil
    | some u =>
      cases hO b with
      | inl z => rw [q] at z; cases z
      | inr z =>
        obtain ⟨ob, xs, z⟩ := z
        have e2 := (hok' b _ (un.frzs b ob _ z)).1
        have e1 := (hok b _ z).1
        rw [e] at e1
        cases e1
        exact e2

theorem law_callG (KX : K.In s₁.heap) (hns : s₁.heap.Ns mainGlobals mg) (hb : s₁.heap.Ns builtinsNs mb)
    (hbb : ∀ x : Str, x ≠ "__name__" → mb x = bootBuiltins x) (hlim : s₁.heap.NoLimit)
    (hg : s₁.gens = #[])
    (ha : s₁.heap.get? a = some { cls := .type "list", data := .seq vs.toArray }) (hi : IntsAre vs ns)
    (hl : ns.length ≤ sizeLine) (hr : Room k callerA)
    (F : ∀ base : Heap, K.In base → base.Ns mainGlobals mg → FnG P w K mg base CX0 k fa fd [x] sp)
    (hbind : ∀ (s : Shared) (u : Value), BindsTo s fd ⟨[u], []⟩ [(x, u)])
    (hsp : ∀ H : Hp, Only H → SqL K H a (ns.map V.int) →
      sp [.ref a] H (fun v _ => v = .bl true) fun _ _ _ => False) :
    codeAny (model P w) callerA (.call (.ref fa) ⟨[.ref a], []⟩) (LawEnd s₁) s₁ := by
  have rv := vals_ints hi
  have lenV := hi.length
  cases hk : K.lookup a with
  | some o =>
    have e := KX a o hk
    rw [ha] at e
    cases e
    have hN : Only (fun _ => none) := fun _ => .inl rfl
    have hS : SqL K (fun _ => none) a (ns.map V.int) := by
      refine .inr ⟨_, vs.toArray, _, hk, rfl, rfl, rfl, ?_, by simpa using rv⟩
      rw [List.size_toArray, lenV]
      exact hl
    exact law_core KX hns hb hbb hlim hg ha hr F hbind _ hN (hsp _ hN hS) (fun _ _ z => nomatch z)
      (fun _ z => absurd rfl z) (fun z => absurd rfl z)
  | none =>
    let ob : Obj := { cls := .type "list", data := .seq vs.toArray }
    let H : Hp := fun b => if b = a then some (.frz ob (.lst (ns.map V.int))) else none
    have at_a : H a = some (.frz ob (.lst (ns.map V.int))) := if_pos rfl
    have off : ∀ b, b ≠ a → H b = none := fun b z => if_neg z
    have hN : Only H := fun b => by
      by_cases z : b = a
      · rw [z]; exact .inr ⟨_, _, at_a⟩
      · exact .inl (off b z)
    have hok : HOk P w H s₁.heap := fun b u e => by
      by_cases z : b = a
      · rw [z, at_a] at e
        cases e
        rw [z]
        exact ⟨ha, by rw [List.length_map]; exact hl, vs, _, rv, ha⟩
      · rw [off b z] at e
        cases e
    refine law_core KX hns hb hbb hlim hg ha hr F hbind H hN (hsp H hN (.inl (.inr ⟨ob, at_a⟩))) hok ?_ ?_
    · intro b z
      by_cases q : b = a
      · exact q
      · exact absurd (off b q) z
    · exact fun _ => hk
end

/-- the goal that the head leaves, from the law's promise -/
theorem walkG {l : PySem.W.OpenLaw} {n k : Nat} {q : Program} {loose : List Str}
    {XP : (Str → Option Value) → Heap → Prop} {YP : World → Heap → Prop} {d : DefRec}
    {K : Params → PySem.W.Frag} {sp : PySem.W.Frag → Sp} {x : Str} (hn : l.most = some n)
    (hn2 : n ≤ sizeLine) (hdf : d.params.defaults = []) (hr : Room k callerA)
    (hY : ∀ (w : World) (h : Heap), YP w h → (K w.params).In h)
    (F : ∀ (w : World) (mg : Str → Option Value) (fa : Addr) (h : Heap), (K w.params).In h →
      h.Ns mainGlobals mg → mg d.name = some (.ref fa) →
      ∃ fd : FuncData, (∀ (s : Shared) (u : Value), BindsTo s fd ⟨[u], []⟩ [(x, u)]) ∧
        ∀ base : Heap, (K w.params).In base → base.Ns mainGlobals mg →
          FnG l.prog w (K w.params) mg base CX0 k fa fd [x] (sp (K w.params)))
    (hsp : ∀ (K : PySem.W.Frag) (H : Hp) (a : Addr) (ns : List Int), ns.length ≤ n → Only H →
      SqL K H a (ns.map V.int) → sp K [.ref a] H (fun v _ => v = .bl true) fun _ _ _ => False) :
    PySem.W.WalkO q loose XP YP l.row.toRowW d [] (fun f vs => PySem.call f vs) := by
  refine Att.attach_call hn hdf ?_
  intro w s₀ s₁ mg mb fa o pm cd doc a vs ns G Y ho hd hcd hmg hobj hints hlen hg
  have KX := hY w _ Y
  obtain ⟨fd, hb, hF⟩ := F w mg fa _ KX G.T.g hmg
  exact law_callG KX G.T.g G.T.b G.T.builtins G.T.nolimit hg hobj hints (Nat.le_trans hlen hn2) hr hF hb
    (fun H hO hS => hsp _ H a ns hlen hO hS)
end Q
set_option Elab.async false
set_option linter.all false
set_option maxRecDepth 100000
set_option maxHeartbeats 4000000
namespace Q
open PySem PySem.Spec PyProof.Rows L2

/-! ### exceptions as values -/
/-- an exception of the class C at a, its own dict at d; raised or not -/
def exv (a C : Addr) (d : Option Addr) : HO :=
  .ext fun h => ∃ oe : Obj, h.get? a = some oe ∧ Zc (.ref C) d oe ∧ ∃ vs, oe.data = .fields vs
theorem exv_ok {P : Program} {w : World} {H : Hp} {h : Heap} {a C : Addr} {d : Option Addr} {oe : Obj}
    (e : h.get? a = some oe) (z : Zc (.ref C) d oe) (f : ∃ vs, oe.data = .fields vs) :
    ObjOk P w H h a (exv a C d) :=
  ⟨⟨oe, e, z, f⟩, ⟨oe, e⟩, fun _ _ ⟨o, q, r⟩ k => ⟨o, k o q, r⟩⟩
/-- the object -/
def ErrO (H : Hp) (a C : Addr) (d : Option Addr) : Prop := H a = some (exo a C d) ∨ H a = some (exv a C d)
/-- its dict -/
def ErrD (H : Hp) (d : Addr) (fs : List (Str × V)) : Prop := H d = some (exd d fs) ∨ H d = some (.xd fs)
/-- an exception of C with these attributes -/
def ErrAt (H : Hp) (a C : Addr) (fs : List (Str × V)) : Prop := ∃ d, ErrO H a C (some d) ∧ ErrD H d fs

section
variable {X : Cx} {pins : List (Addr × Obj)} {σ : L2.St} {H : Hp} {s : Shared} {a C d : Addr}
theorem ErrO.get {d : Option Addr} (I : Inv X pins σ H s) (e : ErrO H a C d) :
    ∃ oe : Obj, s.heap.get? a = some oe ∧ Zc (.ref C) d oe ∧ ∃ vs, oe.data = .fields vs := by
  rcases e with e | e
  · obtain ⟨t1, q⟩ := exo_at I.hok e
    exact ⟨_, q, ⟨rfl, rfl⟩, _, rfl⟩
  · exact (I.hok a _ e).1
theorem ErrD.get {fs : List (Str × V)} (I : Inv X pins σ H s) (e : ErrD H d fs) :
    ∃ mA, s.heap.Ns1 d mA ∧ ∀ f, RelO (fs.lookup f) (mA f) := by
  rcases e with e | e
  · exact exd_at I.hok e
  · exact I.hok d _ e
end

/-- isinstance asks an exception's class rightly, whatever its own dict -/
theorem kitx_err {K : PySem.W.Frag} {x D : Addr} {ox : Obj} {od : Option Obj} (c : ExcC K D) :
    PySem.W.KitX K (.ref x) (.ref D) (fun h => PySem.W.InstAt h x ox D od) := by
  have c1 := PySem.W.handS_kitx_exc (x := x) (ox := ox) c.hg c.hk c.hs c.hd c.ha c.hn c.ht c.hm
  refine ⟨fun _ _ _ I => I.type, ?_, ?_, ?_⟩
  · intro M h KX _
    obtain ⟨cdD, hcD, _⟩ := PySem.W.any_some c.hd
    unfold PySem.W.clsIn at hcD
    split at hcD
    · rename_i ho
      intro A' Q' E' s' k q
      unfold isType loadHead
      exact wpAny_bind (wpAny_loadPart (k _ _ (KX _ _ ho)) (wpAny_pure q))
    · cases hcD
  · intro h tp dd its n sl KX htp
    refine beq_eq_false_iff_ne.mpr fun q => ?_
    cases q
    obtain ⟨cdD, hcD, _⟩ := PySem.W.any_some c.hd
    unfold PySem.W.clsIn at hcD
    split at hcD
    · rename_i ho
      cases (KX _ _ ho).symm.trans htp
    · cases hcD
  · intro prog w A E Q s KX I h
    have isC : (PySem.W.clsIn K D).isSome = true := by
      obtain ⟨cd, hc, _⟩ := PySem.W.any_some c.hd
      rw [hc]
      rfl
    have hf : PySem.W.findObj K D od "__class__" =
        some (.bind (.builtin "getset_descriptor.__get__") (.builtin "object.__class__")) := by
      cases od with
      | none => exact PySem.W.findObj_dataN isC c.ha c.hn c.ht
      | some od => exact PySem.W.findObj_data isC c.ha c.hn c.ht
    obtain ⟨hp, g, d, t, os⟩ := s
    have L0 := I.type (M := model prog w)
    have LA := PySem.W.looks_findIn (M := model prog w) KX c.hg
    have LB := PySem.W.looks_findIn (M := model prog w) KX c.hk
    have LC := PySem.W.looks_find (M := model prog w) KX I hf
    have sub : PySem.W.Looks (model prog w) hp (isInstance (.ref x) (.type "BaseException")) true :=
      L0.andThen (PySem.W.looks_subIn KX c.hs)
    have hx0 : (false && onTheHeap (Value.builtin "BaseException.__getattribute__")) = false := rfl
    have hx2 : (Value.builtin "BaseException.__getattribute__" ==
        Value.builtin "object.__getattribute__") = false := by decide +kernel
    unfold getAttr? getAttrBy? getAttrBy
    refine wpAny_bind (wpAny_mkText (wpAny_bind (wpAny_attempt (wpAny_holding (wpAny_bind
      (L0.at (wpAny_bind (LA.at ?_))))))))
    refine PySem.W.KFB.if_not (by rw [hx2]; exact Bool.and_false _) ?_
    unfold getAttrByItsOwn hookBefore
    refine wpAny_bind ?_
    rw [if_pos (show onTheHeap (Value.ref D) = true from rfl)]
    refine LB.at (wpAny_bind (wpAny_attempt (wpAny_holding ?_)))
    unfold callGetattribute
    rw [hx0, if_neg Bool.false_ne_true]
    unfold boundAndCalled
    rw [PySem.F.excAttr_ValueError.ga.bind (.ref x)]
    refine wpAny_bind (wpAny_pure (wpAny_call (codeAny_call_builtin PySem.F.excAttr_ValueError.ga.plain
      PySem.F.entry_bexc_ga ?_)))
    refine @PySem.W.check_slot (model prog w) _ _ ⟨hp, g, d, t + 1, os⟩
      "BaseException.__getattribute__" "BaseException" "__getattribute__" (.ref x)
      [.str "__class__" t] [] _ (by decide +kernel) (by decide +kernel) sub
      (PySem.F.args_bexc_ga (.ref x) (.str "__class__" t)) ?_
    unfold Builtin.«object.__getattribute__»
    refine wpAny_bind (wpAny_of_eq (a := ((Value.ref x : Value), [Value.str "__class__" t]))
      (by first | rfl | (simp only [slotArgs]; rfl)) ?_)
    refine wpAny_bind (wpAny_pure (wpAny_bind (L0.at (wpAny_bind (LC.at (wpAny_bind (wpAny_holding
      (wpAny_call (PySem.W.class_get (s := ⟨hp, g, d, t + 1, os⟩) (ox := ox) (od := od) KX I c.hm ?_)))))))))
    refine wpAny_pure ?_
    show wpAny _ _ (handedOut (.ref D)) _ _ _
    rw [PySem.W.handedOut_of (v := .ref D) rfl]
    first
      | exact wpAny_pure (wpAny_pure h)
      | exact wpAny_pure h
      | exact wpAny_pure (wpAny_bind (wpAny_pure (wpAny_pure h)))
end Q
set_option Elab.async false
set_option linter.all false
set_option maxRecDepth 100000
set_option maxHeartbeats 4000000
namespace Q
open PySem PySem.Spec PyProof.Rows L2

/-- an exception of C, with a dict of its own or none -/
def ErrI (H : Hp) (a C : Addr) : Prop := ErrO H a C none ∨ ∃ fs, ErrAt H a C fs
theorem ErrAt.i {H : Hp} {a C : Addr} {fs : List (Str × V)} (e : ErrAt H a C fs) : ErrI H a C := .inr ⟨_, e⟩
theorem ErrO.mono {H H' : Hp} {a C : Addr} {d : Option Addr} (s : Same H H') (e : ErrO H a C d) : ErrO H' a C d :=
  e.imp (s _ _) (s _ _)
theorem ErrD.mono {H H' : Hp} {d : Addr} {fs : List (Str × V)} (s : Same H H') (e : ErrD H d fs) : ErrD H' d fs :=
  e.imp (s _ _) (s _ _)
theorem ErrAt.mono {H H' : Hp} {a C : Addr} {fs : List (Str × V)} (s : Same H H') (e : ErrAt H a C fs) :
    ErrAt H' a C fs := let ⟨d, o, q⟩ := e; ⟨d, o.mono s, q.mono s⟩
theorem ErrI.mono {H H' : Hp} {a C : Addr} (s : Same H H') (e : ErrI H a C) : ErrI H' a C :=
  e.imp (fun z => z.mono s) fun ⟨fs, z⟩ => ⟨fs, z.mono s⟩

section
variable {X : Cx} {pins : List (Addr × Obj)} {σ : L2.St} {H : Hp} {s : Shared} {a C : Addr}
theorem ErrI.inst (I : Inv X pins σ H s) (e : ErrI H a C) : ∃ oe od, PySem.W.InstAt s.heap a oe C od := by
  have nc : ∀ oe : Obj, (∃ vs, oe.data = .fields vs) → PySem.W.notCls oe = true := fun oe ⟨vs, hv⟩ => by
    unfold PySem.W.notCls
    rw [hv]
  rcases e with e | ⟨fs, d, e, ed⟩
  · obtain ⟨oe, ho, hz, hv⟩ := e.get I
    exact ⟨oe, none, ho, hz.1, nc oe hv, by rw [hz.2]; trivial⟩
  · obtain ⟨oe, ho, hz, hv⟩ := e.get I
    obtain ⟨mA, hn, _⟩ := ed.get I
    obtain ⟨od, hd, _⟩ := lookIn_ns hn
    exact ⟨oe, some od, ho, hz.1, nc oe hv, by rw [hz.2]; exact hd⟩
end

section
variable {X : Cx}
/-- isinstance of an exception -/
def rIsE (K : PySem.W.Frag) : List V → Hp → VK → Prop := fun xs H Q =>
  ∃ (a C : Addr) (c : V) (u : Value) (b : Bool), xs = [.ref a, c] ∧ ClsV c u ∧
    ErrI H a C ∧ ExcC K C ∧ PySem.W.kitOne K (.ref C) u = some b ∧ Q (.bl b) H
theorem call_isE : CallR X (.builtin "isinstance") (rIsE X.K) := by
  intro pins s σ H xs us Q I r h
  obtain ⟨a, C, c, u, b, rfl, k, eo, ec, e, q⟩ := h
  obtain ⟨u1, u2, rfl, r1, r2⟩ := vals2 r
  cases k.eq r2
  obtain rfl : u1 = Value.ref a := r1
  obtain ⟨oe, od, J⟩ := eo.inst I
  exact PySem.W.kia_one (kitx_err (ox := oe) (od := od) ec) I.kIn J e (fun z => nomatch z)
    (fun tk => ⟨.bl b, H, I.tok tk, rfl, q⟩)
/-- of any value -/
def rIsA (K : PySem.W.Frag) : List V → Hp → VK → Prop := fun xs H Q => rIsi K xs H Q ∨ rIsE K xs H Q
theorem call_isA : CallR X (.builtin "isinstance") (rIsA X.K) := by
  intro pins s σ H xs us Q I r h
  cases h with
  | inl h => exact call_isi pins s σ H xs us Q I r h
  | inr h => exact call_isE pins s σ H xs us Q I r h

/-- e.f of an exception -/
def tErrF (K : PySem.W.Frag) (f : Str) (te : TE) : TE := fun σ H Q => te σ H fun x H1 =>
  ∃ (a C : Addr) (fs : List (Str × V)) (v : V), x = .ref a ∧ ErrAt H1 a C fs ∧ ExcC K C ∧
    PySem.W.findIn K (.ref C) f = some none ∧ fs.lookup f = some v ∧ Q v H1
theorem pe_errf {e : Expr} {te : TE} {f : Str} {pos : Pos} (he : PE X e te)
    (hb : attributeBase e f X.env (eval e X.env) = eval e X.env := by rfl) :
    PE X (.Attribute e f pos) (tErrF X.K f te) := by
  constructor
  intro pins s σ H Q I h
  refine attr_of hb (thn (he.run pins s σ H _ I h) ?_)
  rintro u s1 ⟨x, H1, I1, rx, a, C, fs, v, rfl, ⟨d, eo, ed⟩, ec, hno, l, q⟩
  obtain rfl : u = Value.ref a := rx
  obtain ⟨oe, ho, hz, vs, hv⟩ := eo.get I1
  obtain ⟨mA, hns, hr⟩ := ed.get I1
  obtain ⟨od, hod, hl⟩ := lookIn_ns hns
  have hrf := hr f
  rw [l] at hrf
  obtain ⟨u, hu, ru⟩ := RelO.some_of hrf
  have J : PySem.W.InstAt s1.heap a oe C (some od) :=
    ⟨ho, hz.1, by unfold PySem.W.notCls; rw [hv], by rw [hz.2]; exact hod⟩
  have hf : PySem.W.findObj X.K C (some od) f = some (.value u) :=
    PySem.W.findObj_own ec.hd hno rfl (by rw [hl, hu])
  exact HandSPX.exc_get I1.kIn J ec.hg ec.hk ec.hs hf (handed_of ru) ⟨v, H1, I1.tok _, ru, q⟩

/-- C(e, ..), an own exception class with its own __init__, as a value -/
def tMkV (C : Addr) (sp : Sp) (dvs : List V) (ta : TA) : TE := fun σ H Q => ta σ H fun vs H1 =>
  vs.length ≤ 1000 ∧ ∀ a, H1 a = none → sp (.ref a :: (vs ++ dvs)) (upd H1 a (exo a C none))
    (fun v H2 => v = .non ∧ Q (.ref a) H2) (fun _ _ _ => False)
theorem pe_mkv {CX : CXT} {x : Str} {C fI : Addr} {k : Nat} {fd : FuncData} {ps : List Str} {sp : Sp}
    {ds : List Value} {dvs : List V} {e : Expr} {es : List Expr} {ta : TA} {p pos : Pos}
    (T : OexC X.K C) (iC : PySem.W.findIn X.K (.ref C) "__init__" = some (some (.ref fI)))
    (tI : PySem.W.typeIn X.K (.ref fI) = some (.type "function"))
    (F : FnOk X.prog X.w X.K X.mg X.base CX k fI fd ps sp) (hr : Room (k + 1) X.A)
    (hb : Binds X.K fd ps ds) (hd : Vals dvs ds) (hx : Passes CX X (fun _ _ _ => False))
    (hg : Gl X x) (hm : X.mg x = some (.ref C)) (ha : PA X (e :: es) ta)
    (hdb : (x == ("__debug__" : Str)) = false := by decide)
    (he : starEach (e :: es) X.env = (false, eval e X.env) :: starEach es X.env := by rfl)
    (hpl : (backTo pos (starEach es X.env)).any (·.1) = false := by rfl) :
    PE X (.Call (.Name x p) (e :: es) [] pos) (tMkV C sp dvs ta) := by
  constructor
  intro pins s σ H Q I h
  obtain ⟨nm, q, N, bs, bm, sn, sub, ab, col, dd, k0, k1, k2, k3, k5, hC, hbm⟩ := T.cls
  refine wpAny_Call_Name_kw (ld_glob I hg hm ?_ hdb)
  refine PySem.W.callWith_K (h₀ := X.base) I.ok.mod.kin T.kC ?_ he hpl
  refine thn (ha.run pos pins s σ H _ I h) ?_
  rintro us s1 ⟨vs, H1, I1, r1, hz, q1⟩
  refine ⟨I1.kIn, ?_⟩
  show wpAny _ _ (call (.ref C) us) _ _ _
  obtain ⟨hp, g, dr, tk, os⟩ := s1
  let a := hp.objs.size + 1
  let h2 : Heap := (hp.push (PySem.W.kdv_tup us)).push (PySem.HandSPX.excO C hp.objs.size)
  have hn : H1 a = none := I1.hok.fresh (Nat.le_succ _)
  have kk : ∀ b o, hp.get? b = some o → h2.get? b = some o := fun b o e =>
    Heap.get?_push_of_some _ (Heap.get?_push_of_some _ e)
  have hget : h2.get? a = some (PySem.HandSPX.excO C hp.objs.size) := by
    show ((hp.push _).push _).get? (hp.objs.size + 1) = _
    heap_get
  have I2 : Inv X pins σ (upd H1 a (exo a C none)) ⟨h2, g, dr, tk, os⟩ :=
    I1.laid (t' := tk) (a := a) (o := exo a C none) (h' := h2) kk (Nat.le_succ _) (exo_ok hget)
  have r2 : Vals (V.ref a :: (vs ++ dvs)) (Value.ref a :: (us ++ ds)) := .cons rfl (r1.append hd)
  have hq := q1 a hn
  have hl : (Value.ref a :: us ++ ds).length = ps.length := r2.length.symm.trans (F.len _ _ _ _ hq)
  have hus : us.length ≤ sizeLine := by
    rw [← Paired.length r1, sizeLine_eq]
    omega
  have run := F.run _ X.stack _ _ ⟨Value.ref a :: us, []⟩ (Value.ref a :: (us ++ ds)) _ _
    (fun _ _ _ => False) (hr.make C us []) (I2.env0.make C us [])
    (hb _ (Value.ref a :: us) I2.kIn hl) r2 hq
  refine wpAny_call (PySem.HandSPX.call_own PySem.F.excBase_ValueError
    (fun Y => PySem.HandSPX.refsVE_contains Y bm hbm) (I1.kIn _ _ hC)
    (PySem.W.looks_findIn I1.kIn iC) (fun self => PySem.W.bind_fn I1.kIn self tI) hus
    (codeAny_mono run ?_))
  intro r s' hq'
  match r, hq' with
  | .error er, hq' => exact hx pins σ _ _ er s' I2 hq'
  | .ok (.ret u), hq' =>
    obtain ⟨v, H2, J, rv, ev, q2⟩ := I2.after hq'
    subst ev
    exact ⟨rv, .ref a, H2, J, rfl, q2⟩
/-- C(), a class without its own __init__ -/
def tMk0 (C : Addr) : TE := fun _ H Q => ∀ a, H a = none → Q (.ref a) (upd H a (exv a C none))
theorem pe_mk0 {C : Addr} {bmB : List Value} {B newId initId : String} {x : Str} {p pos : Pos}
    (F : ExcBaseFacts B newId initId bmB) (q : PySem.W.excIn X.K C bmB newId = true)
    (gC : X.mg x = some (.ref C)) (kC : PySem.W.keepIn X.K (.ref C) = true) (hg : Gl X x)
    (hdb : (x == ("__debug__" : Str)) = false := by decide) :
    PE X (.Call (.Name x p) [] [] pos) (tMk0 C) := by
  constructor
  intro pins s σ H Q I h
  refine wpAny_Call_Name_kw (ld_glob I hg gC ?_ hdb)
  refine PySem.W.callWith_K0 I.kIn kC ?_
  show wpAny _ _ (call (.ref C) []) _ _ _
  obtain ⟨bm, N, nm, qn, bs, hdct, sn, sub, ab, col, dd, k0, k1, k2, k3, k5, mN, hC, hN, hni, T⟩ :=
    exc_obj I.kIn q
  refine wpAny_call_exc_subT F T hC hN hni ?_ (Nat.zero_le _)
  intro h' a hm
  have hn : H a = none := I.hok.gone hm.new
  obtain ⟨t, ht, _, _⟩ := hm.there
  exact ⟨.ref a, upd H a (exv a C none), I.laidN hm.keeps hm.new hn
    (exv_ok ht ⟨rfl, rfl⟩ ⟨_, rfl⟩), rfl, h a hn⟩
end
end Q
set_option Elab.async false
set_option linter.all false
set_option maxRecDepth 100000
set_option maxHeartbeats 4000000
namespace Q
open PySem PySem.Spec PyProof.Rows L2

/-! ### data in the heap, with dicts, and how repr writes it -/
mutual
inductive Rk (h : Heap) : Value → PyData → Prop
  | none : Rk h .none .none
  | bool (b : Bool) : Rk h (.bool b) (.bool b)
  | int (i : Int) (t : Tok) : Rk h (.int i t) (.int i)
  | str (x : Str) (t : Tok) : Rk h (.str x t) (.str x)
  | list {a : Addr} {o : Obj} {vs : Array Value} {n : Nat} {xs : List PyData} : h.get? a = some o →
      o.cls = .type "list" → o.data = .seq vs n → RkAll h vs.toList xs → Rk h (.ref a) (.list xs)
  | tuple {a : Addr} {o : Obj} {vs : Array Value} {n : Nat} {xs : List PyData} : h.get? a = some o →
      o.cls = .type "tuple" → o.data = .seq vs n → RkAll h vs.toList xs → Rk h (.ref a) (.tuple xs)
  | dict {a : Addr} {o : Obj} {es : Array DictEntry} {n : Nat} {kvs : List (PyData × PyData)} :
      h.get? a = some o → o.cls = .type "dict" → o.data = .dict es n → (a == sysModules) = false →
      RkAll h (es.toList.map (·.key)) (kvs.map (·.1)) → RkAll h (es.toList.map (·.val)) (kvs.map (·.2)) →
      Rk h (.ref a) (.dict kvs)
inductive RkAll (h : Heap) : List Value → List PyData → Prop
  | nil : RkAll h [] []
  | cons {v : Value} {vs : List Value} {d : PyData} {ds : List PyData} : Rk h v d → RkAll h vs ds →
      RkAll h (v :: vs) (d :: ds)
end
mutual
theorem Rk.reads {h : Heap} : ∀ {v : Value} {d : PyData}, Rk h v d → ∃ as, Reads h v d as
  | _, _, .none => ⟨_, .none⟩
  | _, _, .bool b => ⟨_, .bool b⟩
  | _, _, .int i t => ⟨_, .int i t⟩
  | _, _, .str x t => ⟨_, .str x t⟩
  | _, _, .list h1 h2 h3 h4 => let ⟨_, r⟩ := RkAll.reads h4; ⟨_, .list h1 h2 h3 r⟩
  | _, _, .tuple h1 h2 h3 h4 => let ⟨_, r⟩ := RkAll.reads h4; ⟨_, .tuple h1 h2 h3 r⟩
  | _, _, .dict h1 h2 h3 _ h4 h5 =>
    let ⟨_, r⟩ := RkAll.reads h4
    let ⟨_, q⟩ := RkAll.reads h5
    ⟨_, .dict h1 h2 h3 r q⟩
theorem RkAll.reads {h : Heap} : ∀ {v : List Value} {d : List PyData}, RkAll h v d → ∃ as, ReadsAll h v d as
  | _, _, .nil => ⟨_, .nil⟩
  | _, _, .cons a b =>
    let ⟨_, r⟩ := Rk.reads a
    let ⟨_, q⟩ := RkAll.reads b
    ⟨_, .cons r q⟩
end

section
variable {prog : Program} {w : World} {h₀ : Heap}
abbrev LenOk (x : Str) : Prop := x.length ≤ sizeLine
theorem lt_depth {n m : Nat} (e : m = n + 1) : n < m := by omega
mutual
theorem rk_shown : ∀ {v : Value} {d : PyData}, Rk h₀ v d → d.showable = true → LenOk d.shown →
    ∃ bs, ReadAtMost h₀ d.depth bs ∧ ReprK prog w bs h₀ d.depth v d.shown
  | _, _, .none, _, _ => ⟨[], nofun, by simp only [PyData.shown]; exact .of_is ReprIs.none _ _ _⟩
  | _, _, .bool b, _, _ => ⟨[], nofun, by simp only [PyData.shown]; exact .of_is (ReprIs.bool b) _ _ _⟩
  | _, _, .int i t, hs, _ => by
    have z : i.natAbs.log2 < 1920 := by simpa [PyData.showable] using hs
    exact ⟨[], nofun, by simp only [PyData.shown]; exact .of_is (ReprIs.int t z) _ _ _⟩
  | _, _, .str x t, _, hz => by
    simp only [PyData.shown] at hz ⊢
    exact ⟨[], nofun, .of_is (ReprIs.str x t hz) _ _ _⟩
  | _, _, .list (a := a) (vs := vs) (xs := xs) h1 h2 h3 h4, hs, hz => by
    have r : Rk h₀ (.ref a) (.list xs) := .list h1 h2 h3 h4
    obtain ⟨as, r⟩ := r.reads
    simp only [PyData.shown, PyData.showable] at hz hs
    obtain ⟨bs, hb, hk⟩ := rk_all h4 hs (fun t m => Nat.le_trans (listText_mem_le m) hz)
    have hna : a ∉ bs := not_mem_of_deeper r (lt_depth (by simp only [PyData.depth])) hb
    refine ⟨a :: bs, ReadAtMost.cons r (by simp only [PyData.depth]; omega) hb, ?_⟩
    simp only [PyData.depth, PyData.shown]
    obtain ⟨l⟩ := vs
    match l, h3, h4, hk with
    | [], h3, h4, _ =>
      cases (show RkAll h₀ [] xs from h4)
      simp only [PyData.shownAll, listText_nil]
      exact ReprK.listEmpty h1 h2 h3
    | x :: l, h3, h4, hk =>
      exact ReprK.list h1 h2 h3 hna (by simpa using hk.length_eq) (fun i y e => hk.item i y (by simpa using e))
  | _, _, .tuple (a := a) (xs := xs) h1 h2 h3 h4, hs, hz => by
    have r : Rk h₀ (.ref a) (.tuple xs) := .tuple h1 h2 h3 h4
    obtain ⟨as, r⟩ := r.reads
    simp only [PyData.shown, PyData.showable] at hz hs
    obtain ⟨bs, hb, hk⟩ := rk_all h4 hs (fun t m => Nat.le_trans (tupleText_mem_le m) hz)
    have hna : a ∉ bs := not_mem_of_deeper r (lt_depth (by simp only [PyData.depth])) hb
    refine ⟨a :: bs, ReadAtMost.cons r (by simp only [PyData.depth]; omega) hb, ?_⟩
    simp only [PyData.depth, PyData.shown]
    exact ReprK.tuple h1 h2 h3 hna hk
  | _, _, .dict (a := a) (es := es) (kvs := kvs) h1 h2 h3 hm h4 h5, hs, hz => by
    have r : Rk h₀ (.ref a) (.dict kvs) := .dict h1 h2 h3 hm h4 h5
    obtain ⟨as, r⟩ := r.reads
    simp only [PyData.shown, PyData.showable] at hz hs
    obtain ⟨s1, s2⟩ := PyData.showableKv_split kvs hs
    have le : ∀ p ∈ PyData.shownKv kvs, p.length ≤ sizeLine := fun p m => Nat.le_trans (dictText_mem_le m) hz
    obtain ⟨b1, hb1, k1⟩ := rk_all h4 s1 (fun t m =>
      let ⟨p, hp, hl⟩ := PyData.shownKv_key_le kvs t m; Nat.le_trans hl (le p hp))
    obtain ⟨b2, hb2, k2⟩ := rk_all h5 s2 (fun t m =>
      let ⟨p, hp, hl⟩ := PyData.shownKv_val_le kvs t m; Nat.le_trans hl (le p hp))
    have hb := (hb1.mono (PyData.depthAll_keys_le kvs)).append (hb2.mono (PyData.depthAll_vals_le kvs))
    have hna : a ∉ b1 ++ b2 := not_mem_of_deeper r (lt_depth (by simp only [PyData.depth])) hb
    refine ⟨a :: (b1 ++ b2), ReadAtMost.cons r (by simp only [PyData.depth]; omega) hb, ?_⟩
    simp only [PyData.depth, PyData.shown, PyData.shownKv_eq]
    have e1 := k1.more_le (fun b hb => List.mem_append_left b2 hb) (PyData.depthAll_keys_le kvs)
    have e2 := k2.more_le (fun b hb => List.mem_append_right b1 hb) (PyData.depthAll_vals_le kvs)
    exact ReprK.dict h1 h2 h3 hm hna (ReprEntriesK.of_two es.toList _ _ e1 e2)
theorem rk_all : ∀ {vs : List Value} {ds : List PyData}, RkAll h₀ vs ds → PyData.showableAll ds = true →
    (∀ t ∈ PyData.shownAll ds, LenOk t) → ∃ bs, ReadAtMost h₀ (PyData.depthAll ds) bs ∧
      ReprAllK prog w bs h₀ (PyData.depthAll ds) vs (PyData.shownAll ds)
  | _, _, .nil, _, _ => ⟨[], nofun, by simp only [PyData.shownAll]; exact .nil⟩
  | _, _, .cons (d := d) (ds := ds) r rs, hs, hz => by
    simp only [PyData.showableAll, Bool.and_eq_true] at hs
    simp only [PyData.shownAll] at hz ⊢
    obtain ⟨b1, hb1, k1⟩ := rk_shown r hs.1 (hz _ (List.mem_cons_self ..))
    obtain ⟨b2, hb2, k2⟩ := rk_all rs hs.2 (fun t m => hz t (List.mem_cons_of_mem _ m))
    simp only [PyData.depthAll]
    refine ⟨b1 ++ b2, (hb1.mono (Nat.le_max_left _ _)).append (hb2.mono (Nat.le_max_right _ _)), ?_⟩
    have e1 := (k1.more fun b hb => List.mem_append_left b2 hb).level_le (Nat.le_max_left d.depth (PyData.depthAll ds))
    exact .cons e1 (k2.more_le (fun b hb => List.mem_append_right b1 hb) (Nat.le_max_right _ _))
end

/-- repr(v) of data, no display under way -/
theorem repr_rk {A : Around} {E : Value → Shared → Prop} {s : Shared} {Q : Value → Shared → Prop} {v : Value}
    {d : PyData} (r : Rk s.heap v d) (hs : d.showable = true) (hz : LenOk d.shown) (hg : A.guards = some [])
    (hu : A.units + (d.depth + 1) < cLine)
    (hQ : ∀ h' u tk, (∀ b o, s.heap.get? b = some o → h'.get? b = some o) →
      Q (.str d.shown u) { s with heap := h', toks := tk }) :
    wpAny (model prog w) A (call (.builtin "repr") [v]) Q E s := by
  have same : ∀ u tk, Q (.str d.shown u) { s with toks := tk } := fun u tk => hQ s.heap u tk fun _ _ e => e
  have in1 : A.in1.guards = some [] := hg
  have un1 : ∀ n, A.units + (n + 1 + 1) < cLine → A.in1.units + (n + 1) < cLine := fun n z => by
    show A.units + 1 + (n + 1) < cLine
    omega
  cases r with
  | none =>
    simp only [PyData.shown] at same
    exact PySem.P.repr_of_none (same _ _)
  | bool b =>
    simp only [PyData.shown] at same
    exact PySem.P.repr_of_bool (same _ _)
  | int i t =>
    simp only [PyData.shown] at same
    exact PySem.P.repr_of_int (by simpa [PyData.showable] using hs) (same _ _)
  | str x t =>
    simp only [PyData.shown] at same hz
    exact PySem.P.repr_of_str (same _ _) hz
  | list h1 h2 h3 h4 =>
    rename_i a o vs n xs
    simp only [PyData.shown, PyData.showable, PyData.depth] at hz hs hu hQ same
    obtain ⟨as, rr⟩ := (Rk.list h1 h2 h3 h4).reads
    obtain ⟨bs, hb, hk⟩ := rk_all (prog := prog) (w := w) h4 hs (fun t m => Nat.le_trans (listText_mem_le m) hz)
    have hna : a ∉ bs := not_mem_of_deeper rr (lt_depth (by simp only [PyData.depth])) hb
    refine call_repr_slot (by omega) ⟨o, h1, h2⟩ PySem.F.slot_list_repr.toG ?_
    obtain ⟨l⟩ := vs
    match l, h3, h4, hk with
    | [], h3, h4, _ =>
      cases (show RkAll s.heap [] xs from h4)
      simp only [PyData.shownAll, listText_nil] at same
      exact call_list_repr_empty ⟨o, h1, h2⟩ h1 h3 ⟨_, _, rfl, same _ _⟩
    | x :: l, h3, h4, hk =>
      exact call_list_reprK h1 h2 h3 hna (by simpa using hk.length_eq)
        (fun i y e => hk.item i y (by simpa using e)) in1 (fun b _ => Clear.nil b) (un1 _ hu) (fun _ _ e => e)
        (fun h' u tk k => ⟨_, _, rfl, hQ h' u tk k⟩) hz
  | tuple h1 h2 h3 h4 =>
    rename_i a o vs n xs
    simp only [PyData.shown, PyData.showable, PyData.depth] at hz hs hu hQ same
    obtain ⟨as, rr⟩ := (Rk.tuple h1 h2 h3 h4).reads
    obtain ⟨bs, hb, hk⟩ := rk_all (prog := prog) (w := w) h4 hs (fun t m => Nat.le_trans (tupleText_mem_le m) hz)
    have hna : a ∉ bs := not_mem_of_deeper rr (lt_depth (by simp only [PyData.depth])) hb
    refine call_repr_slot (by omega) ⟨o, h1, h2⟩ PySem.F.slot_tuple_repr ?_
    exact call_tuple_reprK h1 h2 h3 hna hk in1 (fun b _ => Clear.nil b) (un1 _ hu) (fun _ _ e => e)
      (fun h' u tk k => ⟨_, _, rfl, hQ h' u tk k⟩) hz
  | dict h1 h2 h3 hm h4 h5 =>
    rename_i a o es n kvs
    simp only [PyData.shown, PyData.showable, PyData.depth] at hz hs hu hQ same
    obtain ⟨as, rr⟩ := (Rk.dict h1 h2 h3 hm h4 h5).reads
    obtain ⟨s1, s2⟩ := PyData.showableKv_split kvs hs
    have le : ∀ p ∈ PyData.shownKv kvs, p.length ≤ sizeLine := fun p m => Nat.le_trans (dictText_mem_le m) hz
    obtain ⟨b1, hb1, k1⟩ := rk_all (prog := prog) (w := w) h4 s1 (fun t m =>
      let ⟨p, hp, hl⟩ := PyData.shownKv_key_le kvs t m; Nat.le_trans hl (le p hp))
    obtain ⟨b2, hb2, k2⟩ := rk_all (prog := prog) (w := w) h5 s2 (fun t m =>
      let ⟨p, hp, hl⟩ := PyData.shownKv_val_le kvs t m; Nat.le_trans hl (le p hp))
    have hb := (hb1.mono (PyData.depthAll_keys_le kvs)).append (hb2.mono (PyData.depthAll_vals_le kvs))
    have hna : a ∉ b1 ++ b2 := not_mem_of_deeper rr (lt_depth (by simp only [PyData.depth])) hb
    have e1 := k1.more_le (fun b hb => List.mem_append_left b2 hb) (PyData.depthAll_keys_le kvs)
    have e2 := k2.more_le (fun b hb => List.mem_append_right b1 hb) (PyData.depthAll_vals_le kvs)
    refine call_repr_slot (by omega) ⟨o, h1, h2⟩ PySem.F.slot_dict_repr ?_
    rw [PyData.shownKv_eq] at hz
    simp only [PyData.shownKv_eq] at hQ
    exact call_dict_reprK h1 h2 h3 hm hna (ReprEntriesK.of_two es.toList _ _ e1 e2) in1
      (fun b _ => Clear.nil b) (un1 _ hu) (fun _ _ e => e) (fun h' u tk k => ⟨_, _, rfl, hQ h' u tk k⟩) hz
end

/-! ### the same over the abstract heap -/
def keyD : Key → PyData
  | .inl i => .int i
  | .inr x => .str x
mutual
inductive Dd (K : PySem.W.Frag) (H : Hp) : V → PyData → Prop
  | non : Dd K H .non .none
  | bl (b : Bool) : Dd K H (.bl b) (.bool b)
  | int (i : Int) : Dd K H (.int i) (.int i)
  | str (x : Str) : Dd K H (.str x) (.str x)
  | lst {a : Addr} {xs : List V} {ds : List PyData} : SqL K H a xs → DdAll K H xs ds → Dd K H (.ref a) (.list ds)
  | tup {a : Addr} {xs : List V} {ds : List PyData} : SqT K H a xs → DdAll K H xs ds → Dd K H (.ref a) (.tuple ds)
  | dic {a : Addr} {kvs : List (Key × V)} {ps : List (PyData × PyData)} : H a = some (.dK kvs) →
      ps.map (·.1) = kvs.map (fun p => keyD p.1) → DdAll K H (kvs.map (·.2)) (ps.map (·.2)) → Dd K H (.ref a) (.dict ps)
inductive DdAll (K : PySem.W.Frag) (H : Hp) : List V → List PyData → Prop
  | nil : DdAll K H [] []
  | cons {v : V} {vs : List V} {d : PyData} {ds : List PyData} : Dd K H v d → DdAll K H vs ds →
      DdAll K H (v :: vs) (d :: ds)
end
section
variable {X : Cx} {pins : List (Addr × Obj)} {σ : L2.St} {H : Hp} {s : Shared}
theorem keys_rk {h : Heap} : ∀ {kvs : List (Key × V)} {vs : List (Key × Value)} {es : List DictEntry},
    KV kvs vs → Pairs (mixKind X.prog X.w) es vs → RkAll h (es.map (·.key)) (kvs.map fun p => keyD p.1)
  | _, _, _, .nil, .nil => .nil
  | (k, _) :: _, (k', _) :: _, e :: _, .cons hk r, .cons he _ q => by
    obtain ⟨e1, _⟩ := hk
    dsimp only at e1
    subst e1
    refine .cons ?_ (keys_rk r q)
    rcases keyIs_shape he with ⟨i, t, rfl, e2⟩ | ⟨x, t, rfl, e2⟩
    · show Rk h e.key (.int i)
      rw [e2]; exact .int i t
    · show Rk h e.key (.str x)
      rw [e2]; exact .str x t
theorem vals_of {kvs : List (Key × V)} : ∀ {vs : List (Key × Value)} {es : List DictEntry},
    KV kvs vs → Pairs (mixKind X.prog X.w) es vs → Vals (kvs.map (·.2)) (es.map (·.val)) := by
  induction kvs with
  | nil =>
    intro vs es r q
    cases r
    cases q
    exact .nil
  | cons p kvs ih =>
    intro vs es r q
    cases r with
    | cons hk r =>
      cases q with
      | cons _ hv q => exact .cons (by dsimp only; rw [hv]; exact hk.2) (ih r q)
mutual
theorem Dd.rk (I : Inv X pins σ H s) : ∀ {d : PyData} {v : V} {u : Value}, Dd X.K H v d → RelV v u → Rk s.heap u d
  | .none, _, _, .non, r => by cases r; exact .none
  | .bool b, _, _, .bl _, r => by cases r; exact .bool b
  | .int i, _, _, .int _, r => by obtain ⟨t, rfl⟩ := r; exact .int i t
  | .str x, _, _, .str _, r => by obtain ⟨t, rfl⟩ := r; exact .str x t
  | .list ds, _, _, .lst hs ha, r => by
    cases r
    obtain ⟨its, rv, ⟨o, n, ho, hc, _, hd⟩, _⟩ := I.list hs
    exact .list ho hc hd (DdAll.rk I ha rv)
  | .tuple ds, _, _, .tup hs ha, r => by
    cases r
    obtain ⟨its, rv, ⟨o, ho, hc, n, hd⟩, _⟩ := I.tuple hs
    exact .tuple ho hc hd (DdAll.rk I ha rv)
  | .dict ps, _, _, .dic hs hk ha, r => by
    cases r
    obtain ⟨_, hm, vs, kv, o, es, ep, ho, hx, hd, _, hp, _⟩ := I.hok _ _ hs
    refine .dict ho hx.1 hd hm ?_ ?_
    · rw [hk]
      exact keys_rk (X := X) kv hp
    · exact DdAll.rk I ha (vals_of (X := X) kv hp)
theorem DdAll.rk (I : Inv X pins σ H s) : ∀ {ds : List PyData} {vs : List V} {us : List Value},
    DdAll X.K H vs ds → Vals vs us → RkAll s.heap us ds
  | [], _, _, .nil, r => by cases r; exact .nil
  | _ :: _, _, _, .cons h1 h2, r => by
    cases r with
    | cons r1 r2 => exact .cons (Dd.rk I h1 r1) (DdAll.rk I h2 r2)
end
/-- data stays where nothing tracked is changed -/
theorem SqT.same {K : PySem.W.Frag} {H H' : Hp} {a : Addr} {xs : List V} (s : Same H H') (h : SqT K H a xs) :
    SqT K H' a xs := by
  rcases h with (h | ⟨o, h⟩) | h
  · exact .inl (.inl (s _ _ h))
  · exact .inl (.inr ⟨o, s _ _ h⟩)
  · exact .inr h
mutual
theorem Dd.same {K : PySem.W.Frag} {H H' : Hp} (s : Same H H') : ∀ {d : PyData} {v : V}, Dd K H v d → Dd K H' v d
  | _, _, .non => .non
  | _, _, .bl b => .bl b
  | _, _, .int i => .int i
  | _, _, .str x => .str x
  | _, _, .lst h a => .lst (s.seq h) (DdAll.same s a)
  | _, _, .tup h a => .tup (SqT.same s h) (DdAll.same s a)
  | _, _, .dic h k a => .dic (s _ _ h) k (DdAll.same s a)
theorem DdAll.same {K : PySem.W.Frag} {H H' : Hp} (s : Same H H') : ∀ {d : List PyData} {v : List V},
    DdAll K H v d → DdAll K H' v d
  | _, _, .nil => .nil
  | _, _, .cons a b => .cons (Dd.same s a) (DdAll.same s b)
end
/-- what repr can write here -/
structure Shows (d : PyData) : Prop where
  ok : d.showable = true
  len : d.shown.length ≤ sizeLine
  dp : d.depth ≤ 100
/-- repr(x), x data -/
def rRepr (K : PySem.W.Frag) : List V → Hp → VK → Prop := fun xs H Q =>
  ∃ (x : V) (d : PyData), xs = [x] ∧ Dd K H x d ∧ Shows d ∧ Q (.str d.shown) H
theorem call_repr {k : Nat} (hg : X.A.guards = some []) (hr : Room k X.A) :
    CallR X (.builtin "repr") (rRepr X.K) := by
  intro pins s σ H xs us Q I r h
  obtain ⟨x, d, rfl, hd, ⟨h1, h2, h3⟩, q⟩ := h
  obtain ⟨u, rfl, ru⟩ := vals1 r
  have hu : X.A.units + (d.depth + 1) < cLine := by
    have := hr.un
    omega
  exact repr_rk (hd.rk I ru) h1 h2 hg hu fun h' u tk k => ⟨.str d.shown, H, I.kept k, ⟨u, rfl⟩, q⟩
end
end Q
set_option Elab.async false
set_option linter.all false
set_option maxRecDepth 100000
set_option maxHeartbeats 4000000
namespace Q
open PySem PySem.Spec PyProof.Rows L2

section
variable {X : Cx} {pins : List (Addr × Obj)} {σ : L2.St} {H : Hp} {s : Shared} {a : Addr} {o : HO}
/-- an object of this def's own making, so far untracked, is tracked from here on -/
theorem Inv.track (I : Inv X pins σ H s) (n : H a = none) (n0 : X.s_0.heap.get? a = none)
    (nL : a ≠ X.env.locals) (nC : ∀ x c, X.env.cells.lookup x = some c → c ≠ a)
    (nP : ∀ p ∈ X.pn ++ pins, p.1 ≠ a) (new : ObjOk X.prog X.w (upd H a o) s.heap a o) :
    Inv X pins σ (upd H a o) s := by
  have ne0 : ∀ {b ob}, X.s_0.heap.get? b = some ob → b ≠ a := fun e z => by rw [z, n0] at e; cases e
  have neH : ∀ {b u}, H b = some u → b ≠ a := fun e => ne_of_none e n
  obtain ⟨k1, k2, k3, k4, k5, k6, k7⟩ := I.base
  refine ⟨I.ok, I.os, I.bare, ⟨k1, k2, ?_, k4, ?_, ?_, ?_⟩, I.loc, I.cell, ?_, ?_, ?_, ?_, I.len⟩
  · intro b ob e z hx
    rw [upd_ne (ne0 e)]
    exact k3 b ob e z hx
  · intro b xs e
    rw [upd_ne (neH (k5 b xs e))]
    exact k5 b xs e
  · intro b ob u e
    rw [upd_ne (neH (k6 b ob u e))]
    exact k6 b ob u e
  · intro b ps e
    obtain ⟨more, q⟩ := k7 b ps e
    exact ⟨more, by rw [upd_ne (neH q)]; exact q⟩
  · rw [upd_ne (Ne.symm nL)]
    exact I.free
  · intro x c e
    rw [upd_ne (nC x c e)]
    exact I.freeC x c e
  · intro p hp
    obtain ⟨q1, q2, q3⟩ := I.pin p hp
    exact ⟨q1, by rw [upd_ne (nP p hp)]; exact q2, q3⟩
  · intro b u e
    by_cases z : b = a
    · subst z
      rw [upd_same] at e
      cases e
      exact new
    · rw [upd_ne z] at e
      refine (I.hok b u e).stay (fun _ _ _ q => q) (fun c q => ?_) (fun c xs q => ?_)
      · rw [upd_ne (neH q)]
        exact q
      · rw [upd_ne (neH q)]
        exact q
end

/-- what 'except x as n: ..' wishes, the exception kept behind the suite -/
def wKeep (K : PySem.W.Frag) (c : Value) (i : Nat) (ts : Addr → Value → Option Addr → TS) (Wout : WX)
    (D : Ends) : WX := fun cls d σ H =>
  ∃ b, PySem.W.exmOne K cls c = some b ∧
    (b = true → ∃ C, cls = .ref C ∧ ∀ a, H a = none → ts a cls d
      { nx := fun σ' H' => D.nx (σ'.set i none) (upd H' a (exv a C d)),
        rt := fun v H' => D.rt v (upd H' a (exv a C d)) } (σ.set i (some (.ref a))) H) ∧
    (b = false → Wout cls d σ H)
section
variable {X : Cx} {x n : Str} {c : Value} {i : Nat} {body suite : List Stmt} {b₀ : Stmt}
  {np pos pos' : Pos} {tb : WX → TS} {ts : Addr → Value → Option Addr → TS} {Wout : WX}
theorem ps_try_keep (hs : X.stack = X.env :: X.outer) (hf : X.env.frame = some X.env.locals)
    (hex : X.ex = []) (hN : X.N.Nodup) (hi : X.N[i]? = some n) (hln : X.env.kindOf n = some .local)
    (hc : Names X x c) (tk : Takes X Wout)
    (hb : ∀ (W : WX) (pn : List (Addr × Obj)) (xe : Value → Shared → Prop), Takes (X.tr pn xe) W →
      PassesOwn (model X.prog X.w) X.A X.env xe → PSs (X.tr pn xe) body (tb W))
    (hsu : ∀ (a : Addr) (oe : Obj) (cls : Value) (d : Option Addr) (pn : List (Addr × Obj)),
      Zc cls d oe → (∃ vs, oe.data = .fields vs) → PSs (X.suite a ((a, oe) :: pn)) (b₀ :: suite) (ts a cls d)) :
    PS X (.Try body [.ExceptHandler (some (.Name x np)) (some n) (b₀ :: suite) pos'] [] [] pos)
      (fun D σ H => tb (wKeep X.K c i ts Wout D) D σ H) := by
  constructor
  intro pins s σ H D I h
  have ok := I.ok
  have hfr : X.A.frames = some (X.env :: X.outer) := ok.frames.trans (by rw [hs])
  refine wpAny_Try_except ?_
  have run := (hb (wKeep X.K c i ts Wout D) (X.pn ++ pins)
    (fun e s₁ => wpAny (model X.prog X.w) X.A (noteFrame e X.env)
      (fun _ s₂ => wpAny (model X.prog X.w) X.A (setFlight e none)
        (fun _ s₃ => wpAny (model X.prog X.w) X.A
          (handleBy e X.env [.ExceptHandler (some (.Name x np)) (some n) (b₀ :: suite) pos'])
          (SP X pins D) X.xe s₃) X.xe s₂) X.xe s₁) ?caught PassesOwn.looking).run [] s σ H D (I.toTry _) h
  case caught =>
    rintro u s' ⟨a, B, sI, pins', σ', H', cls, d, rfl, J', nb, up, sky, na, os, ag, b, hb1, hyes, hno⟩
    have J : Inv X pins σ' H' sI := J'.ofTry ok
    rw [show (X.tr (X.pn ++ pins) _).stack = X.env :: X.outer from hs] at sky
    show wpAny (model X.prog X.w) X.A (noteFrame (.ref a) X.env) _ _ _
    refine Sky.land Zc.steady hfr hf sky ?_
    intro h3 fl3 up3
    have J3 : Inv X pins σ' H' { s' with heap := h3 } := J.landed nb fl3.1 (up.trans up3) os ag
    obtain ⟨oe3, vs3, he3, hz3, hd3⟩ := fl3.there
    have nfr : a ∉ frs (X.env :: X.outer) := by
      intro hm
      obtain ⟨_, ob, e', hnf⟩ := fl3.2.2.1.mem hm
      rw [he3] at e'
      cases e'
      exact hnf _ hd3
    have nL : a ≠ X.env.locals := fun z => nfr (List.mem_filterMap.mpr ⟨X.env, List.mem_cons_self, hf.trans (by rw [z])⟩)
    have nF : a ∉ X.fs := by
      intro hm
      obtain ⟨e, he, q⟩ := List.mem_filterMap.mp hm
      exact nfr (List.mem_filterMap.mpr ⟨e, List.mem_cons_of_mem _ he, q⟩)
    -- the exception was not there before
    have nB : B.get? a = none := by
      have z := fl3
      exact z.2.1
    have inI : ∀ {e ob}, sI.heap.get? e = some ob → e ∉ frs (X.env :: X.outer) → e ≠ a := by
      rintro e ob q nq rfl
      have q2 := nb e ob q (by show e ∉ frs X.stack; rw [hs]; exact nq)
      rw [nB] at q2
      cases q2
    have n0 : X.s_0.heap.get? a = none := by
      cases q : X.s_0.heap.get? a with
      | none => rfl
      | some ob =>
        obtain ⟨ob2, q2⟩ := J.base.there a ob q (by rw [hex]; exact List.not_mem_nil)
        exact absurd rfl (inI q2 nfr)
    have nP : ∀ p ∈ X.pn ++ pins, p.1 ≠ a := by
      intro p hp
      obtain ⟨q1, _, q3, q4, _⟩ := J.pin p hp
      refine inI q1 ?_
      intro hm
      obtain ⟨e, he, q⟩ := List.mem_filterMap.mp hm
      rcases List.mem_cons.mp he with z | z
      · rw [z, hf] at q
        exact q3 (Option.some.inj q).symm
      · exact q4 (List.mem_filterMap.mpr ⟨e, z, q⟩)
    have S3 := J3.suite he3 hd3 na nL nF
    refine wpAny_handleBy_cons (codeAny_handlers_test ?_) nofun
    have LT : PySem.W.Looks (model X.prog X.w) h3 (typeOf (.ref a)) cls :=
      fun A Q E s k q => wpAny_typeOf_ref (k _ _ he3) (by rw [hz3.1]; exact q)
    have LM := PySem.W.exm_one (M := model X.prog X.w) (J3.kIn) LT hb1
    have test : ∀ {Q : Value → Shared → Prop} {E : Value → Shared → Prop}, Q c { s' with heap := h3 } →
        wpAny (model X.prog X.w) (X.A.mark (some (.ref a))) (eval (.Name x np) X.env) Q E { s' with heap := h3 } := by
      intro Q E q
      obtain ⟨hg, hdbg, hm⟩ := hc
      rcases hm with hm | ⟨hm, hv, hnn⟩
      · exact ld_glob (X := X.suite a ((a, oe3) :: (X.pn ++ pins))) S3 hg hm q hdbg
      · exact ld_blt (X := X.suite a ((a, oe3) :: (X.pn ++ pins))) S3 hg hm hv q hnn hdbg
    refine test (LM.here ?_)
    cases b with
    | true =>
      obtain ⟨C, ec, hyes⟩ := hyes rfl
      subst ec
      refine codeAny_handlers_suite_as (HandSPX.lands_againZ fl3 ?_)
      intro h4 fl4 up4
      have J4 : Inv X pins σ' H' { s' with heap := h4 } := J.landed nb fl4.1 ((up.trans up3).trans up4) os ag
      obtain ⟨oe4, vs4, he4, hz4, hd4⟩ := fl4.there
      have S4 := J4.suite he4 hd4 na nL nF
      refine store_ok (X := X.suite a ((a, oe4) :: (X.pn ++ pins))) (v := .ref a) S4 hN hi (.inl hln) rfl ?_ (.inr hln)
      intro s5 S5
      have suiteRun := (hsu a oe4 (.ref C) d (X.pn ++ pins) hz4 ⟨_, hd4⟩).run [] s5 _ H' _ S5 (hyes a na)
      refine wpAny_mono suiteRun ?_ (fun _ _ z => False.elim z)
      intro f s6 hsp
      have fin : ∀ {σ6 : L2.St} {H6 : Hp} {Q : Shared → Prop},
          Inv (X.suite a ((a, oe4) :: (X.pn ++ pins))) [] σ6 H6 s6 →
          (∀ s7, Inv X pins (σ6.set i none) (upd H6 a (exv a C d)) s7 → Q s7) →
          wpAny (model X.prog X.w) X.A (do bindName X.env n .none; unbindBehindTheSuite X.env n pos')
            (fun _ s7 => Q s7) X.xe s6 := by
        intro σ6 H6 Q S6 hq
        obtain ⟨g1, g2, _⟩ := S6.pin (a, oe4) (List.mem_append.mpr (.inl List.mem_cons_self))
        have U := S6.unsuite ok
        have nC : ∀ y e, X.env.cells.lookup y = some e → e ≠ a := by
          rintro y e q rfl
          obtain ⟨v, ob, q1, q2⟩ := U.cell y e q
          have g1' : s6.heap.get? e = some oe4 := g1
          rw [q1] at g1'
          cases g1'
          rw [hd4] at q2
          cases q2
        have V := Inv.track (o := exv a C d) U g2 n0 nL nC nP (exv_ok g1 hz4 ⟨_, hd4⟩)
        exact gone_ok V hN hi hln hq
      match f, hsp with
      | .next, ⟨σ6, H6, S6, q6⟩ => exact fin S6 fun s7 J7 => ⟨_, _, J7, q6⟩
      | .brk, ⟨σ6, H6, S6, q6⟩ => exact False.elim q6
      | .cont, ⟨σ6, H6, S6, q6⟩ => exact False.elim q6
      | .ret u, ⟨v6, σ6, H6, S6, r6, q6⟩ => exact fin S6 fun s7 J7 => ⟨_, _, _, J7, r6, q6⟩
    | false =>
      show wpAny _ X.A (handleBy (.ref a) X.env []) _ _ _
      refine wpAny_handleBy_nil ?_
      obtain ⟨k1, k2, k3, oe, vs, TT, oT, ts', he, hz, hd, h1, hr⟩ := id fl3
      unfold PySem.passOn
      refine wpAny_bind (wpAny_field he hd h1 ?_)
      rw [if_neg (show ¬ ((Value.ref TT == Value.none) = true) from by simp)]
      have out : wpAny (model X.prog X.w) X.A (setFlight (.ref a) X.env.frame)
          (fun _ s4 => wpAny (model X.prog X.w) X.A (throw (.ref a) : Sem Flow) (SP X pins D) X.xe s4)
          X.xe { s' with heap := h3 } := by
        rw [hf]
        refine HandSPX.setFlight_upZ fl3 ?_
        intro h4 hh4 up4
        refine wpAny_throw (tk _ _ ?_)
        have sky4 : Sky B X.stack a (Zc cls d) X.env.locals h4 := .inr (.inr (by rw [hs]; exact hh4))
        exact ⟨a, B, sI, pins, σ', H', cls, d, rfl, J, nb, (up.trans up3).trans up4, sky4, na, os, ag, hno rfl⟩
      first
        | exact wpAny_bind (wpAny_pure (wpAny_bind out))
        | exact wpAny_bind out
  refine wpAny_mono run ?_ (fun e s1 he => he)
  intro f s1 hsp
  match f, hsp with
  | .next, ⟨σ', H', J', q⟩ => exact wpAny_execs_nil ⟨σ', H', J'.ofTry ok, q⟩
  | .brk, ⟨σ', H', J', q⟩ => exact ⟨σ', H', J'.ofTry ok, q⟩
  | .cont, ⟨σ', H', J', q⟩ => exact ⟨σ', H', J'.ofTry ok, q⟩
  | .ret u, ⟨v, σ', H', J', r, q⟩ => exact ⟨v, σ', H', J'.ofTry ok, r, q⟩
end
/-- repr(e) -/
theorem pe_repr {X : Cx} {k : Nat} {e : Expr} {te : TE} {p pos : Pos} (hgd : X.A.guards = some [])
    (hr : Room k X.A) (hm : X.mg "repr" = none) (ha : PE X e te) (hg : Gl X "repr" := by rfl)
    (h1 : starEach [e] X.env = (false, eval e X.env) :: starEach [] X.env := by rfl)
    (h2 : (backTo pos (starEach [] X.env)).any (·.1) = false := by rfl) :
    PE X (.Call (.Name "repr" p) [e] [] pos) (tCB (rRepr X.K) (tCons te tNil)) :=
  pe_callB (call_repr hgd hr) hg hm (by decide +kernel) (pa_cons ha pa_nil h1) (by decide) (by decide) h1 h2
end Q
set_option Elab.async false
set_option linter.all false
set_option maxRecDepth 100000
set_option maxHeartbeats 4000000
namespace Q
open PySem PySem.Spec PyProof.Rows L2

/-! sets made from lists, whatever the items are: the shell -/
def noneYet (w : World) : Obj :=
  { cls := .type "set"
    dict := none
    data := .set #[] 0 (.fresh 0 0 (!w.params.followText "set-order")) }
def walker (l : Addr) : Obj :=
  { cls := .type "list_iterator"
    data := .fields #[.ref l, .int 0 0] }
/-- the heap at which the items begin to come -/
def laidTwo (w : World) (h : Heap) (l : Addr) : Heap := (h.push (noneYet w)).push (walker l)

section
variable {P : Program} {w : World} {A : Around} {E : Value → Shared → Prop} {s : Shared}

theorem laid_set (h : Heap) (l : Addr) : (laidTwo w h l).get? h.objs.size = some (noneYet w) :=
  Heap.get?_push_of_some _ (Heap.get?_push_size _ rfl)
theorem laid_old {h : Heap} {l b : Addr} {o : Obj} (e : h.get? b = some o) : (laidTwo w h l).get? b = some o :=
  Heap.get?_push_of_some _ (Heap.get?_push_of_some _ e)

set_option maxRecDepth 100000 in
set_option maxHeartbeats 3200000 in
theorem set_shell {l : Addr} {items : Array Value} {Q : Value → Shared → Prop} (Post : Heap → Prop) (hl : s.heap.IsList l items)
    (loop : codeAny (model P w) A.in1.in1 (.builtin "set.update.loop" ⟨[.ref s.heap.objs.size, .ref (s.heap.push (noneYet w)).objs.size], []⟩)
      (fun r z => r = .ok (.ret .none) ∧ z.gens = s.gens ∧ z.drawn = s.drawn ∧ z.os = s.os ∧ Post z.heap) { s with heap := laidTwo w s.heap l })
    (next : ∀ (h' : Heap) (tk : Nat), Post h' → Q (.ref s.heap.objs.size) { s with heap := h', toks := tk }) :
    wpAny (model P w) A (call (.type "set") [.ref l]) Q E s := by
  obtain ⟨mroHead, mroTail, ofMro⟩ := F.called_set.mro
  have g1 := F.called_set.made
  have g2 := F.called_set.sub
  refine wpAny_call (codeAny_of_tree ?_)
  show wpAny _ _ (callAny (.type "set") _) _ _ _
  refine wpAny_pure ⟨Code.quiet_builtin _ (by decide +kernel), codeAny_builtin F.entry_type_call ?_⟩
  rw [Around.under_plain (weight_type_call_type "set" [.ref l] []) rfl]
  have g3 := F.called_set.notType
  have g4 := F.called_set.canCreate
  have g5 := F.typeCall_set_1 (.ref l)
  repeat (any_goals (first | assumption | wp_step))
  refine codeAny_mono (code_set_led1 (.ref l) (E := E) (Q₁ := fun v z => v = .ref s.heap.objs.size ∧ z = { s with heap := s.heap.push (noneYet w) }) ⟨rfl, rfl⟩) fun r z hz => ?_
  cases r with
  | error e => exact hz
  | ok fl =>
    cases fl with
    | ret v =>
      obtain ⟨rfl, rfl⟩ := hz
      have at1 : (s.heap.push (noneYet w)).get? s.heap.objs.size = some (noneYet w) := Heap.get?_push_size _ rfl
      have isSet : Shared.TypeIs { s with heap := s.heap.push (noneYet w) } (.ref s.heap.objs.size) "set" := ⟨_, at1, rfl⟩
      have g6 := F.called_set.init.lookup
      have g7 := F.called_set.init.bind (.ref s.heap.objs.size)
      repeat (any_goals (first | assumption | wp_step))
      refine codeAny_mono (codeAny_call_builtin (R := wants (fun r z => r = .none ∧ ∃ h' tk, z = { s with heap := h', toks := tk } ∧ Post h') E)
        F.called_set.init.plain F.entry_set_init (check_set_init_1 isSet ?_)) fun r z hz => ?_
      · obtain ⟨⟨lcls, ldict, ldata, lslots⟩, lat, lc, ln, ld⟩ := hl
        simp only at lc ld
        subst lc
        subst ld
        have lat1 : (s.heap.push (noneYet w)).get? l = some { cls := .type "list", dict := ldict, data := .seq items ln, slots := lslots } := Heap.get?_push_of_some _ lat
        have lis1 : (s.heap.push (noneYet w)).IsList l items := ⟨_, lat1, rfl, ln, rfl⟩
        have g8 := F.sub_list_set
        have g9 := F.sub_list_frozenset
        have g10 : (Value.type "list" == Value.type "dict") = false := by decide
        unfold Builtin.«set.__init__» noKeywords Builtin.Frozenset.updateFrom
        generalize hold : pyIter = PI
        wp_walk
        subst hold
        refine wpAny_pyIter_list lis1 ?_
        refine wpAny_bind (wpAny_runValue ?_)
        refine codeAny_mono loop fun r z hz => ?_
        obtain ⟨rfl, e1, e2, e3, hp⟩ := hz
        obtain ⟨zh, zg, zd, zt, zo⟩ := z
        dsimp only at e1 e2 e3 hp
        subst e1; subst e2; subst e3
        show wpAny _ _ _ _ _ _
        refine wpAny_pure ?_
        show wpAny _ _ (ret Value.none) _ _ _
        exact wpAny_pure ⟨rfl, zh, zt, rfl, hp⟩
      · cases r with
        | error e => exact hz
        | ok fl =>
          cases fl with
          | ret v =>
            obtain ⟨rfl, h', tk, rfl, hp⟩ := hz
            repeat (any_goals (first | assumption | wp_step))
            exact next _ _ hp
          | _ => exact hz.elim
    | _ => exact hz.elim
end
end Q
set_option Elab.async false
set_option linter.all false
set_option maxRecDepth 100000
set_option maxHeartbeats 4000000
namespace Q
open PySem PySem.Spec PyProof.Rows L2 PySem.W

/-! sorted(..) of a set whose members read as data -/
theorem each_perm {β : Type} {R : Value → β → Prop} {us vs : List Value} (p : vs.Perm us) : ∀ {bs : List β}, EachIs R us bs → ∃ cs : List β, cs.Perm bs ∧ EachIs R vs cs := by
  induction p with
  | nil => intro bs e; cases e; exact ⟨[], .nil, .nil⟩
  | cons x _ ih =>
    intro bs e
    cases e with
    | cons h t =>
      obtain ⟨cs, q, r⟩ := ih t
      exact ⟨_ :: cs, .cons _ q, .cons h r⟩
  | swap x y l =>
    intro bs e
    cases e with
    | cons h t =>
      cases t with
      | cons h2 t2 => exact ⟨_, .swap _ _ _, .cons h2 (.cons h t2)⟩
  | trans _ _ ih1 ih2 =>
    intro bs e
    obtain ⟨cs, q, r⟩ := ih2 e
    obtain ⟨ds, q2, r2⟩ := ih1 r
    exact ⟨ds, q2.trans q, r2⟩

/-- the set at a: its members are, in some order, the values us -/
def Members (w : World) (h : Heap) (a : Addr) (us : List Value) : Prop :=
  ∃ es ep t, SetAt h a es ep t ∧ (es.toList.map (·.2)).Perm us ∧ t.fits es.size = true ∧ es.size < scanBound ∧ Ris t.place.toList ∧
    (w.params.followText "set-order" = true ∨ t.led = true)
theorem Members.at {w : World} {h h' : Heap} {a : Addr} {us : List Value} (m : Members w h a us) (k : ∀ o, h.get? a = some o → h'.get? a = some o) : Members w h' a us := by
  obtain ⟨es, ep, t, sa, r⟩ := m
  exact ⟨es, ep, t, sa.at k, r⟩
theorem Members.ob {w : World} {h : Heap} {a : Addr} {us : List Value} (m : Members w h a us) : ∃ o, h.get? a = some o := by
  obtain ⟨es, ep, t, ⟨o, e, _⟩, _⟩ := m
  exact ⟨o, e⟩

section
variable {P : Program} {w : World} {A : Around} {E : Value → Shared → Prop} {s : Shared}
theorem sorted_members {β : Type} {R : Value → β → Prop} {enc : β → PyData} {a : Addr} {us : List Value} {bs : List β} {Q : Value → Shared → Prop}
    (m : Members w s.heap a us) (hh : A.handled = none) (e : EachIs (fun v b => R v b ∧ Reads s.heap v (enc b) []) us bs)
    (hal : ∀ cs : List β, cs.Perm bs → AllAlike (cs.map enc)) (hk : ∀ cs : List β, cs.Perm bs → Sortable (cs.map enc))
    (hu : ∀ b, b ∈ bs → A.units + 2 + (enc b).depth < cLine)
    (next : ∀ z p (out : Array Value) (c : Nat) (cs : List β), (∀ b o, s.heap.get? b = some o → z.heap.get? b = some o) → z.gens = s.gens → z.os = s.os → s.heap.objs.size ≤ p →
      z.heap.get? p = some (seqObj "list" out c) → cs.Perm bs → EachIs R out.toList (cs.mergeSort (dataLe false enc)) → Q (.ref p) z) :
    wpAny (model P w) A (call (.builtin "sorted") [.ref a]) Q E s := by
  obtain ⟨es, ep, t, sa, pm, hf, hb, hr, hl⟩ := m
  have lu : us.length = bs.length := e.length
  have le : us.length < scanBound := by
    rw [← pm.length_eq, List.length_map, Array.length_toList]
    exact hb
  refine Calls.call_function_entry kind_sorted plain_sorted entry_sorted (args_sorted1 _) ?_
  unfold Builtin.«sorted»
  refine wpAny_bind (m := checkCount "sorted" 1 1 _) (wpAny_pure ?_)
  refine wpAny_bind (collect_set (A := A.in1) hh sa hf hb hr hl fun s1 vs k1 hz g1 o1 q1 => ?_)
  have pv : vs.Perm us := q1.trans pm
  obtain ⟨cs, pc, ec⟩ := each_perm pv e
  have lv : vs.length = us.length := pv.length_eq
  have big : scanBound ≤ sizeLine := Nat.le_of_lt_succ (by rw [sizeLine_eq]; decide)
  refine wpAny_bind (wpAny_newList ?_ (by omega))
  have fresh : (s1.heap.push (seqObj "list" vs.toArray 0)).get? s1.heap.objs.size = some (seqObj "list" vs.toArray 0) := Heap.get?_push_size _ rfl
  have kept : ∀ b o, s.heap.get? b = some o → (s1.heap.push (seqObj "list" vs.toArray 0)).get? b = some o := fun b o q => Heap.get?_push_of_some _ (k1 b o q)
  refine wpAny_bind (wpAny_holding (list_sort_data (A := A.in1) (s := { s1 with heap := s1.heap.push (seqObj "list" vs.toArray 0) }) (vs := vs) (bs := cs) (enc := enc) (R := R) fresh
    (ec.mono fun _ _ q => q.1) (ec.mono fun _ _ q => ⟨[], PyProof.Rows.Reads.keeps kept q.2, by simp⟩) (hal cs pc) (hk cs pc) ?_ (fun b hb => ?_) fun out lo eo => ?_))
  · rw [pc.length_eq]
    omega
  · have q := hu b (pc.mem_iff.mp hb)
    show (A.units + 1) + 1 + (enc b).depth < cLine
    omega
  · obtain ⟨c, hc⟩ := sortedHeap_at (vs := vs) (out := out.toArray) fresh
    refine wpAny_pure ⟨_, rfl, next _ s1.heap.objs.size out.toArray c cs (fun b o q => ?_) g1 o1 hz hc pc (by simpa using eo)⟩
    have q2 := k1 b o q
    have lt := Heap.lt_size q2
    show (sortedHeap (s1.heap.push (seqObj "list" vs.toArray 0)) s1.heap.objs.size vs out.toArray).get? b = some o
    rw [sortedHeap_old (Nat.ne_of_lt lt) (by rw [size_push']; exact Nat.lt_succ_of_lt lt)]
    exact Heap.get?_push_of_some _ q2
end
end Q
set_option Elab.async false
set_option linter.all false
set_option maxRecDepth 100000
set_option maxHeartbeats 4000000
namespace Q
open PySem PySem.Spec PyProof.Rows L2

/-! sets of tuples whose items are texts and whole numbers; only new members come -/
theorem range_back {α : Type} : ∀ l : List α, (List.range l.length).filterMap (fun i => l[i]?) = l
  | [] => rfl
  | x :: l => by
    have ih := range_back l
    rw [List.length_cons, List.range_succ_eq_map, List.filterMap_cons_some (b := x) (by rfl), List.filterMap_map]
    congr 1
theorem reorder {α : Type} (es : Array α) (order : Array Nat) (f : α → Int) (p : order.toList.Perm (List.range es.size)) :
    ((order.filterMap (es[·]?)).toList).Perm es.toList ∧ (order.filterMap (es[·]?)).toList.map f = order.toList.map fun i => (es.map f).getD i 0 := by
  have e0 : (order.filterMap (es[·]?)).toList = order.toList.filterMap fun i => es.toList[i]? := by simp
  rw [e0]
  constructor
  · have q := p.filterMap fun i => es.toList[i]?
    have q2 := range_back es.toList
    rw [Array.length_toList] at q2
    rw [q2] at q
    exact q
  · have inside : ∀ i ∈ order.toList, i < es.size := fun i hi => List.mem_range.mp (p.mem_iff.mp hi)
    clear p e0
    generalize order.toList = l at inside
    induction l with
    | nil => rfl
    | cons i l ih =>
      have hi : i < es.size := inside i List.mem_cons_self
      have e1 : es.toList[i]? = some es[i] := by simp [hi]
      rw [List.filterMap_cons_some (f := fun i => es.toList[i]?) e1, List.map_cons, List.map_cons, ih fun j hj => inside j (List.mem_cons_of_mem _ hj)]
      congr 1
      simp [Array.getD_eq_getD_getElem?, hi]

abbrev tkh (P : Program) (w : World) (k : List Key) : Int := tupleKeyHash (mixKind P w) k
abbrev TupAt (P : Program) (w : World) (h : Heap) (k : List Key) (b : Addr) : Prop := IsTupleKey (mixKind P w) h k b
abbrev spot (m : Nat) (x : Int) (c : Nat) : SetTable.Probe := nth m (runAt m (SetTable.bits x % (m + 1)) (SetTable.bits x)) c

theorem TupAt.mono {P : Program} {w : World} {h h' : Heap} {k : List Key} {b : Addr} (x : TupAt P w h k b) (kp : ∀ o, h.get? b = some o → h'.get? b = some o) : TupAt P w h' k b := by
  obtain ⟨o, its, n, q, r⟩ := x
  exact ⟨o, its, n, kp o q, r⟩
theorem TupAt.notSet {P : Program} {w : World} {h : Heap} {k : List Key} {a b : Addr} {o : Obj} {es : Array (Int × Value)} {ep : Nat} {t : SetTable} (x : TupAt P w h k b) (q : h.get? a = some o) (d : o.data = .set es ep t) : b ≠ a := by
  rintro rfl
  obtain ⟨o2, its, n, q2, _, d2, _⟩ := x
  rw [q] at q2
  cases q2
  rw [d] at d2
  cases d2

/-- the set at a with its table; the members are tuples that stand in the heap -/
structure Bag (P : Program) (w : World) (h : Heap) (a : Addr) (es : Array (Int × Value)) (ep : Nat) (t : SetTable) : Prop where
  ob : ∃ o, h.get? a = some o ∧ o.ExactSet ∧ o.data = .set es ep t
  tab : TabOk t (es.toList.map (·.1))
  el : ∀ e ∈ es.toList, ∃ b k, e = (tkh P w k, Value.ref b) ∧ TupAt P w h k b
  led : w.params.followText "set-order" = true ∨ t.led = true
  room : es.size * 5 < t.mask * 3
  few : es.size < 64

section
variable {P : Program} {w : World} {A : Around} {E : Value → Shared → Prop} {s : Shared} {a : Addr} {es : Array (Int × Value)} {ep : Nat} {t : SetTable}

theorem tab_fits (T : TabOk t (es.toList.map (·.1))) (hr : es.size ≤ t.mask) : t.fits es.size = true := by
  have h1 := T.sz
  rw [List.length_map, Array.length_toList] at h1
  unfold SetTable.fits SetTable.fill
  rw [T.dm, Bool.and_eq_true, beq_iff_eq, decide_eq_true_eq]
  refine ⟨h1, ?_⟩
  show t.place.size + 0 ≤ t.mask
  omega
theorem Bag.fits (R : Bag P w s.heap a es ep t) : t.fits es.size = true := tab_fits R.tab (by have := R.room; omega)

/-! what the model asks of the items -/
theorem key_class (n : Nat) {k : Key} {v : Value} (h : (mixKind P w).is k v = true) : ofAClassStatement n v = pure false := by
  rcases keyIs_shape h with ⟨i, u, rfl, rfl⟩ | ⟨x, u, rfl, rfl⟩ <;> cases n <;> rfl
theorem items_shape {ks : List Key} {vs : List Value} (h : ItemsAre (mixKind P w) ks vs) : ∀ v ∈ vs, ∃ k, (mixKind P w).is k v = true := by
  induction h with
  | nil => intro v hv; cases hv
  | cons h1 _ ih =>
    intro v hv
    rcases List.mem_cons.mp hv with rfl | hv
    · exact ⟨_, h1⟩
    · exact ih v hv
theorem key_hashBy (n : Nat) {k : Key} {v : Value} (h : (mixKind P w).is k v = true) : ∃ b, hashByValue n v = pure b := by
  rcases keyIs_shape h with ⟨i, u, rfl, rfl⟩ | ⟨x, u, rfl, rfl⟩
  · exact ⟨true, by cases n <;> rfl⟩
  · exact ⟨false, by cases n <;> rfl⟩

theorem tup_class {k : List Key} {b : Addr} {Q : Bool → Shared → Prop} (x : TupAt P w s.heap k b) (h : Q false s) : wpAny (model P w) A (ofAClassStatement 8 (.ref b)) Q E s := by
  have ty := x.typeIs
  obtain ⟨o, its, n, q, _, d, r⟩ := x
  unfold ofAClassStatement
  refine wpAny_bind (wpAny_typeOf ty ?_)
  dsimp only
  simp only [show (("tuple" : String) == "tuple") = true by decide, if_true, Bool.not_true, Bool.false_eq_true, if_false]
  try refine wpAny_bind (wpAny_pure ?_)
  try simp only [Bool.not_true, Bool.false_eq_true, if_false]
  show wpAny _ _ (seqItems? (.ref b) >>= _) _ _ s
  refine wpAny_bind (wpAny_seqItems q d ?_)
  dsimp only
  refine wpAny_bind ?_
  show wpAny _ _ (forIn its _ _) _ _ s
  rw [← Array.forIn_toList]
  refine wpAny_forIn_list _ (fun left r z => r.1 = none ∧ z = s ∧ ∀ v ∈ left, ∃ k, (mixKind P w).is k v = true) _ ?_ ?_ _ _ ⟨rfl, rfl, items_shape r⟩
  · rintro v left r z ⟨_, rfl, all⟩
    obtain ⟨k1, h1⟩ := all v List.mem_cons_self
    rw [key_class _ h1]
    refine wpAny_bind (wpAny_pure ?_)
    simp only [Bool.false_eq_true, if_false]
    exact wpAny_pure ⟨rfl, rfl, fun u hu => all u (List.mem_cons_of_mem _ hu)⟩
  · rintro ⟨r1, r2⟩ z ⟨hr, rfl, _⟩
    simp only at hr
    subst hr
    exact wpAny_pure h
theorem tup_hashBy {k : List Key} {b : Addr} {Q : Bool → Shared → Prop} (x : TupAt P w s.heap k b) (h : ∀ y, Q y s) : wpAny (model P w) A (hashByValue 8 (.ref b)) Q E s := by
  have ty := x.typeIs
  obtain ⟨o, its, n, q, _, d, r⟩ := x
  unfold hashByValue
  refine wpAny_bind (wpAny_specialOf ty F.slot_tuple_hash.lookup ?_)
  show wpAny _ _ (seqItems? (.ref b) >>= _) _ _ s
  refine wpAny_bind (wpAny_seqItems q d ?_)
  refine wpAny_bind ?_
  show wpAny _ _ (forIn its _ _) _ _ s
  rw [← Array.forIn_toList]
  refine wpAny_forIn_list _ (fun left r z => z = s ∧ (∀ v ∈ left, ∃ k, (mixKind P w).is k v = true)) _ ?_ ?_ _ _ ⟨rfl, items_shape r⟩
  · rintro v left r z ⟨rfl, all⟩
    obtain ⟨k1, h1⟩ := all v List.mem_cons_self
    obtain ⟨y, hy⟩ := key_hashBy (P := P) (w := w) 7 h1
    rw [hy]
    refine wpAny_bind (wpAny_pure ?_)
    cases y
    · simp only [Bool.not_false, if_true]
      exact wpAny_pure (by dsimp only; exact wpAny_pure (h _))
    · simp only [Bool.not_true, Bool.false_eq_true, if_false]
      exact wpAny_pure ⟨rfl, fun u hu => all u (List.mem_cons_of_mem _ hu)⟩
  · rintro ⟨r1, r2⟩ z ⟨rfl, _⟩
    cases r1
    · exact wpAny_pure (h _)
    · exact wpAny_pure (h _)
theorem tup_seen {k : List Key} {b : Addr} {Q : Bool → Shared → Prop} (x : TupAt P w s.heap k b) {ys : List Value} (hy : ∀ y ∈ ys, ∃ c k2, y = Value.ref c ∧ TupAt P w s.heap k2 c) (h : Q false s) :
    wpAny (model P w) A (searchCouldBeSeen (.ref b) ys) Q E s := by
  unfold searchCouldBeSeen
  refine wpAny_bind ?_
  refine wpAny_forIn_list _ (fun left r z => r.1 = none ∧ z = s ∧ ∀ y ∈ left, ∃ c k2, y = Value.ref c ∧ TupAt P w s.heap k2 c) _ ?_ ?_ _ _ ⟨rfl, rfl, hy⟩
  · rintro v left r z ⟨_, rfl, all⟩
    obtain ⟨c, k2, rfl, xc⟩ := all v List.mem_cons_self
    have all2 : ∀ y ∈ left, ∃ c k2, y = Value.ref c ∧ TupAt P w z.heap k2 c := fun u hu => all u (List.mem_cons_of_mem _ hu)
    dsimp only
    by_cases same : (b == c || (carriedByValue (.ref b) && carriedByValue (.ref c))) = true
    · exact wp_if_pos same (wpAny_pure ⟨rfl, rfl, all2⟩)
    · refine wp_if_neg same (wpAny_bind (wpAny_eqIsQuiet_tuple x ?_))
      simp only [Bool.not_true, Bool.false_eq_true, if_false]
      refine wpAny_bind (wpAny_eqIsQuiet_tuple xc ?_)
      simp only [Bool.not_true, Bool.false_eq_true, if_false]
      refine wpAny_bind (tup_class x ?_)
      simp only [Bool.false_eq_true, if_false]
      refine wpAny_bind (tup_class xc ?_)
      simp only [Bool.false_eq_true, if_false]
      exact wpAny_pure ⟨rfl, rfl, all2⟩
  · rintro ⟨r1, r2⟩ z ⟨hr, rfl, _⟩
    simp only at hr
    subst hr
    exact wpAny_pure h
end
end Q
set_option Elab.async false
set_option linter.all false
set_option maxRecDepth 100000
set_option maxHeartbeats 4000000
namespace Q
open PySem PySem.Spec PyProof.Rows L2
section
variable {P : Program} {w : World} {A : Around} {E : Value → Shared → Prop} {s : Shared} {a : Addr} {es : Array (Int × Value)} {ep : Nat} {t : SetTable}

theorem spot_dummy (m : Nat) (x : Int) (c : Nat) : (spot m x c).dummy = none := by
  have main : ∀ (n : Nat) (q : SetTable.Probe), q.dummy = none → (nth m q n).dummy = none := by
    intro n
    induction n with
    | zero => exact fun q h => h
    | succ n ih =>
      refine fun q h => ih (adv m q) ?_
      unfold adv
      split
      · exact h
      · exact h
  exact main c _ rfl
theorem spot_shift (m : Nat) (x : Int) (c d : Nat) : nth m (spot m x c) d = spot m x (c + d) := (nth_add m c _ d).symm

/-- a key that is not there: the search ends at the first empty slot of its way -/
theorem search_new (R : Bag P w s.heap a es ep t) {x : Addr} {k : List Key} (hx : TupAt P w s.heap k x) (hu : A.units < cLine)
    (new : ∀ e ∈ es.toList, ∀ b k2, e = (tkh P w k2, Value.ref b) → TupAt P w s.heap k2 b → k2 ≠ k) {K : Nat} (hK1 : K < 10 * SetTable.turns t.mask)
    (hK2 : (spot t.mask (tkh P w k) K).j ∉ t.place.toList) (hK3 : ∀ c, c < K → (spot t.mask (tkh P w k) c).j ∈ t.place.toList)
    {Q : SetFound → Shared → Prop} (next : Q (.free (spot t.mask (tkh P w k) K).j false) s) :
    ∀ (f c : Nat) (stand : Option SetTable.Probe), stand.getD (t.probeStart (tkh P w k)) = spot t.mask (tkh P w k) c → c ≤ K → K - c < f →
      wpAny (model P w) A (setSearchFrom a (.ref x) (tkh P w k) true f stand) Q E s := by
  obtain ⟨o, ho, hex, hd⟩ := R.ob
  intro f
  induction f with
  | zero => exact fun c stand _ _ z => absurd z (Nat.not_lt_zero _)
  | succ f ih =>
    intro c stand st hc hf
    rw [setSearchFrom_succ]
    refine wpAny_bind (wpAny_setState_of ho hd R.fits ?_)
    dsimp only
    refine wp_if_neg (by unfold SetTable.gaveWay; rw [mask_odd R.tab.mok]; decide) ?_
    try refine wpAny_bind (wpAny_pure ?_)
    have spec := go_spec t R.tab.ris R.tab.dm (fun i => (es[i]?.map (·.1)).getD 0) (tkh P w k) (10 * SetTable.turns t.mask) (K - c) (spot t.mask (tkh P w k) c) (spot_dummy _ _ _) (by omega)
      (fun d hd => by rw [spot_shift]; exact hK3 _ (by omega)) (by rw [spot_shift, Nat.add_sub_cancel' hc]; exact hK2)
    rcases spec with ⟨d, i, hd1, hi, hh, _, pr⟩ | ⟨_, pr⟩
    · rw [spot_shift] at hi
      rw [spot_shift, spot_shift] at pr
      have pr2 : t.probe (fun i => (es[i]?.map (·.1)).getD 0) (tkh P w k) (stand.getD (t.probeStart (tkh P w k))) = some (.candidate (spot t.mask (tkh P w k) (c + d)).j i (spot t.mask (tkh P w k) (c + (d + 1)))) := by
        rw [st]
        exact pr
      rw [pr2]
      dsimp only
      have il : i < es.size := by
        have q1 := (List.getElem?_eq_some_iff.mp hi).1
        have q2 := R.tab.sz
        rw [List.length_map, Array.length_toList] at q2
        rw [Array.length_toList] at q1
        omega
      have ei : es[i]? = some es[i] := Array.getElem?_eq_getElem il
      have em : es[i] ∈ es.toList := Array.getElem_mem_toList il
      obtain ⟨b, k2, e2, xb⟩ := R.el _ em
      have ne : k2 ≠ k := new _ em b k2 e2 xb
      rw [e2] at ei
      have onward : wpAny (model P w) A (searchRest a (.ref x) (tkh P w k) true f es t (spot t.mask (tkh P w k) (c + d)).j i (spot t.mask (tkh P w k) (c + (d + 1)))) Q E s := by
        unfold searchRest
        rw [ei]
        dsimp only
        refine wpAny_bind (wpAny_holding (wpAny_eqBool_tuple hu xb hx ?_))
        refine wpAny_bind (wpAny_setState_of ho hd R.fits ?_)
        dsimp only
        refine wp_if_neg (by simp [ne]) ?_
        try refine wpAny_bind (wpAny_pure ?_)
        rw [sameMem]
        dsimp only
        simp only [if_true, slot_live R.tab.ris hi, ei]
        refine wpAny_bind (wpAny_isSame_ref_self (wpAny_bind (wpAny_pure ?_)))
        simp only [if_true]
        refine wp_if_neg (by simp [ne]) ?_
        exact ih (c + (d + 1)) _ rfl (by omega) (by omega)
      by_cases hl : t.led = true
      · refine wp_if_neg (by simp [hl]) ?_
        try refine wpAny_bind (wpAny_pure ?_)
        exact onward
      · refine wp_if_pos (by simp [hl]) ?_
        refine wpAny_bind (tup_seen hx (fun y hy => ?_) ?_)
        · obtain ⟨e, he, ee⟩ := List.mem_map.mp hy
          have inE : e ∈ es.toList := by
            have z : e ∈ es ∧ e.1 = tkh P w k := by simpa using he
            simpa using z.1
          obtain ⟨b2, k3, e3, x3⟩ := R.el e inE
          exact ⟨b2, k3, by rw [← ee, e3], x3⟩
        · refine wp_if_neg (by decide) ?_
          try refine wpAny_bind (wpAny_pure ?_)
          exact onward
    · rw [spot_shift, Nat.add_sub_cancel' hc] at pr
      have pr2 : t.probe (fun i => (es[i]?.map (·.1)).getD 0) (tkh P w k) (stand.getD (t.probeStart (tkh P w k))) = some (.empty (spot t.mask (tkh P w k) K).j none) := by
        rw [st]
        exact pr
      rw [pr2]
      dsimp only
      exact wpAny_pure next

/-- the table grows -/
theorem relay_bag {o : Obj} (ho : s.heap.get? a = some o) (hex : o.ExactSet) (hd : o.data = .set es ep t) (T : TabOk t (es.toList.map (·.1))) (fit : es.size ≤ t.mask)
    (el : ∀ e ∈ es.toList, ∃ b k, e = (tkh P w k, Value.ref b) ∧ TupAt P w s.heap k b) (ld : w.params.followText "set-order" = true ∨ t.led = true) (few : es.size < 64) {n M : Nat}
    (hn1 : SetTable.sizeAbove n - 1 = M) (hM : MaskOk M) (hn2 : SetTable.sizeAbove n ≤ 128) (hn3 : es.size * 5 < M * 3) {Q : Unit → Shared → Prop}
    (next : ∀ h' es2 ep2 t2, Heap.SameBut a s.heap h' → Bag P w h' a es2 ep2 t2 → es2.toList.Perm es.toList → Q () { s with heap := h' }) : wpAny (model P w) A (setRelay a n) Q E s := by
  obtain ⟨t2, order, e, po, T2, m2, l2, _, _⟩ := relaid_ok t (hs := es.map (·.1)) (wanted := n) hn1 hM (by rw [Array.size_map]; omega)
  rw [Array.size_map] at po
  obtain ⟨r1, r2⟩ := reorder es order (·.1) po
  rw [← r2] at T2
  have z2 : (order.filterMap (es[·]?)).size = es.size := by
    have q := r1.length_eq
    rw [Array.length_toList, Array.length_toList] at q
    exact q
  rw [setRelay_eq]
  refine wpAny_bind (wpAny_setState_of ho hd (tab_fits T fit) ?_)
  dsimp only
  refine wp_if_neg (by rw [sizeLine_eq]; omega) ?_
  try refine wpAny_bind (wpAny_pure ?_)
  rw [e]
  dsimp only
  refine wpAny_bind ?_
  refine wp_if_neg (by rw [z2]; simp) ?_
  try refine wpAny_bind (wpAny_pure ?_)
  refine wpAny_pure ?_
  dsimp only
  refine wpAny_storeSet_of ho hd ?_ (by rw [z2, sizeLine_eq]; omega)
  have sb : Heap.SameBut a s.heap (s.heap.update a (Obj.putSet (order.filterMap (es[·]?)) t2)) := Heap.SameBut.update ..
  refine next _ (order.filterMap (es[·]?)) (ep + 1) t2 sb ⟨⟨_, store_at ho hd, ⟨hex.1, hex.2.1, hex.2.2⟩, rfl⟩, T2, fun e1 he => ?_, by rw [l2]; exact ld, by rw [z2, m2]; exact hn3, by rw [z2]; exact few⟩ r1
  obtain ⟨b, k, e3, x3⟩ := el e1 (r1.mem_iff.mp he)
  exact ⟨b, k, e3, x3.mono fun o2 q => (sb.2 b (x3.notSet ho hd)).trans q⟩

theorem tab_plain {hs : List Int} (T : TabOk t hs) : TabOk { t with plain := false } hs := ⟨T.ris, T.dm, T.sz, T.mok, T.bd, T.reach⟩

/-- a new tuple comes in -/
theorem add_new (R : Bag P w s.heap a es ep t) {x : Addr} {k : List Key} (hx : TupAt P w s.heap k x) (hu : A.units < cLine)
    (new : ∀ e ∈ es.toList, ∀ b k2, e = (tkh P w k2, Value.ref b) → TupAt P w s.heap k2 b → k2 ≠ k) (few : es.size + 1 < 64) {Q : Bool → Shared → Prop}
    (next : ∀ h' es2 ep2 t2, Heap.SameBut a s.heap h' → Bag P w h' a es2 ep2 t2 → es2.toList.Perm ((tkh P w k, Value.ref x) :: es.toList) → Q true { s with heap := h' }) :
    wpAny (model P w) A (setAddHashed a (.ref x) (tkh P w k)) Q E s := by
  obtain ⟨o, ho, hex, hd⟩ := R.ob
  have room := R.room
  have lh : (es.toList.map (·.1)).length = es.size := by rw [List.length_map, Array.length_toList]
  obtain ⟨K, hK1, hK2, hK3⟩ := R.tab.first (by rw [lh]; omega) (tkh P w k)
  have hK4 : K < 100000 := by
    have q : 10 * SetTable.turns t.mask ≤ 1420 := by
      unfold SetTable.turns
      rcases R.tab.mok with e | e | e <;> omega
    omega
  unfold setAddHashed
  refine wpAny_holding ?_
  rw [show (100000 : Nat) = 99999 + 1 from rfl, setAddHashedIn_succ]
  refine wpAny_bind (wpAny_setState_of ho hd R.fits ?_)
  dsimp only
  refine wp_if_neg (by simp [byScan, Value.scannable]) ?_
  try refine wpAny_bind (wpAny_pure ?_)
  unfold setSearch
  refine wpAny_bind (search_new R hx hu new hK1 hK2 hK3 ?_ 100000 0 none rfl (Nat.zero_le _) (by omega))
  dsimp only
  refine wpAny_bind (wpAny_setState_of ho hd R.fits ?_)
  dsimp only
  obtain ⟨q1, q2, q3, q4, q5, q6, q7, q8, q9⟩ := R.tab.put hK2 hK3
  rw [lh] at q2 q9
  generalize hput : t.put (spot t.mask (tkh P w k) K).j = pt at q1 q3 q4 q5 q6 q7 q8 q9 ⊢
  obtain ⟨t1, p⟩ := pt
  dsimp only at q1 q3 q4 q5 q6 q7 q8 q9 ⊢
  subst q1
  have goal2 : ∀ t2 : SetTable, t2 = t1 ∨ t2 = { t1 with plain := false } → wpAny (model P w) A (do
      storeSet a (SetTable.insertAt es (SetTable.below t.place (spot t.mask (tkh P w k) K).j) (tkh P w k, Value.ref x)) t2
      if (!false && t2.tooFull) = true then setRelay a (SetTable.grown (es.size + 1))
      return true) Q E s := fun t2 ht2 => by
    have T2 : TabOk t2 ((es.toList.map (·.1)).take (SetTable.below t.place (spot t.mask (tkh P w k) K).j) ++ tkh P w k :: (es.toList.map (·.1)).drop (SetTable.below t.place (spot t.mask (tkh P w k) K).j)) := by
      rcases ht2 with rfl | rfl
      · exact q3
      · exact tab_plain q3
    have m2 : t2.mask = t.mask := by rcases ht2 with rfl | rfl <;> exact q4
    have l2 : t2.led = t.led := by rcases ht2 with rfl | rfl <;> exact q5
    have f2 : t2.fill = es.size + 1 := by rcases ht2 with rfl | rfl <;> exact q9
    clear q3 q4 q5 q6 q7 q8 q9 ht2 hput
    generalize SetTable.below t.place (spot t.mask (tkh P w k) K).j = p at q2 T2 ⊢
    have i1 : (SetTable.insertAt es p (tkh P w k, Value.ref x)).toList = es.toList.take p ++ (tkh P w k, Value.ref x) :: es.toList.drop p := SetTable.toList_insertAt ..
    have pm : (SetTable.insertAt es p (tkh P w k, Value.ref x)).toList.Perm ((tkh P w k, Value.ref x) :: es.toList) := by
      rw [i1]
      exact put_perm _ _ _
    rw [← List.map_take, ← List.map_drop, ← List.map_cons (f := fun e : Int × Value => e.1) (a := (tkh P w k, Value.ref x)), ← List.map_append, ← i1] at T2
    generalize SetTable.insertAt es p (tkh P w k, Value.ref x) = es1 at pm T2 ⊢
    have z1 : es1.size = es.size + 1 := by
      have q := pm.length_eq
      rw [List.length_cons, Array.length_toList, Array.length_toList] at q
      exact q
    refine wpAny_bind (wpAny_storeSet_of ho hd ?_ (by rw [z1, sizeLine_eq]; omega))
    have sb : Heap.SameBut a s.heap (s.heap.update a (Obj.putSet es1 t2)) := Heap.SameBut.update ..
    have ho1 := store_at (es' := es1) (t' := t2) ho hd
    generalize s.heap.update a (Obj.putSet es1 t2) = h1 at sb ho1 ⊢
    have el1 : ∀ e ∈ es1.toList, ∃ b k, e = (tkh P w k, Value.ref b) ∧ TupAt P w h1 k b := fun e he => by
      rcases List.mem_cons.mp (pm.mem_iff.mp he) with q | q
      · exact ⟨x, k, q, hx.mono fun o2 z => (sb.2 x (hx.notSet ho hd)).trans z⟩
      · obtain ⟨b, k3, e3, x3⟩ := R.el e q
        exact ⟨b, k3, e3, x3.mono fun o2 z => (sb.2 b (x3.notSet ho hd)).trans z⟩
    have ld1 : w.params.followText "set-order" = true ∨ t2.led = true := by rw [l2]; exact R.led
    have full : t2.tooFull = decide ((es.size + 1) * 5 ≥ t.mask * 3) := by
      unfold SetTable.tooFull
      rw [f2, m2]
    by_cases hf : t2.tooFull = true
    · have big : (es.size + 1) * 5 ≥ t.mask * 3 := by
        rw [full, decide_eq_true_eq] at hf
        exact hf
      first
        | (refine wpAny_bind ?_; refine wp_if_pos (by simp [hf]) ?_)
        | (refine wp_if_pos (by simp [hf]) ?_; refine wpAny_bind ?_)
      have two : (t.mask = 7 ∧ es.size = 4) ∨ (t.mask = 31 ∧ es.size = 18) := by
        rcases R.tab.mok with e | e | e <;> rw [e] at big room <;> first | (exact .inl ⟨e, by omega⟩) | (exact .inr ⟨e, by omega⟩) | (exfalso; omega)
      have grow : ∀ M, SetTable.sizeAbove (SetTable.grown (es.size + 1)) - 1 = M → MaskOk M → SetTable.sizeAbove (SetTable.grown (es.size + 1)) ≤ 128 → (es.size + 1) * 5 < M * 3 →
          wpAny (model P w) A (setRelay a (SetTable.grown (es.size + 1))) (fun _ z => wpAny (model P w) A (pure true) Q E z) E { s with heap := h1 } := fun M c1 c2 c3 c4 => by
        refine relay_bag (s := { s with heap := h1 }) ho1 ⟨hex.1, hex.2.1, hex.2.2⟩ rfl T2 (by rw [m2, z1]; rcases two with ⟨e, e2⟩ | ⟨e, e2⟩ <;> omega) el1 ld1 (by rw [z1]; exact few) c1 c2 c3 (by rw [z1]; exact c4) ?_
        intro h2 es2 ep2 t3 sb2 R2 pm2
        exact wpAny_pure (next h2 es2 ep2 t3 (sb.trans sb2) R2 (pm2.trans pm))
      rcases two with ⟨_, e2⟩ | ⟨_, e2⟩
      · exact grow 31 (by rw [e2, size_20]) (.inr (.inl rfl)) (by rw [e2, size_20]; decide) (by omega)
      · exact grow 127 (by rw [e2, size_76]) (.inr (.inr rfl)) (by rw [e2, size_76]; decide) (by omega)
    · first
        | refine wp_if_neg (by simp [hf]) ?_
        | (refine wpAny_bind ?_; refine wp_if_neg (by simp [hf]) ?_; refine wpAny_pure ?_)
      refine wpAny_pure (next h1 es1 (ep + 1) t2 sb ⟨⟨_, ho1, ⟨hex.1, hex.2.1, hex.2.2⟩, rfl⟩, T2, el1, ld1, ?_, by rw [z1]; exact few⟩ pm)
      rw [full, decide_eq_true_eq] at hf
      rw [z1, m2]
      omega
  by_cases hp : t1.plain = true
  · first
      | (refine wpAny_bind ?_; refine wp_if_pos hp ?_; refine tup_hashBy hx fun y => ?_)
      | refine wp_if_pos hp (wpAny_bind (tup_hashBy hx fun y => ?_))
    cases y
    · exact goal2 _ (.inr rfl)
    · exact goal2 _ (.inl rfl)
  · first
      | (refine wpAny_bind ?_; refine wp_if_neg hp ?_; refine wpAny_pure ?_)
      | refine wp_if_neg hp (wpAny_bind (wpAny_pure ?_))
      | refine wp_if_neg hp ?_
    exact goal2 _ (.inl rfl)
end
end Q
set_option Elab.async false
set_option linter.all false
set_option maxRecDepth 100000
set_option maxHeartbeats 4000000
namespace Q
open PySem PySem.Spec PyProof.Rows L2
section
variable {P : Program} {w : World} {A : Around} {E : Value → Shared → Prop} {s : Shared}

/-- the loop that fills a set; J: what holds behind i items -/
theorem fill_loop {I : Addr} {fp wr : List Addr} {G : Array GenState → Array GenState → Prop} {n : Nat} {Pv : Nat → Value → Prop} {St : Nat → Shared → Prop} {R : Result → Shared → Prop}
    (W : WalksS P w A.in1 I fp wr G n Pv St) (S : Addr) (apart : S ∉ fp) (J : Nat → Heap → Prop)
    (moves : ∀ i h h', J i h → (∀ b o, b ∉ wr → h.get? b = some o → h'.get? b = some o) → J i h')
    (step : ∀ (E : Value → Shared → Prop) (i : Nat) (v : Value) (z : Shared) (Q : Bool → Shared → Prop), i < n → Pv i v → J i z.heap →
      (∀ b h' tk, z.toks ≤ tk → Heap.SameBut S z.heap h' → J (i + 1) h' → Q b { z with heap := h', toks := tk }) → wpAny (model P w) A.in1 (setAdd S v) Q E z) :
    ∀ (k i : Nat) (z : Shared), n - i = k → i ≤ n → St i z → J i z.heap → (∀ z', Moved (S :: wr) G z z' → J n z'.heap → R (.ok (.ret .none)) z') →
      codeAny (model P w) A (.builtin "set.update.loop" ⟨[.ref S, .ref I], []⟩) R z := by
  have wide : ∀ b ∈ wr, b ∈ S :: wr := fun _ q => List.mem_cons_of_mem _ q
  intro k
  induction k with
  | zero =>
    intro i z ek hi st j fin
    have ei : i = n := by omega
    subst ei
    refine codeAny_builtin F.entry_set_update_loop ?_
    rw [Around.under_plainId F.plain_set_update_loop _]
    show wpAny _ A.in1 (pyNext (.ref I) >>= _) _ _ z
    refine wpAny_bind (W.done z _ _ st fun z1 mv => ?_)
    show wpAny _ A.in1 (ret Value.none) _ _ z1
    exact wpAny_pure (fin z1 (mv.mono wide) (moves _ _ _ j fun b o nb q => mv.heap b o nb q))
  | succ k ih =>
    intro i z ek hi st j fin
    have lt : i < n := by omega
    refine codeAny_builtin F.entry_set_update_loop ?_
    rw [Around.under_plainId F.plain_set_update_loop _]
    show wpAny _ A.in1 (pyNext (.ref I) >>= _) _ _ z
    refine wpAny_bind (W.item i z _ _ lt st fun v z1 pv st1 mv => ?_)
    have j1 := moves _ _ _ j fun b o nb q => mv.heap b o nb q
    show wpAny _ A.in1 (holding [v] (setAdd S v) >>= _) _ _ z1
    refine wpAny_bind (wpAny_holding ?_)
    refine step _ i v z1 _ lt pv j1 fun b h' tk le sb j2 => ?_
    refine wpAny_pure ⟨plainId_quiet F.plain_set_update_loop _, ih (i + 1) _ (by omega) lt (W.frame _ z1 _ _ st1 le fun c hc o q => ?_) j2 fun z2 mv2 j3 => ?_⟩
    · rw [sb.2 c fun e : c = S => apart (by rw [← e]; exact hc)]
      exact q
    · refine fin z2 (Moved.trans W.gtrans ((mv.mono wide).then_heap le fun c o hc q => ?_) mv2) j3
      rw [sb.2 c fun e : c = S => hc (by rw [e]; exact List.mem_cons_self)]
      exact q

/-- a set of a list, by what each item's coming in does -/
theorem set_filled {l : Addr} {items : Array Value} {Q : Value → Shared → Prop} (J : Nat → Heap → Prop) (hh : A.handled = none) (hl : s.heap.IsList l items)
    (begin_ : J 0 (laidTwo w s.heap l))
    (moves : ∀ i h h', J i h → (∀ b o, b ≠ (s.heap.push (noneYet w)).objs.size → h.get? b = some o → h'.get? b = some o) → J i h')
    (step : ∀ (E : Value → Shared → Prop) (i : Nat) (v : Value) (z : Shared) (Q : Bool → Shared → Prop), i < items.size → items[i]? = some v → J i z.heap →
      (∀ b h' tk, z.toks ≤ tk → Heap.SameBut s.heap.objs.size z.heap h' → J (i + 1) h' → Q b { z with heap := h', toks := tk }) → wpAny (model P w) A.in1.in1.in1 (setAdd s.heap.objs.size v) Q E z)
    (next : ∀ (h' : Heap) (tk : Nat), (∀ b o, s.heap.get? b = some o → h'.get? b = some o) → J items.size h' → Q (.ref s.heap.objs.size) { s with heap := h', toks := tk }) :
    wpAny (model P w) A (call (.type "set") [.ref l]) Q E s := by
  obtain ⟨o, ho, hc, n, hd⟩ := id hl
  have ll : l < s.heap.objs.size := Heap.lt_size ho
  have z1 : (s.heap.push (noneYet w)).objs.size = s.heap.objs.size + 1 := Heap.size_push ..
  have lis1 : (s.heap.push (noneYet w)).IsList l items := ⟨o, Heap.get?_push_of_some _ ho, hc, n, hd⟩
  have h3 : A.in1.in1.in1.handled = none := by simp [hh]
  have nI : l ≠ (s.heap.push (noneYet w)).objs.size := by rw [z1]; exact Nat.ne_of_lt (Nat.lt_succ_of_lt ll)
  have apart : s.heap.objs.size ∉ [(s.heap.push (noneYet w)).objs.size, l] := by
    rw [z1]
    simp only [List.mem_cons, List.mem_singleton, List.not_mem_nil, or_false, not_or]
    exact ⟨Nat.ne_of_lt (Nat.lt_succ_self _), Nat.ne_of_gt ll⟩
  refine set_shell (fun h' => J items.size h' ∧ ∀ b o, s.heap.get? b = some o → h'.get? b = some o) hl ?_ fun h' tk q => next h' tk q.2 q.1
  refine fill_loop (A := A.in1.in1) (n := items.size) (Walks.list h3 (s.heap.push (noneYet w)).objs.size l nI items).toS s.heap.objs.size apart J
    (fun i h h' j k => moves i h h' j fun b o nb q => k b o (by simpa using nb) q) (fun E i v z Q lt pv j k => step E i v z Q lt pv j k)
    (items.size - 0) 0 _ rfl (Nat.zero_le _) ⟨⟨_, Heap.get?_push_size _ rfl, rfl, rfl⟩, lis1.push _⟩ begin_ fun z' mv j => ⟨rfl, mv.gens, mv.drawn, mv.os, j, fun b o q => ?_⟩
  have lb : b < s.heap.objs.size := Heap.lt_size q
  refine mv.heap b o ?_ (laid_old q)
  rw [z1]
  simp only [List.mem_cons, List.mem_singleton, List.not_mem_nil, or_false, not_or]
  exact ⟨Nat.ne_of_lt lb, Nat.ne_of_lt (Nat.lt_succ_of_lt lb)⟩
end
end Q
set_option Elab.async false
set_option linter.all false
set_option maxRecDepth 100000
set_option maxHeartbeats 4000000
namespace Q
open PySem PySem.Spec PyProof.Rows L2 PySem.Froz
section
variable {P : Program} {w : World} {A : Around} {E : Value → Shared → Prop} {s : Shared}

theorem addTx_more {D : SD} {x : Int} {v : Value} (r : Ris D.2.2.place.toList) :
    Ris (addTx x v D).2.2.place.toList ∧ (addTx x v D).2.2.led = D.2.2.led ∧ (addTx x v D).1.toList.Perm ((x, v) :: D.1.toList) := by
  have r1 := layNew_ris D.2.2 D.1 x v r
  have l1 := layNew_led D.2.2 D.1 x v
  have p1 := layNew_perm D.2.2 D.1 x v
  rw [Array.toList_push] at p1
  have p2 := p1.trans (List.perm_append_singleton _ _)
  unfold addTx tailTx
  generalize hT : (if (layNew D.2.2 D.1 x v).2.1.plain = true then { (layNew D.2.2 D.1 x v).2.1 with plain := false } else (layNew D.2.2 D.1 x v).2.1) = T
  have rT : Ris T.place.toList := by rw [← hT]; split <;> exact r1
  have lT : T.led = D.2.2.led := by rw [← hT]; split <;> exact l1
  split
  · exact ⟨relayAll_ris _ _ _, (relayAll_led _ _ _).trans lT, (relayAll_perm _ _ _).trans p2⟩
  · exact ⟨rT, lT, p2⟩

/-- behind i texts -/
def TxtJ (P : Program) (w : World) (S : Addr) (items : List Value) (ys : List Str) (i : Nat) (h : Heap) : Prop :=
  ∃ D : SD, h.get? S = some (sObj "set" D) ∧ TxOk P w D (ys.take i).reverse ∧ Ris D.2.2.place.toList ∧ (w.params.followText "set-order" = true ∨ D.2.2.led = true) ∧
    (D.1.toList.map (·.2)).Perm (items.take i)

theorem strs_get {vs : List Value} {ys : List Str} (r : StrsAre vs ys) : ∀ {i : Nat} {v : Value}, vs[i]? = some v → ∃ y t, ys[i]? = some y ∧ v = .str y t := by
  induction r with
  | nil => intro i v h; simp at h
  | cons y t _ ih =>
    intro i v h
    cases i with
    | zero =>
      simp at h
      exact ⟨y, t, rfl, h.symm⟩
    | succ i =>
      simp only [List.getElem?_cons_succ] at h ⊢
      exact ih h
theorem not_taken {ys : List Str} (nd : ys.Nodup) {i : Nat} {y : Str} (h : ys[i]? = some y) : y ∉ (ys.take i).reverse := by
  rw [List.mem_reverse]
  intro hm
  obtain ⟨j, hj, e⟩ := List.getElem_of_mem hm
  rw [List.length_take] at hj
  rw [List.getElem_take] at e
  obtain ⟨hi, ei⟩ := List.getElem?_eq_some_iff.mp h
  exact List.pairwise_iff_getElem.mp nd j i (by omega) hi (by omega) (by rw [e, ei])

theorem set_texts {l : Addr} {items : Array Value} {ys : List Str} {Q : Value → Shared → Prop} (hh : A.handled = none) (hl : s.heap.IsList l items) (r : StrsAre items.toList ys) (nd : ys.Nodup) (few : ys.length < 4000)
    (next : ∀ (h' : Heap) (tk : Nat), (∀ b o, s.heap.get? b = some o → h'.get? b = some o) → Members w h' s.heap.objs.size items.toList → Q (.ref s.heap.objs.size) { s with heap := h', toks := tk }) :
    wpAny (model P w) A (call (.type "set") [.ref l]) Q E s := by
  have ly : items.size = ys.length := by rw [← StrsAre.len_eq r, Array.length_toList]
  refine set_filled (TxtJ P w s.heap.objs.size items.toList ys) hh hl ?_ (fun i h h' j k => ?_) (fun E i v z Q lt pv j k => ?_) fun h' tk kp j => ?_
  · refine ⟨(#[], 0, .fresh 0 0 (!w.params.followText "set-order")), laid_set _ _, TxOk.nil (by rfl), List.Pairwise.nil, ?_, .nil⟩
    show _ ∨ (!w.params.followText "set-order") = true
    cases w.params.followText "set-order"
    · exact .inr rfl
    · exact .inl rfl
  · obtain ⟨D, e, rest⟩ := j
    refine ⟨D, k _ _ ?_ e, rest⟩
    rw [Heap.size_push]
    exact Nat.ne_of_lt (Nat.lt_succ_self _)
  · obtain ⟨D, e, tx, ri, ld, pm⟩ := j
    obtain ⟨y, t, ey, rfl⟩ := strs_get r (i := i) (v := v) (by rw [Array.getElem?_toList]; exact pv)
    unfold setAdd
    refine wpAny_holding ?_
    refine wpAny_bind ((PySem.strKind P w).pyHash (k := y) (is_str y t) ?_)
    have fresh := not_taken nd ey
    have lt2 : (ys.take i).reverse.length + 1 < scanBound := by
      rw [List.length_reverse, List.length_take]
      show _ < 4096
      omega
    refine add_x (s := { z with toks := z.toks + 1 }) e tx fresh lt2 (k true _ _ (Nat.le_succ _) (Heap.SameBut.update ..) ?_)
    obtain ⟨m1, m2, m3⟩ := addTx_more (x := hashStr w y) (v := .str y t) ri
    refine ⟨addTx (hashStr w y) (.str y t) D, get_upd _ e rfl, ?_, m1, by rw [m2]; exact ld, ?_⟩
    · have q := add_ok t tx (k := y)
      have e2 : (ys.take (i + 1)).reverse = y :: (ys.take i).reverse := by
        rw [List.take_add_one, ey]
        simp
      rw [e2]
      exact q
    · have e3 : items.toList.take (i + 1) = items.toList.take i ++ [.str y t] := by
        rw [List.take_add_one, Array.getElem?_toList, pv]
        rfl
      rw [e3]
      exact ((m3.map (·.2)).trans (List.Perm.cons _ pm)).trans (List.perm_append_singleton _ _).symm
  · obtain ⟨D, e, tx, ri, ld, pm⟩ := j
    have el : items.toList.take items.size = items.toList := List.take_of_length_le (by rw [Array.length_toList]; exact Nat.le_refl _)
    rw [el] at pm
    refine next h' tk kp ⟨D.1, D.2.1, D.2.2, ⟨_, e, rfl, rfl⟩, pm, tx.fit, ?_, ri, ld⟩
    have q := tx.sz
    rw [List.length_reverse, List.length_take] at q
    show _ < 4096
    omega

/-- behind i tuples -/
def TupJ (P : Program) (w : World) (S : Addr) (h0 : Heap) (ks : List (Addr × List Key)) (i : Nat) (h : Heap) : Prop :=
  (∀ b o, h0.get? b = some o → h.get? b = some o) ∧ ∃ es ep t, Bag P w h S es ep t ∧ es.toList.Perm ((ks.take i).map fun p => (tkh P w p.2, Value.ref p.1))

theorem set_tups {l : Addr} {items : Array Value} {ks : List (Addr × List Key)} {Q : Value → Shared → Prop} (hh : A.handled = none) (hu : A.units + 3 < cLine) (hl : s.heap.IsList l items)
    (it : items.toList = ks.map fun p => Value.ref p.1) (tp : ∀ p ∈ ks, TupAt P w s.heap p.2 p.1) (nd : (ks.map (·.2)).Nodup) (few : ks.length < 64)
    (next : ∀ (h' : Heap) (tk : Nat), (∀ b o, s.heap.get? b = some o → h'.get? b = some o) → Members w h' s.heap.objs.size items.toList → Q (.ref s.heap.objs.size) { s with heap := h', toks := tk }) :
    wpAny (model P w) A (call (.type "set") [.ref l]) Q E s := by
  have lk : items.size = ks.length := by rw [← Array.length_toList, it, List.length_map]
  have none_ : ∀ b, s.heap.objs.size ≤ b → ∀ c o, s.heap.get? c = some o → c ≠ b := fun b hb c o q e => by
    have lt := Heap.lt_size q
    rw [e] at lt
    exact absurd (Nat.lt_of_lt_of_le lt hb) (Nat.lt_irrefl _)
  refine set_filled (TupJ P w s.heap.objs.size s.heap ks) hh hl ?_ (fun i h h' j k => ?_) (fun E i v z Q lt pv j k => ?_) fun h' tk kp j => ?_
  · refine ⟨fun b o q => laid_old q, #[], 0, .fresh 0 0 (!w.params.followText "set-order"), ⟨⟨_, laid_set _ _, ⟨rfl, rfl, rfl⟩, rfl⟩, ?_, fun e he => (by cases he), ?_, ?_, ?_⟩, .nil⟩
    · exact ⟨List.Pairwise.nil, rfl, rfl, .inl rfl, fun x hx => (by cases hx), fun i x j hi => (by simp at hi)⟩
    · show _ ∨ (!w.params.followText "set-order") = true
      cases w.params.followText "set-order"
      · exact .inr rfl
      · exact .inl rfl
    · show 0 * 5 < 7 * 3
      decide
    · show 0 < 64
      decide
  · obtain ⟨old, es, ep, t, B, pm⟩ := j
    have kb : ∀ b o, s.heap.get? b = some o → h'.get? b = some o := fun b o q => k b o (none_ _ (by rw [Heap.size_push]; exact Nat.le_succ _) b o q) (old b o q)
    obtain ⟨o, ho, rest⟩ := B.ob
    refine ⟨kb, es, ep, t, ⟨⟨o, k _ _ ?_ ho, rest⟩, B.tab, fun e he => ?_, B.led, B.room, B.few⟩, pm⟩
    · rw [Heap.size_push]
      exact Nat.ne_of_lt (Nat.lt_succ_self _)
    · obtain ⟨p, hp, ep⟩ := List.mem_map.mp (pm.mem_iff.mp he)
      exact ⟨p.1, p.2, ep.symm, (tp p (List.mem_of_mem_take hp)).mono fun o q => kb _ o q⟩
  · obtain ⟨old, es, ep, t, B, pm⟩ := j
    have sz : es.size = i := by
      have q := pm.length_eq
      rw [List.length_map, List.length_take, Array.length_toList] at q
      omega
    have hi : i < ks.length := by omega
    have ev : v = .ref ks[i].1 := by
      have q : items.toList[i]? = some v := by rw [Array.getElem?_toList]; exact pv
      rw [it, List.getElem?_map, List.getElem?_eq_getElem hi] at q
      exact (Option.some.inj q).symm
    have eg : ks[i]? = some ks[i] := List.getElem?_eq_getElem hi
    have hm : ks[i] ∈ ks := List.getElem_mem hi
    generalize ks[i] = p at ev eg hm
    subst ev
    have xp : TupAt P w z.heap p.2 p.1 := (tp p hm).mono fun o q => old _ o q
    unfold setAdd
    refine wpAny_holding ?_
    have hu3 : A.in1.in1.in1.in1.units ≤ A.units + 4 := Nat.le_refl _
    refine wpAny_bind (wpAny_pyHash_tuple (by show A.units + 3 < cLine; exact hu) xp ?_)
    refine add_new (s := { z with toks := z.toks + (p.2.length + 1) }) B xp (by show A.units + 3 < cLine; exact hu) (fun e he b k2 ee xb => ?_) (by omega) fun h' es2 ep2 t2 sb B2 pm2 => ?_
    · obtain ⟨p2, hp2, e2⟩ := List.mem_map.mp (pm.mem_iff.mp he)
      rw [ee] at e2
      injection e2 with _ e3
      injection e3 with e3
      have x2 : TupAt P w z.heap p2.2 p2.1 := (tp p2 (List.mem_of_mem_take hp2)).mono fun o q => old _ o q
      rw [e3] at x2
      have ek : k2 = p2.2 := xb.inj x2
      rw [ek]
      intro same
      obtain ⟨j, hj, ej⟩ := List.getElem_of_mem hp2
      rw [List.length_take] at hj
      rw [List.getElem_take] at ej
      have e4 : ks[i] = p := by
        rw [List.getElem?_eq_getElem hi] at eg
        exact Option.some.inj eg
      exact List.pairwise_iff_getElem.mp nd j i (by rw [List.length_map]; omega) (by rw [List.length_map]; omega) (by omega) (by simp [ej, e4, same])
    · refine k true h' _ (Nat.le_add_right _ _) sb ⟨fun b o q => ?_, es2, ep2, t2, B2, ?_⟩
      · rw [sb.2 b (none_ _ (Nat.le_refl _) b o q)]
        exact old b o q
      · have e3 : ks.take (i + 1) = ks.take i ++ [p] := by
          rw [List.take_add_one, eg]
          rfl
        rw [e3, List.map_append]
        exact (pm2.trans (List.Perm.cons _ pm)).trans (List.perm_append_singleton _ _).symm
  · obtain ⟨old, es, ep, t, B, pm⟩ := j
    have el : ks.take items.size = ks := List.take_of_length_le (by omega)
    rw [el] at pm
    obtain ⟨o, ho, hx, hd⟩ := B.ob
    refine next h' tk kp ⟨es, ep, t, ⟨o, ho, hx.1, hd⟩, ?_, tab_fits B.tab (by have := B.room; omega), ?_, B.tab.ris, B.led⟩
    · have q := pm.map (·.2)
      rw [List.map_map] at q
      rw [it]
      exact q
    · have q := B.few
      show _ < 4096
      omega
end
end Q
set_option Elab.async false
set_option linter.all false
set_option maxRecDepth 100000
set_option maxHeartbeats 4000000
namespace Q
open PySem PySem.Spec PyProof.Rows L2 PySem.W

/-! the order of texts and of tuples of texts and numbers -/
abbrev tLe (x y : Str) : Prop := x.cps.toList ≤ y.cps.toList
abbrev tLt (x y : Str) : Prop := x.cps.toList < y.cps.toList
theorem str_ext {x y : Str} (h : x.cps.toList = y.cps.toList) : x = y := by
  cases x
  cases y
  congr
  exact Array.ext' h
theorem tLe_lt {x y : Str} (h : tLe x y) (ne : x ≠ y) : tLt x y := by
  rcases Classical.em (tLt x y) with q | q
  · exact q
  · exact absurd (str_ext (List.le_antisymm h (List.not_lt.mp q))) ne

def kD : Key → PyData
  | .inl i => .int i
  | .inr x => .str x
def kLt : Key → Key → Bool
  | .inl i, .inl j => decide (i < j)
  | .inr x, .inr y => decide (tLt x y)
  | _, _ => false
def ksLt : List Key → List Key → Bool
  | a :: as, b :: bs => if a = b then ksLt as bs else kLt a b
  | _, _ => false
abbrev shape (ks : List Key) : List Bool := ks.map Sum.isLeft

theorem kD_alike : ∀ {a b : Key}, a.isLeft = b.isLeft → alike (kD a) (kD b) = true
  | .inl _, .inl _, _ => by simp [kD, alike]
  | .inr _, .inr _, _ => by simp [kD, alike]
theorem kD_eqv : ∀ {a b : Key}, a.isLeft = b.isLeft → (PyData.eqv (kD a) (kD b) = true ↔ a = b)
  | .inl i, .inl j, _ => by simp [kD, PyData.eqv]
  | .inr x, .inr y, _ => by simp [kD, PyData.eqv]
theorem kD_lt : ∀ {a b : Key}, a.isLeft = b.isLeft → dataLt (kD a) (kD b) = kLt a b
  | .inl i, .inl j, _ => by simp only [kD, kLt]; exact dataLt_int i j
  | .inr x, .inr y, _ => by simp only [kD, kLt]; exact dataLt_str x y
theorem alikeAll_keys : ∀ {ks ls : List Key}, shape ks = shape ls → alikeAll (ks.map kD) (ls.map kD) = true
  | [], [], _ => by simp [alikeAll]
  | a :: ks, b :: ls, h => by
    simp only [shape, List.map_cons, List.cons.injEq] at h
    simp only [List.map_cons]
    rw [alikeAll, alikeAll_keys h.2, kD_alike h.1]
    rfl
theorem tup_lt : ∀ {ks ls : List Key}, shape ks = shape ls → dataLt (.tuple (ks.map kD)) (.tuple (ls.map kD)) = ksLt ks ls := by
  have main : ∀ {ks ls : List Key}, shape ks = shape ls → lexLt itemOrd (keyToksAll (ks.map kD)) (keyToksAll (ls.map kD)) = ksLt ks ls := by
    intro ks
    induction ks with
    | nil =>
      intro ls h
      cases ls with
      | nil => exact lex_irrefl _
      | cons b ls => cases h
    | cons a ks ih =>
      intro ls h
      cases ls with
      | nil => cases h
      | cons b ls =>
        simp only [shape, List.map_cons, List.cons.injEq] at h
        rw [List.map_cons, List.map_cons, dataLt_cons (kD_alike h.1), ih h.2, kD_lt h.1]
        unfold ksLt
        by_cases e : a = b
        · rw [if_pos ((kD_eqv h.1).2 e), if_pos e]
          cases ks <;> cases ls <;> rfl
        · rw [if_neg (fun q => e ((kD_eqv h.1).1 q)), if_neg e]
  intro ks ls h
  rw [dataLt_tuple]
  exact main h
theorem kLt_total : ∀ {a b : Key}, a.isLeft = b.isLeft → a ≠ b → kLt b a = false → kLt a b = true
  | .inl i, .inl j, _, ne, h => by
    simp only [kLt, decide_eq_false_iff_not, decide_eq_true_eq] at h ⊢
    have : i ≠ j := fun e => ne (by rw [e])
    omega
  | .inr x, .inr y, _, ne, h => by
    simp only [kLt, decide_eq_false_iff_not, decide_eq_true_eq] at h ⊢
    exact tLe_lt (List.not_lt.mp h) fun e => ne (by rw [e])
theorem ksLt_total : ∀ {ks ls : List Key}, shape ks = shape ls → ks ≠ ls → ksLt ls ks = false → ksLt ks ls = true
  | [], [], _, ne, _ => absurd rfl ne
  | a :: ks, b :: ls, h, ne, q => by
    simp only [shape, List.map_cons, List.cons.injEq] at h
    unfold ksLt at q ⊢
    by_cases e : a = b
    · subst e
      rw [if_pos rfl] at q ⊢
      exact ksLt_total h.2 (fun z => ne (by rw [z])) q
    · rw [if_neg (Ne.symm e)] at q
      rw [if_neg e]
      exact kLt_total h.1 e q
theorem depth_keys : ∀ ks : List Key, PyData.depthAll (ks.map kD) = 0
  | [] => by simp [PyData.depthAll]
  | .inl i :: ks => by
    rw [List.map_cons, PyData.depthAll, depth_keys ks]
    simp [kD, PyData.depth]
  | .inr x :: ks => by
    rw [List.map_cons, PyData.depthAll, depth_keys ks]
    simp [kD, PyData.depth]

/-! as rules -/
def SetM (w : World) (a : Addr) (us : List Value) : HO := .ext fun h => Members w h a us
section
variable {X : Cx} {pins : List (Addr × Obj)} {σ : L2.St} {H : Hp} {s : Shared}
theorem setM_new {P : Program} {w : World} {H : Hp} {h : Heap} {a : Addr} {us : List Value} (m : Members w h a us) : ObjOk P w H h a (SetM w a us) := ⟨m, m.ob, fun _ _ p k => Members.at p k⟩

/-- set(xs), xs a list of unlike texts -/
def rSetTx (K : PySem.W.Frag) (w : World) : List V → Hp → VK → Prop := fun xs H Q => ∃ (l : Addr) (ys : List Str), xs = [V.ref l] ∧ SqL K H l (ys.map V.str) ∧ ys.Nodup ∧ ys.length < 4000 ∧
  ∀ a us, Vals (ys.map V.str) us → H a = none → Q (.ref a) (upd H a (SetM w a us))
theorem cr_setTx (hc : X.calm = true) : CallR X (.type "set") (rSetTx X.K X.w) := by
  intro pins s σ H xs us Q I r h
  obtain ⟨l, ys, rfl, hl, nd, few, q⟩ := h
  rw [Vals.ref1 r]
  obtain ⟨its, rv, pl, _⟩ := I.list hl
  refine set_texts (P := X.prog) (w := X.w) (items := its.toArray) (I.ok.hd hc) pl.isList (strsAre_of rv) nd few fun h' tk kp m => ?_
  exact ⟨.ref s.heap.objs.size, _, I.laid (t' := tk) kp (Nat.le_refl _) (setM_new m), rfl, q _ _ rv (I.hok.fresh (Nat.le_refl _))⟩

/-- set(xs), xs a list of unlike tuples of texts and numbers -/
def rSetTu (K : PySem.W.Frag) (w : World) : List V → Hp → VK → Prop := fun xs H Q => ∃ (l : Addr) (ks : List (Addr × List Key)), xs = [V.ref l] ∧ SqL K H l (ks.map fun p => V.ref p.1) ∧
  (∀ p ∈ ks, SqT K H p.1 (p.2.map kV)) ∧ (ks.map (·.2)).Nodup ∧ ks.length < 64 ∧ ∀ a, H a = none → Q (.ref a) (upd H a (SetM w a (ks.map fun p => Value.ref p.1)))
theorem items_keys {P : Program} {w : World} : ∀ {k : List Key} {us : List Value}, Vals (k.map kV) us → ItemsAre (mixKind P w) k us
  | [], _, .nil => .nil
  | .inl i :: k, _, .cons r t => by
    obtain ⟨tk, rfl⟩ := r
    exact .cons (mixKind_int P w i tk) (items_keys t)
  | .inr x :: k, _, .cons r t => by
    obtain ⟨tk, rfl⟩ := r
    exact .cons (mixKind_str P w x tk) (items_keys t)
theorem vals_rows : ∀ {ks : List (Addr × List Key)} {us : List Value}, Vals (ks.map fun p => V.ref p.1) us → us = ks.map fun p => Value.ref p.1
  | [], _, .nil => rfl
  | _ :: ks, _, .cons r t => by
    cases r
    rw [vals_rows t, List.map_cons]
theorem rows_vals : ∀ (ks : List (Addr × List Key)), Vals (ks.map fun p => V.ref p.1) (ks.map fun p => Value.ref p.1)
  | [] => .nil
  | _ :: ks => .cons rfl (rows_vals ks)
theorem tupAt_of (I : Inv X pins σ H s) {b : Addr} {k : List Key} (h : SqT X.K H b (k.map kV)) : TupAt X.prog X.w s.heap k b := by
  obtain ⟨its, r, ⟨o, ho, hc, n, hd⟩, _⟩ := I.tuple h
  exact ⟨o, its.toArray, n, ho, hc, hd, by simpa using items_keys r⟩
theorem cr_setTu (hc : X.calm = true) (hu : X.A.units + 3 < cLine) : CallR X (.type "set") (rSetTu X.K X.w) := by
  intro pins s σ H xs us Q I r h
  obtain ⟨l, ks, rfl, hl, hk, nd, few, q⟩ := h
  rw [Vals.ref1 r]
  obtain ⟨its, rv, pl, _⟩ := I.list hl
  have ei := vals_rows rv
  refine set_tups (P := X.prog) (w := X.w) (items := its.toArray) (ks := ks) (I.ok.hd hc) hu pl.isList (by simpa using ei) (fun p hp => tupAt_of I (hk p hp)) nd few fun h' tk kp m => ?_
  rw [List.toList_toArray, ei] at m
  exact ⟨.ref s.heap.objs.size, _, I.laid (t' := tk) kp (Nat.le_refl _) (setM_new m), rfl, q _ (I.hok.fresh (Nat.le_refl _))⟩

theorem back_same {s z : Shared} (o : z.os = s.os) : z = { s with heap := z.heap, gens := z.gens, drawn := z.drawn, toks := z.toks } := by
  cases z
  cases s
  cases o
  rfl
theorem laid_list (I : Inv X pins σ H s) {z : Shared} {p : Addr} {xs : List V} {out : Array Value} {c : Nat} (kp : ∀ b o, s.heap.get? b = some o → z.heap.get? b = some o) (g : z.gens = s.gens) (o : z.os = s.os) (le : s.heap.objs.size ≤ p)
    (e : z.heap.get? p = some (seqObj "list" out c)) (r : Vals xs out.toList) (few : xs.length ≤ sizeLine) : Inv X pins σ (upd H p (.lst xs)) z := by
  rw [back_same o]
  exact I.call (ch := []) (Un.laid kp le (I.hok.fresh le)) (I.hok.laid kp le ⟨few, out.toList, c, r, e⟩) (by rw [g]; exact I.bare) fun _ q => nomatch q

theorem each_txt {us : List Value} : ∀ {ys : List Str}, Vals (ys.map V.str) us → EachIs (fun v y => (∃ t, v = Value.str y t) ∧ Reads s.heap v (PyData.str y) []) us ys := by
  induction us with
  | nil =>
    intro ys r
    cases ys with
    | nil => exact .nil
    | cons _ _ => cases r
  | cons u us ih =>
    intro ys r
    cases ys with
    | nil => cases r
    | cons y ys =>
      cases r with
      | cons r1 r2 =>
        obtain ⟨t, rfl⟩ := r1
        exact .cons ⟨⟨t, rfl⟩, .str y t⟩ (ih r2)
theorem txt_each {us : List Value} {ys : List Str} (e : EachIs (fun v y => ∃ t, v = Value.str y t) us ys) : Vals (ys.map V.str) us := by
  induction e with
  | nil => exact .nil
  | cons h _ ih =>
    obtain ⟨t, rfl⟩ := h
    exact .cons ⟨t, rfl⟩ ih

/-- sorted(a set of texts) -/
def rSortTx (w : World) : List V → Hp → VK → Prop := fun xs H Q => ∃ (a : Addr) (us : List Value) (ys : List Str), xs = [V.ref a] ∧ H a = some (SetM w a us) ∧ Vals (ys.map V.str) us ∧ ys.Nodup ∧ ys.length < 4000 ∧
  ∀ (p : Addr) (zs : List Str), zs.Perm ys → zs.Pairwise tLt → H p = none → Q (.ref p) (upd H p (.lst (zs.map V.str)))
theorem cr_sortTx (hc : X.calm = true) (hu : X.A.units + 2 < cLine) : CallR X (.builtin "sorted") (rSortTx X.w) := by
  intro pins s σ H xs us0 Q I r h
  obtain ⟨a, us, ys, rfl, ha, rv, nd, few, q⟩ := h
  rw [Vals.ref1 r]
  have m : Members X.w s.heap a us := (I.hok a _ ha).1
  refine sorted_members (P := X.prog) (enc := PyData.str) m (I.ok.hd hc) (each_txt rv) (fun cs _ => AllAlike.of fun _ _ => by simp [alike]) (fun cs _ => Sortable.others fun _ => ⟨by simp, by simp⟩) (fun b _ => by simpa [PyData.depth] using hu)
    fun z p out c cs kp g o le e pc eo => ?_
  have pz : (cs.mergeSort (dataLe false PyData.str)).Perm ys := (List.mergeSort_perm cs _).trans pc
  have pw : (cs.mergeSort (dataLe false PyData.str)).Pairwise tLt := by
    have w1 := sort_pairwise (sortLe_total (listOrd itemOrd) false fun b : Str => keyToks (PyData.str b)) cs
    have nd2 := pz.nodup_iff.mpr nd
    refine (List.Pairwise.and w1 nd2).imp fun {x y} h => ?_
    have e1 : dataLe false (fun b : Str => PyData.str b) x y = true := h.1
    rw [dataLe_str] at e1
    exact tLe_lt (of_decide_eq_true e1) h.2
  have few2 : ((cs.mergeSort (dataLe false PyData.str)).map V.str).length ≤ sizeLine := by
    rw [List.length_map, pz.length_eq, sizeLine_eq]
    omega
  exact ⟨.ref p, _, laid_list I kp g o le e (txt_each eo) few2, rfl, q p _ pz pw (I.hok.fresh le)⟩

theorem reads_keys {h : Heap} {P : Program} {w : World} {k : List Key} {us : List Value} (r : ItemsAre (mixKind P w) k us) : ReadsAll h us (k.map kD) [] := by
  induction r with
  | nil => exact .nil
  | @cons k0 v ks vs h1 _ ih =>
    rcases keyIs_shape h1 with ⟨i, t, rfl, rfl⟩ | ⟨x, t, rfl, rfl⟩
    · exact .cons (as := []) (.int i t) ih
    · exact .cons (as := []) (.str x t) ih
theorem TupAt.reads {P : Program} {w : World} {h : Heap} {k : List Key} {b : Addr} (x : TupAt P w h k b) : Reads h (.ref b) (.tuple (k.map kD)) [] := by
  obtain ⟨o, its, n, q, c, d, r⟩ := x
  exact .tuple q c d (reads_keys r)
theorem each_rows {P : Program} {w : World} {h : Heap} : ∀ {ks : List (Addr × List Key)}, (∀ p ∈ ks, TupAt P w h p.2 p.1) →
    EachIs (fun v p => v = Value.ref p.1 ∧ Reads h v (.tuple (p.2.map kD)) []) (ks.map fun p => Value.ref p.1) ks
  | [], _ => .nil
  | p :: ks, x => .cons ⟨rfl, (x p List.mem_cons_self).reads⟩ (each_rows fun q hq => x q (List.mem_cons_of_mem _ hq))
theorem rows_each {us : List Value} {ks : List (Addr × List Key)} (e : EachIs (fun v p => v = Value.ref p.1) us ks) : us = ks.map fun p => Value.ref p.1 := by
  induction e with
  | nil => rfl
  | cons h _ ih => rw [h, ih, List.map_cons]

/-- sorted(a set of tuples of texts and numbers, all of one shape) -/
def rSortTu (K : PySem.W.Frag) (w : World) : List V → Hp → VK → Prop := fun xs H Q => ∃ (a : Addr) (ks : List (Addr × List Key)) (sh : List Bool), xs = [V.ref a] ∧ H a = some (SetM w a (ks.map fun p => Value.ref p.1)) ∧
  (∀ p ∈ ks, SqT K H p.1 (p.2.map kV)) ∧ (∀ p ∈ ks, shape p.2 = sh) ∧ sh ≠ [] ∧ (ks.map (·.2)).Nodup ∧ ks.length < 4000 ∧
  ∀ (p : Addr) (zs : List (Addr × List Key)), zs.Perm ks → zs.Pairwise (fun x y => ksLt x.2 y.2 = true) → H p = none → Q (.ref p) (upd H p (.lst (zs.map fun q => V.ref q.1)))
theorem cr_sortTu (hc : X.calm = true) (hu : X.A.units + 3 < cLine) : CallR X (.builtin "sorted") (rSortTu X.K X.w) := by
  intro pins s σ H xs us0 Q I r h
  obtain ⟨a, ks, sh, rfl, ha, hk, hs, ne, nd, few, q⟩ := h
  rw [Vals.ref1 r]
  have m : Members X.w s.heap a (ks.map fun p => Value.ref p.1) := (I.hok a _ ha).1
  refine sorted_members (P := X.prog) (R := fun v p => v = Value.ref p.1) (enc := fun p : Addr × List Key => PyData.tuple (p.2.map kD)) m (I.ok.hd hc) (each_rows fun p hp => tupAt_of I (hk p hp)) (fun cs pc => ?_) (fun cs pc => ?_) (fun b _ => ?_)
    fun z p out c cs kp g o le e pc eo => ?_
  · intro d hd d' hd'
    obtain ⟨p, hp, rfl⟩ := List.mem_map.mp hd
    obtain ⟨p', hp', rfl⟩ := List.mem_map.mp hd'
    have e : shape p.2 = shape p'.2 := (hs p (pc.mem_iff.mp hp)).trans (hs p' (pc.mem_iff.mp hp')).symm
    simpa [alike] using alikeAll_keys e
  · refine .inl fun d hd => ?_
    obtain ⟨p, hp, rfl⟩ := List.mem_map.mp hd
    have e := hs p (pc.mem_iff.mp hp)
    cases hq : p.2 with
    | nil =>
      rw [hq] at e
      exact absurd e.symm ne
    | cons k0 r0 => exact ⟨_, _, by rw [List.map_cons]⟩
  · have e : (PyData.tuple (b.2.map kD)).depth ≤ 1 := by
      simp [PyData.depth, depth_keys]
    show X.A.units + 2 + (PyData.tuple (b.2.map kD)).depth < cLine
    omega
  · have pz : (cs.mergeSort (dataLe false fun p : Addr × List Key => PyData.tuple (p.2.map kD))).Perm ks := (List.mergeSort_perm cs _).trans pc
    have pw : (cs.mergeSort (dataLe false fun p : Addr × List Key => PyData.tuple (p.2.map kD))).Pairwise fun x y => ksLt x.2 y.2 = true := by
      have w1 := sort_pairwise (sortLe_total (listOrd itemOrd) false fun p : Addr × List Key => keyToks (PyData.tuple (p.2.map kD))) cs
      have nd2 : ((cs.mergeSort (dataLe false fun p : Addr × List Key => PyData.tuple (p.2.map kD))).map (·.2)).Nodup := (pz.map (·.2)).nodup_iff.mpr nd
      have nd3 := List.pairwise_map.mp nd2
      refine List.Pairwise.imp_of_mem (fun {x y} hx hy h => ?_) (List.Pairwise.and w1 nd3)
      have se : shape x.2 = shape y.2 := (hs x (pz.mem_iff.mp hx)).trans (hs y (pz.mem_iff.mp hy)).symm
      have e1 : (!dataLt (.tuple (y.2.map kD)) (.tuple (x.2.map kD))) = true := h.1
      rw [tup_lt se.symm, Bool.not_eq_true'] at e1
      exact ksLt_total se h.2 e1
    generalize cs.mergeSort (dataLe false fun p : Addr × List Key => PyData.tuple (p.2.map kD)) = zs at pz pw eo
    have few2 : (zs.map fun q => V.ref q.1).length ≤ sizeLine := by
      rw [List.length_map, pz.length_eq, sizeLine_eq]
      omega
    have rv : Vals (zs.map fun q => V.ref q.1) out.toList := by
      rw [rows_each eo]
      exact rows_vals zs
    exact ⟨.ref p, _, laid_list I kp g o le e rv few2, rfl, q p zs pz pw (I.hok.fresh le)⟩
end
end Q
set_option Elab.async false
set_option linter.all false
set_option maxRecDepth 100000
set_option maxHeartbeats 4000000
namespace Q
open PySem PySem.Spec PyProof.Rows L2 PySem.W

/-! enumerate over a tuple -/
theorem enum_meets {l : Addr} {items : Array Value} :
    Meets (Builtin.«enumerate.__new__» ⟨[.type "enumerate", .ref l], []⟩) (fun _ R z => z.heap.IsTuple l items ∧
      R (.ok (.ret (.ref (z.heap.push { cls := .type "tuple_iterator", data := .fields #[.ref l, .int 0 0] }).objs.size)))
        { z with heap := (z.heap.push { cls := .type "tuple_iterator", data := .fields #[.ref l, .int 0 0] }).push { cls := .type "enumerate", data := .fields #[.none, .bool false, .ref z.heap.objs.size, rawInt 0, .none, .none] } }) :=
  .of_wp fun prog w A R z h => by
    obtain ⟨zh, zg, zd, zt, zo⟩ := z
    obtain ⟨isT, h⟩ := h
    have sub := sub_enumerate
    have begins : ∀ {A' : Around} {E : Value → Shared → Prop} {Q : Value → Shared → Prop}, Q (.ref zh.objs.size) ⟨zh.push { cls := .type "tuple_iterator", data := .fields #[.ref l, .int 0 0] }, zg, zd, zt, zo⟩ →
        wpAny (model prog w) A' (pyIter (.ref l)) Q E ⟨zh, zg, zd, zt, zo⟩ := fun q => (begins_tuple l items).iter prog w _ _ ⟨zh, zg, zd, zt, zo⟩ _ isT q
    wp_walk using begins
    refine wpAny_stack_any fun st => wpAny_pure ?_
    split
    · rename_i c _ _ _ _ _
      cases (c == Value.type "enumerate") <;> (wp_walk using begins; exact ⟨_, rfl, h⟩)
    · wp_walk using begins
      exact ⟨_, rfl, h⟩
section
variable {prog : Program} {w : World} {A : Around} {E : Value → Shared → Prop} {s : Shared}
theorem enum_made {l : Addr} {items : Array Value} {Q : Value → Shared → Prop} (isT : s.heap.IsTuple l items)
    (next : ∀ h', IsEnum h' (s.heap.objs.size + 1) s.heap.objs.size 0 .none → h'.IsTupleIter s.heap.objs.size l 0 → (∀ b o, s.heap.get? b = some o → h'.get? b = some o) →
      Q (.ref (s.heap.objs.size + 1)) { s with heap := h' }) : wpAny (model prog w) A (call (.type "enumerate") [.ref l]) Q E s := by
  refine callType_new F.called_enumerate (by decide) (F.typeCall_enumerate_1 _) (F.newCall_enumerate_1 _) (fun o => F.args_object_init_2 o _) F.entry_enumerate_new enum_meets ⟨isT, ?_⟩
  have z1 : (s.heap.push { cls := .type "tuple_iterator", data := .fields #[.ref l, .int 0 0] }).objs.size = s.heap.objs.size + 1 := Heap.size_push ..
  show _ ∧ _
  rw [z1]
  have ie : IsEnum ((s.heap.push { cls := .type "tuple_iterator", data := .fields #[.ref l, .int 0 0] }).push { cls := .type "enumerate", data := .fields #[.none, .bool false, .ref s.heap.objs.size, rawInt 0, .none, .none] }) (s.heap.objs.size + 1) s.heap.objs.size 0 .none := by
    have q := Heap.get?_push_size (s.heap.push { cls := .type "tuple_iterator", data := .fields #[.ref l, .int 0 0] }) (o := { cls := .type "enumerate", data := .fields #[.none, .bool false, .ref s.heap.objs.size, rawInt 0, .none, .none] }) rfl
    rw [z1] at q
    exact q
  exact ⟨⟨_, ie, rfl⟩, next _ ie ⟨{ cls := .type "tuple_iterator", data := .fields #[.ref l, .int 0 0] }, Heap.get?_push_of_some _ (Heap.get?_push_size _ rfl), rfl, rfl⟩ fun b o q => Heap.get?_push_of_some _ (Heap.get?_push_of_some _ q)⟩
end

/-- the tuple's items, each in a new pair with its place -/
def ItT (K : PySem.W.Frag) (a : Addr) (xs : List V) : It where
  go := fun i H => SqT K H a xs ∧ i < xs.length
  yld := fun i H v H' => ∃ T x, v = .ref T ∧ H T = none ∧ H' = upd H T (.tup [.int (i : Nat), x]) ∧ xs[i]? = some x
  stop := fun i H => SqT K H a xs ∧ i = xs.length
theorem turn_enumT {P : Program} {w : World} {K : PySem.W.Frag} {elts : List Expr} {kk : Nat} {tpos : Pos} (a e it : Addr) (xs : List V) :
    Turn P w K (.Tuple elts kk tpos) (ItT K a xs) [e, it] e (fun i h => (∃ old, IsEnum h e it ((i : Nat) : Int) old) ∧ h.IsTupleIter it a i ∧ e ≠ it ∧ a ≠ it ∧ a ≠ e) where
  mem := List.mem_cons_self
  obj := fun i h st b hb => by
    obtain ⟨⟨old, ie⟩, ⟨o, q, _, d⟩, _⟩ := st
    rcases List.mem_cons.mp hb with z | z
    · rw [z]
      exact ⟨_, ie, fun v y => nomatch y⟩
    · rw [List.mem_singleton.mp z]
      exact ⟨o, q, fun v y => by rw [d] at y; cases y⟩
  keep := fun i h h' st k => by
    obtain ⟨⟨old, ie⟩, ⟨o, q, r⟩, ne⟩ := st
    exact ⟨⟨old, k e (by simp) _ ie⟩, ⟨o, k it (by simp) o q, r⟩, ne⟩
  item := by
    intro X e1 e2 e3 hc i pins s σ H E I hf st hg
    subst e1 e2 e3
    obtain ⟨⟨old, ie⟩, ti, ne, ne2, ne3⟩ := st
    obtain ⟨hx, lt⟩ := hg
    obtain ⟨its, rv, isT, _⟩ := I.tuple hx
    have le : e < s.heap.objs.size := Heap.lt_size ie
    have lit : it < s.heap.objs.size := by
      obtain ⟨_, q, _⟩ := ti
      exact Heap.lt_size q
    have lz : its.toArray.size = xs.length := by
      rw [List.size_toArray]
      exact rv.length.symm
    have hh : X.A.in1.handled = none := I.ok.hd hc
    refine wpAny_pyNext_enum_itemD (Draws.tuple hh it a ne2 its.toArray) ie ⟨ti, isT⟩ (by rw [lz]; exact lt) ne (by
      simp only [List.mem_cons, List.not_mem_nil, or_false, not_or]
      exact ⟨ne, fun z => ne3 z.symm⟩) fun u h' tk pu io st2 hT hsz hk => ?_
    obtain ⟨ti2, isT2⟩ := st2
    obtain ⟨x, hx2, ru⟩ : ∃ x, xs[i]? = some x ∧ RelV x u := by
      have hxi : xs[i]? = some xs[i] := List.getElem?_eq_getElem lt
      obtain ⟨u2, hu2, ru2⟩ := rv.get hxi
      have e4 : u2 = u := by
        have q : its[i]? = some u := by simpa using pu
        rw [hu2] at q
        exact Option.some.inj q
      rw [e4] at ru2
      exact ⟨_, hxi, ru2⟩
    refine ⟨_, rfl, wpAny_letOwnedTupleGo_enum (s := { s with heap := h', toks := tk + 1 }) io fun h'' ie2 sb => ?_⟩
    have hT2 : h''.get? s.heap.objs.size = some { cls := .type "tuple", data := .seq #[.int i tk, u] } := (sb.2 _ (Nat.ne_of_gt le)).trans hT
    have new : ObjOk X.prog X.w (upd H s.heap.objs.size (.tup [.int (i : Nat), x])) h'' s.heap.objs.size (.tup [.int (i : Nat), x]) :=
      ⟨by show 2 ≤ sizeLine; decide, [.int i tk, u], .cons ⟨_, rfl⟩ (.cons ru .nil), ⟨_, hT2, rfl, _, rfl⟩⟩
    have I1 : Inv X pins σ (upd H s.heap.objs.size (.tup [.int (i : Nat), x])) { s with heap := h'', toks := tk + 1 } :=
      I.turnedNew (ch := [e, it]) (fun b o nb q => (sb.2 b fun z => nb (by simp [z])).trans (hk b o (fun z => nb (by simp [z])) (fun z => nb (by simp [z])) q)) hf (Nat.le_refl _) new
    refine ⟨.ref s.heap.objs.size, _, I1, rfl, ⟨_, x, rfl, I.hok.fresh (Nat.le_refl _), rfl, hx2⟩, ⟨⟨u, ?_⟩, ?_, ne, ne2, ne3⟩, fun b hb => ?_⟩
    · have e1 : ((i + 1 : Nat) : Int) = (i : Int) + 1 := by omega
      rw [e1]
      exact ie2
    · obtain ⟨o, q, r⟩ := ti2
      exact ⟨o, (sb.2 it (Ne.symm ne)).trans q, r⟩
    · have lb : b < s.heap.objs.size := by
        rcases List.mem_cons.mp hb with z | z
        · rw [z]; exact le
        · rw [List.mem_singleton.mp z]; exact lit
      rw [upd_ne (Nat.ne_of_lt lb)]
      exact (hf b hb).1
  done := by
    intro X e1 e2 e3 hc i pins s σ H E I hf st hg
    subst e1 e2 e3
    obtain ⟨⟨old, ie⟩, ti, ne, ne2, ne3⟩ := st
    obtain ⟨hx, rfl⟩ := hg
    obtain ⟨its, rv, isT, _⟩ := I.tuple hx
    have hh : X.A.in1.handled = none := I.ok.hd hc
    have lz : its.toArray.size = xs.length := by
      rw [List.size_toArray]
      exact rv.length.symm
    obtain ⟨f0, f1, f2, f3, f4, f5⟩ := hf it (by simp)
    rw [← lz] at ti
    exact wpAny_pyNext_enum_endD (Draws.tuple hh it a ne2 its.toArray) ie ⟨ti, isT⟩ fun h' eb => ⟨rfl, I.turned (t' := s.toks) (fun b o hb q => eb b o hb q) f0 f1 f3 f4 f5⟩
  self := fun A i s Q E st h => by
    obtain ⟨⟨_, ie⟩, _⟩ := st
    exact wpAny_pyIter_enum ie h
def iEnumT (K : PySem.W.Frag) (ta : TA) : TI := fun σ H R => ta σ H fun vs H1 => ∃ a xs, vs = [.ref a] ∧ SqT K H1 a xs ∧ R (ItT K a xs) H1
theorem pi_enumT {X : Cx} {e : Expr} {ta : TA} {p pos tpos : Pos} {elts : List Expr} {kk : Nat} (hg : Gl X "enumerate") (hm : X.mg "enumerate" = none) (ha : PA X [e] ta) (hs : starEach [e] X.env = [(false, eval e X.env)] := by rfl) :
    PI X (.Tuple elts kk tpos) (.Call (.Name "enumerate" p) [e] [] pos) (iEnumT X.K ta) := by
  refine ⟨fun pins s σ H R I h => ?_⟩
  refine Call_ (ld_blt I hg hm boot_enumerate (PyProof.Rows.callWith_type1 (thn (ha.run pos pins s σ H _ I h) fun us s1 ⟨vs, H1, I1, r1, q1⟩ => ?_) hs rfl))
  obtain ⟨a, xs, rfl, hx, q⟩ := q1
  rw [Vals.ref1 r1]
  obtain ⟨its, rv, isT, _⟩ := I1.tuple hx
  have la : a < s1.heap.objs.size := by
    obtain ⟨o, ho, _⟩ := isT
    exact Heap.lt_size ho
  refine enum_made isT fun h' ie ti k => wpAny_pyIter_enum ie ?_
  have I2 : Inv X pins σ H1 { s1 with heap := h' } := I1.kept (t' := s1.toks) k
  refine ⟨s1.heap.objs.size + 1, [s1.heap.objs.size + 1, s1.heap.objs.size], _, _, H1, rfl, I2, turn_enumT a (s1.heap.objs.size + 1) s1.heap.objs.size xs,
    ⟨⟨.none, ie⟩, ti, Nat.succ_ne_self _, Nat.ne_of_lt la, Nat.ne_of_lt (Nat.lt_succ_of_lt la)⟩, fun b hb => ?_, q⟩
  have le : s1.heap.objs.size ≤ b := by
    rcases List.mem_cons.mp hb with z | z
    · rw [z]; exact Nat.le_succ _
    · rw [List.mem_singleton.mp z]; exact Nat.le_refl _
  exact I1.fpOk le (I1.hok.fresh le)
end Q
set_option Elab.async false
set_option linter.all false
set_option maxRecDepth 100000
set_option maxHeartbeats 4000000
namespace Q
open PySem PySem.Spec PyProof.Rows L2 PySem.W
section
variable {X : Cx}
/-- x < y of two tuples of texts and whole numbers, of one shape -/
def rLtK (K : PySem.W.Frag) : R2 := fun x y H Q => ∃ (a b : Addr) (ks ls : List Key), x = V.ref a ∧ y = V.ref b ∧ SqT K H a (ks.map kV) ∧ SqT K H b (ls.map kV) ∧ shape ks = shape ls ∧ Q (.bl (ksLt ks ls)) H
theorem op_ltK (hu : X.A.units + 1 < cLine) : OpR X (compareOp .Lt) (rLtK X.K) := by
  intro pins s σ H x y v u Q I rx ry h
  obtain ⟨a, b, ks, ls, rfl, rfl, ha, hb, sh, q⟩ := h
  cases rx
  cases ry
  have ra := (tupAt_of I ha).reads
  have rb := (tupAt_of I hb).reads
  have da : (PyData.tuple (ks.map kD)).depth = 1 := by rw [PyData.depth, depth_keys]
  refine lt_data ra rb (by simpa [alike] using alikeAll_keys sh) (by simp) (by
    have m := Nat.min_le_left (PyData.tuple (ks.map kD)).depth (PyData.tuple (ls.map kD)).depth
    omega) ?_
  rw [tup_lt sh]
  exact ⟨.bl (ksLt ks ls), H, I, rfl, q⟩
end
end Q
set_option Elab.async false
set_option linter.all false
set_option maxRecDepth 100000
set_option maxHeartbeats 4000000
namespace Q
open PySem PySem.Spec PyProof.Rows L2 PySem.W
section
variable {X : Cx}
/-- raise C(), a class of the program without its own __init__ -/
theorem pmk_own0 {C : Addr} {bmB : List Value} {B newId initId : String} {x : Str} {p pos : Pos} (F : ExcBaseFacts B newId initId bmB) (q : excIn X.K C bmB newId = true)
    (gC : X.mg x = some (.ref C)) (kC : keepIn X.K (.ref C) = true) (r : Raises X (.ref C)) (hg : Gl X x) (hdb : (x == ("__debug__" : Str)) = false := by decide) :
    PMk X (.Call (.Name x p) [] [] pos) (fun _ H Q => Q (.ref C) none H) := by
  intro pins s σ H Q I h
  refine wpAny_Call_Name_kw (ld_glob I hg gC ?_ hdb)
  refine PySem.W.callWith_K0 I.kIn kC ?_
  show wpAny _ _ (call (.ref C) []) _ _ _
  obtain ⟨bm, N, nm, qn, bs, hdct, sn, sub, ab, col, dd, k0, k1, k2, k3, k5, mN, hC, hN, hni, T⟩ := exc_obj I.kIn q
  refine wpAny_call_exc_subT F T hC hN hni (fun h' e hm => ?_) (Nat.zero_le _)
  exact mk_of I hm r h (I.hok.gone hm.new)
/-- sorted(xs), xs a list of unlike tuples of texts and whole numbers, of one shape -/
def rSortTuL (K : PySem.W.Frag) : List V → Hp → VK → Prop := fun xs H Q => ∃ (a : Addr) (ks : List (Addr × List Key)) (sh : List Bool), xs = [V.ref a] ∧ SqL K H a (ks.map fun p => V.ref p.1) ∧
  (∀ p ∈ ks, SqT K H p.1 (p.2.map kV)) ∧ (∀ p ∈ ks, shape p.2 = sh) ∧ sh ≠ [] ∧ (ks.map (·.2)).Nodup ∧ ks.length < 4000 ∧
  ∀ (p : Addr) (zs : List (Addr × List Key)), zs.Perm ks → zs.Pairwise (fun x y => ksLt x.2 y.2 = true) → H p = none → Q (.ref p) (upd H p (.lst (zs.map fun q => V.ref q.1)))
theorem cr_sortTuL (hu : X.A.units + 3 < cLine) : CallR X (.builtin "sorted") (rSortTuL X.K) := by
  intro pins s σ H xs us0 Q I r h
  obtain ⟨a, ks, sh, rfl, ha, hk, hs, ne, nd, few, q⟩ := h
  rw [Vals.ref1 r]
  obtain ⟨its, rv, pl, _⟩ := I.list ha
  have ei := vals_rows rv
  have er := each_rows (P := X.prog) (w := X.w) (h := s.heap) fun p hp => tupAt_of I (hk p hp)
  refine sorted_data (vs := its) (R := fun v p => v = Value.ref p.1) (bs := ks) (enc := fun p : Addr × List Key => PyData.tuple (p.2.map kD)) pl.isList (by rw [ei]; exact er.mono fun _ _ z => z.1) (by rw [ei]; exact er.mono fun _ _ z => ⟨_, z.2⟩) ?_ ?_ ?_ ?_ ?_
  · intro d hd d' hd'
    obtain ⟨p, hp, rfl⟩ := List.mem_map.mp hd
    obtain ⟨p', hp', rfl⟩ := List.mem_map.mp hd'
    have e : shape p.2 = shape p'.2 := (hs p hp).trans (hs p' hp').symm
    simpa [alike] using alikeAll_keys e
  · refine .inl fun d hd => ?_
    obtain ⟨p, hp, rfl⟩ := List.mem_map.mp hd
    have e := hs p hp
    cases hq : p.2 with
    | nil =>
      rw [hq] at e
      exact absurd e.symm ne
    | cons k0 r0 => exact ⟨_, _, by rw [List.map_cons]⟩
  · rw [sizeLine_eq]
    omega
  · intro b hb
    have e : (PyData.tuple (b.2.map kD)).depth ≤ 1 := by
      simp [PyData.depth, depth_keys]
    show X.A.units + 2 + (PyData.tuple (b.2.map kD)).depth < cLine
    omega
  · intro out lo eo
    have pz : (ks.mergeSort (dataLe false fun p : Addr × List Key => PyData.tuple (p.2.map kD))).Perm ks := List.mergeSort_perm ks _
    have pw : (ks.mergeSort (dataLe false fun p : Addr × List Key => PyData.tuple (p.2.map kD))).Pairwise fun x y => ksLt x.2 y.2 = true := by
      have w1 := sort_pairwise (sortLe_total (listOrd itemOrd) false fun p : Addr × List Key => keyToks (PyData.tuple (p.2.map kD))) ks
      have nd2 : ((ks.mergeSort (dataLe false fun p : Addr × List Key => PyData.tuple (p.2.map kD))).map (·.2)).Nodup := (pz.map (·.2)).nodup_iff.mpr nd
      have nd3 := List.pairwise_map.mp nd2
      refine List.Pairwise.imp_of_mem (fun {x y} hx hy h => ?_) (List.Pairwise.and w1 nd3)
      have se : shape x.2 = shape y.2 := (hs x (pz.mem_iff.mp hx)).trans (hs y (pz.mem_iff.mp hy)).symm
      have e1 : (!dataLt (.tuple (y.2.map kD)) (.tuple (x.2.map kD))) = true := h.1
      rw [tup_lt se.symm, Bool.not_eq_true'] at e1
      exact ksLt_total se h.2 e1
    generalize ks.mergeSort (dataLe false fun p : Addr × List Key => PyData.tuple (p.2.map kD)) = zs at pz pw eo
    have few2 : (zs.map fun q => V.ref q.1).length ≤ sizeLine := by
      rw [List.length_map, pz.length_eq, sizeLine_eq]
      omega
    obtain ⟨c, hc⟩ := sortedAll_at s.heap its (List.toArray out)
    have rv2 : Vals (zs.map fun q => V.ref q.1) (List.toArray out).toList := by
      rw [List.toList_toArray, rows_each eo]
      exact rows_vals zs
    have le : s.heap.objs.size ≤ s.heap.objs.size + 1 := Nat.le_succ _
    exact ⟨.ref (s.heap.objs.size + 1), _, laid_list I (c := c) (fun _ _ => sortedAll_old) rfl rfl le hc rv2 few2, rfl, q _ zs pz pw (I.hok.fresh le)⟩
end
end Q
set_option Elab.async false
set_option linter.all false
set_option maxRecDepth 100000
set_option maxHeartbeats 4000000
/-! The end of a law whose defs make lambdas, over FnG. -/
namespace Q
open PySem PySem.Spec PyProof.Rows L2 LamX

/-- an empty table of code objects -/
abbrev emptyTab : Obj := { cls := .none, data := .fields #[] }
section
variable {P : Program} {w : World} {K : PySem.W.Frag} {mg mb : Str → Option Value} {k : Nat}
  {fa a : Addr} {fd : FuncData} {x : Str} {sp : Sp} {s₁ : Shared} {vs : List Value} {ns : List Int} {c1 P1 c2 P2 : Addr}
/-- what may be tracked at the start: the script as it stands, the two tables -/
def OnlyT (P1 P2 : Addr) (H : Hp) : Prop := ∀ b, H b = none ∨ (b = P1 ∨ b = P2) ∨ ∃ o xs, H b = some (.frz o (.lst xs))
structure Two (s₁ : Shared) (K : PySem.W.Frag) (c1 P1 c2 P2 : Addr) : Prop where
  e1 : s₁.heap.get? P1 = some emptyTab
  e2 : s₁.heap.get? P2 = some emptyTab
  n1 : K.lookup P1 = none
  n2 : K.lookup P2 = none
  h1 : PySem.W.CodeHd s₁.heap c1 P1
  h2 : PySem.W.CodeHd s₁.heap c2 P2
theorem law_coreT (KX : K.In s₁.heap) (hns : s₁.heap.Ns mainGlobals mg) (hb : s₁.heap.Ns builtinsNs mb)
    (hbb : ∀ x : Str, x ≠ "__name__" → mb x = bootBuiltins x) (hlim : s₁.heap.NoLimit) (hg : s₁.gens = #[])
    (tw : Two s₁ K c1 P1 c2 P2)
    (hbm : ∃ (bm : Addr) (ob : Obj), mg "__builtins__" = some (.ref bm) ∧ bm ≠ builtinsNs ∧ s₁.heap.get? bm = some ob ∧
      ob.cls = .type "module" ∧ ob.dict = some builtinsNs ∧ ob.data = .plain)
    (ha : s₁.heap.get? a = some { cls := .type "list", data := .seq vs.toArray }) (hr : Room k callerA)
    (F : ∀ base : Heap, K.In base → base.Ns mainGlobals mg → TabB base mg c1 P1 → TabB base mg c2 P2 → FnG P w K mg base CX0 k fa fd [x] sp)
    (hbind : ∀ (s : Shared) (u : Value), BindsTo s fd ⟨[u], []⟩ [(x, u)])
    (H : Hp) (hO : OnlyT P1 P2 H) (hH1 : H P1 = some (.tbl #[])) (hH2 : H P2 = some (.tbl #[]))
    (hS : sp [.ref a] H (fun v _ => v = .bl true) fun _ _ _ => False)
    (hok : HOk P w H s₁.heap) (hA : ∀ b, H b ≠ none → b = a ∨ b = P1 ∨ b = P2) (hK : H a ≠ none → K.lookup a = none) :
    codeAny (model P w) callerA (.call (.ref fa) ⟨[.ref a], []⟩) (LawEnd s₁) s₁ := by
  -- an object that is neither the script nor a table is not tracked
  have off : ∀ {b : Addr} {o : Obj}, s₁.heap.get? b = some o → (∀ us n, o.data ≠ .seq us n) → o.data ≠ .fields #[] → H b = none := by
    intro b o e d1 d2
    cases q : H b with
    | none => rfl
    | some u =>
      rcases hA b (by rw [q]; exact nofun) with z | z | z
      · rw [z, ha] at e
        cases e
        exact absurd rfl (d1 _ _)
      · rw [z, tw.e1] at e
        cases e
        exact absurd rfl d2
      · rw [z, tw.e2] at e
        cases e
        exact absurd rfl d2
  have ns_free : ∀ {b m}, s₁.heap.Ns b m → (hidT s₁.heap H).Ns b m := by
    rintro b m ⟨o, es, ep, e, d, r⟩
    exact ⟨o, es, ep, hidT_get e (off e (fun us n z => by rw [d] at z; cases z) (fun z => by rw [d] at z; cases z)), d, r⟩
  have kin : K.In (hidT s₁.heap H) := fun b o e => by
    refine hidT_get (KX b o e) ?_
    cases q : H b with
    | none => rfl
    | some u =>
      rcases hA b (by rw [q]; exact nofun) with z | z | z
      · subst z
        rw [hK (by rw [q]; exact nofun)] at e
        cases e
      · rw [z, tw.n1] at e
        cases e
      · rw [z, tw.n2] at e
        cases e
  obtain ⟨mc, l1, l2⟩ := hlim
  have md : Mod K mg (hidT s₁.heap H) :=
    { kin := kin, glob := ns_free hns, blt := ⟨mb, ns_free hb, hbb⟩, nolimit := ⟨mc, ns_free l1, l2⟩ }
  have e0 : Env0 P w K mg (hidT s₁.heap H) callerA [] s₁ H :=
    ⟨rfl, md, fun b o e => of_hidT e, Nat.le_of_eq (hidT_size _ _), trivial,
      fun b z => absurd (show b ∈ ([] : List Addr) from z) List.not_mem_nil, hok, .of_eq hg⟩
  have tabOf : ∀ {c T : Addr}, PySem.W.CodeHd s₁.heap c T → s₁.heap.get? T = some emptyTab → TabB (hidT s₁.heap H) mg c T := by
    intro c T hd eT
    obtain ⟨o, us, fl, tf, fg, tg, iF, tx, tt, q1, q2, q3, q4, q5⟩ := hd
    obtain ⟨bm, ob, y1, y2, y3, y4, y5, y6⟩ := hbm
    refine ⟨⟨o, us, fl, tf, fg, tg, iF, tx, tt, hidT_get q1 (off q1 ?_ ?_), q2, q3, q4, q5⟩, ⟨bm, ob, y1, y2, ?_, ?_, hidT_get y3 (off y3 ?_ ?_), y4, y5, y6⟩, ?_⟩
    · intro us' n z
      rw [q3] at z
      cases z
    · intro z
      rw [q3] at z
      cases z
      cases q4
    · rintro rfl
      obtain ⟨o', es, ep, e, d, _⟩ := hns
      rw [e] at y3
      cases y3
      rw [d] at y6
      cases y6
    · rintro rfl
      rw [eT] at y3
      cases y3
      cases y6
    · intro us' n z
      rw [y6] at z
      cases z
    · intro z
      rw [y6] at z
      cases z
    · rintro rfl
      obtain ⟨o', es, ep, e, d, _⟩ := hns
      rw [eT] at e
      cases e
      cases d
  have run := (F _ kin (ns_free hns) (tabOf tw.h1 tw.e1) (tabOf tw.h2 tw.e2)).go callerA [] s₁ H ⟨[.ref a], []⟩ [.ref a] [.ref a] _ _ rfl hr e0
    (hbind s₁ (.ref a)) (.cons rfl .nil) hS
  refine codeAny_mono run ?_
  intro r s' h
  match r, h with
  | .error e, h => exact False.elim h
  | .ok (.ret u), ⟨v, H', os, bare, un, hok', r', q⟩ =>
    subst q
    obtain rfl : u = Value.bool true := r'
    have grown : ∀ {T : Addr}, H T = some (.tbl #[]) → ∃ more : Array Value, s'.heap.get? T = some { cls := .none, data := .fields more } := by
      intro T hT
      obtain ⟨more, z⟩ := un.tbls T #[] hT
      exact ⟨_, hok' T _ z⟩
    have rest : ∀ b o, b ≠ P1 → b ≠ P2 → s₁.heap.get? b = some o → s'.heap.get? b = some o := by
      intro b o z1 z2 e
      cases q : H b with
      | none => exact un.keep b o e q (fun z => absurd (show b ∈ ([] : List Addr) from z) List.not_mem_nil) List.not_mem_nil
      | some u =>
        rcases hO b with z | (z | z) | ⟨ob, xs, z⟩
        · rw [q] at z; cases z
        · exact absurd z z1
        · exact absurd z z2
        · have y2 := (hok' b _ (un.frzs b ob _ z)).1
          have y1 := (hok b _ z).1
          rw [e] at y1
          cases y1
          exact y2
    refine ⟨rfl, ⟨fun b o e => ?_, fun b o e => ?_⟩, os, bare⟩
    · by_cases z1 : b = P1
      · subst z1
        obtain ⟨more, hm⟩ := grown hH1
        rw [tw.e1] at e
        cases e
        exact .inr (.inl ⟨(tw.h1.tab tw.e1).isCodeTable, rfl, #[], more, rfl, by rw [hm, Array.empty_append]⟩)
      · by_cases z2 : b = P2
        · subst z2
          obtain ⟨more, hm⟩ := grown hH2
          rw [tw.e2] at e
          cases e
          exact .inr (.inl ⟨(tw.h2.tab tw.e2).isCodeTable, rfl, #[], more, rfl, by rw [hm, Array.empty_append]⟩)
        · exact .inl (rest b o z1 z2 e)
    · by_cases z1 : b = P1
      · subst z1
        exact let ⟨_, hm⟩ := grown hH1; ⟨_, hm⟩
      · by_cases z2 : b = P2
        · subst z2
          exact let ⟨_, hm⟩ := grown hH2; ⟨_, hm⟩
        · exact ⟨o, rest b o z1 z2 e⟩
theorem law_callTG (KX : K.In s₁.heap) (hns : s₁.heap.Ns mainGlobals mg) (hb : s₁.heap.Ns builtinsNs mb)
    (hbb : ∀ x : Str, x ≠ "__name__" → mb x = bootBuiltins x) (hlim : s₁.heap.NoLimit) (hg : s₁.gens = #[])
    (tw : Two s₁ K c1 P1 c2 P2)
    (hbm : ∃ (bm : Addr) (ob : Obj), mg "__builtins__" = some (.ref bm) ∧ bm ≠ builtinsNs ∧ s₁.heap.get? bm = some ob ∧
      ob.cls = .type "module" ∧ ob.dict = some builtinsNs ∧ ob.data = .plain)
    (ha : s₁.heap.get? a = some { cls := .type "list", data := .seq vs.toArray }) (hi : IntsAre vs ns)
    (hl : ns.length ≤ sizeLine) (hr : Room k callerA)
    (F : ∀ base : Heap, K.In base → base.Ns mainGlobals mg → TabB base mg c1 P1 → TabB base mg c2 P2 → FnG P w K mg base CX0 k fa fd [x] sp)
    (hbind : ∀ (s : Shared) (u : Value), BindsTo s fd ⟨[u], []⟩ [(x, u)])
    (hsp : ∀ H : Hp, H P1 = some (.tbl #[]) → H P2 = some (.tbl #[]) → SqL K H a (ns.map V.int) →
      sp [.ref a] H (fun v _ => v = .bl true) fun _ _ _ => False) :
    codeAny (model P w) callerA (.call (.ref fa) ⟨[.ref a], []⟩) (LawEnd s₁) s₁ := by
  have rv := vals_ints hi
  have lenV := hi.length
  have aT : ∀ {T : Addr}, s₁.heap.get? T = some emptyTab → T ≠ a := fun {T} e z => by
    rw [z, ha] at e
    cases e
  have tblOk : ∀ {H : Hp} {T : Addr}, s₁.heap.get? T = some emptyTab → ObjOk P w H s₁.heap T (.tbl #[]) := fun {H T} e => e
  cases hk : K.lookup a with
  | some o =>
    have e := KX a o hk
    rw [ha] at e
    cases e
    let H : Hp := fun b => if b = P1 ∨ b = P2 then some (.tbl #[]) else none
    have on : ∀ b, b = P1 ∨ b = P2 → H b = some (.tbl #[]) := fun b z => if_pos z
    have off : ∀ b, ¬ (b = P1 ∨ b = P2) → H b = none := fun b z => if_neg z
    have hS : SqL K H a (ns.map V.int) := by
      refine .inr ⟨_, vs.toArray, _, hk, rfl, rfl, rfl, ?_, by simpa using rv⟩
      rw [List.size_toArray, lenV]
      exact hl
    have nA : ¬ (a = P1 ∨ a = P2) := fun z => z.elim (fun z => aT tw.e1 z.symm) (fun z => aT tw.e2 z.symm)
    refine law_coreT KX hns hb hbb hlim hg tw hbm ha hr F hbind H (fun b => ?_) (on _ (.inl rfl)) (on _ (.inr rfl)) (hsp H (on _ (.inl rfl)) (on _ (.inr rfl)) hS) (fun b u z => ?_) (fun b z => ?_) (fun z => absurd (off a nA) z)
    · by_cases z : b = P1 ∨ b = P2
      · exact .inr (.inl z)
      · exact .inl (off b z)
    · by_cases y : b = P1 ∨ b = P2
      · rw [on b y] at z
        cases z
        rcases y with rfl | rfl
        · exact tblOk tw.e1
        · exact tblOk tw.e2
      · rw [off b y] at z
        cases z
    · by_cases y : b = P1 ∨ b = P2
      · exact .inr y
      · exact absurd (off b y) z
  | none =>
    let ob : Obj := { cls := .type "list", data := .seq vs.toArray }
    let H : Hp := fun b => if b = a then some (.frz ob (.lst (ns.map V.int))) else if b = P1 ∨ b = P2 then some (.tbl #[]) else none
    have at_a : H a = some (.frz ob (.lst (ns.map V.int))) := if_pos rfl
    have on : ∀ b, b ≠ a → b = P1 ∨ b = P2 → H b = some (.tbl #[]) := fun b n z => (if_neg n).trans (if_pos z)
    have off : ∀ b, b ≠ a → ¬ (b = P1 ∨ b = P2) → H b = none := fun b n z => (if_neg n).trans (if_neg z)
    have h1 : H P1 = some (.tbl #[]) := on _ (aT tw.e1) (.inl rfl)
    have h2 : H P2 = some (.tbl #[]) := on _ (aT tw.e2) (.inr rfl)
    refine law_coreT KX hns hb hbb hlim hg tw hbm ha hr F hbind H (fun b => ?_) h1 h2 (hsp H h1 h2 (.inl (.inr ⟨ob, at_a⟩))) (fun b u z => ?_) (fun b z => ?_) (fun _ => hk)
    · by_cases n : b = a
      · subst n
        exact .inr (.inr ⟨_, _, at_a⟩)
      · by_cases z : b = P1 ∨ b = P2
        · exact .inr (.inl z)
        · exact .inl (off b n z)
    · by_cases n : b = a
      · subst n
        rw [at_a] at z
        cases z
        exact ⟨ha, by rw [List.length_map]; exact hl, vs, _, rv, ha⟩
      · by_cases y : b = P1 ∨ b = P2
        · rw [on b n y] at z
          cases z
          rcases y with rfl | rfl
          · exact tblOk tw.e1
          · exact tblOk tw.e2
        · rw [off b n y] at z
          cases z
    · by_cases n : b = a
      · exact .inl n
      · by_cases y : b = P1 ∨ b = P2
        · exact .inr y
        · exact absurd (off b n y) z
end
/-- a def of the program, its code object and that one's table, as the written part tells them -/
def OneTab (K : PySem.W.Frag) (mg : Str → Option Value) (n : Str) (c T : Addr) : Prop :=
  ∃ (f : Addr) (o : Obj) (fd : FuncData), mg n = some (.ref f) ∧ K.lookup f = some o ∧ o.data = .func fd ∧ fd.code = .ref c ∧
    PySem.W.codeHdIn K c T = true ∧ K.lookup T = none
/-- the goal that the head leaves, from the law's promise; the defs n1 and n2 make lambdas -/
theorem walkTG {l : PySem.W.OpenLaw} {n k : Nat} {q : Program} {loose : List Str}
    {XP : (Str → Option Value) → Heap → Prop} {YP : World → Heap → Prop} {d : DefRec}
    {K : Params → PySem.W.Frag} {sp : Addr → Addr → PySem.W.Frag → Sp} {x n1 n2 : Str} (hn : l.most = some n)
    (hn2 : n ≤ sizeLine) (hdf : d.params.defaults = []) (hr : Room k callerA)
    (r1 : ((recsOf q).any fun e => e.name == n1) = true) (r2 : ((recsOf q).any fun e => e.name == n2) = true)
    (hY : ∀ (w : World) (h : Heap), YP w h → (K w.params).In h)
    (F : ∀ (w : World) (mg : Str → Option Value) (fa : Addr) (h : Heap), (K w.params).In h →
      h.Ns mainGlobals mg → mg d.name = some (.ref fa) →
      ∃ (fd : FuncData) (c1 P1 c2 P2 : Addr), OneTab (K w.params) mg n1 c1 P1 ∧ OneTab (K w.params) mg n2 c2 P2 ∧
        (∀ (s : Shared) (u : Value), BindsTo s fd ⟨[u], []⟩ [(x, u)]) ∧
        ∀ base : Heap, (K w.params).In base → base.Ns mainGlobals mg → TabB base mg c1 P1 → TabB base mg c2 P2 →
          FnG l.prog w (K w.params) mg base CX0 k fa fd [x] (sp P1 P2 (K w.params)))
    (hsp : ∀ (P1 P2 : Addr) (K : PySem.W.Frag) (H : Hp) (a : Addr) (ns : List Int), ns.length ≤ n → H P1 = some (.tbl #[]) → H P2 = some (.tbl #[]) →
      SqL K H a (ns.map V.int) → sp P1 P2 K [.ref a] H (fun v _ => v = .bl true) fun _ _ _ => False) :
    PySem.W.WalkO q loose XP YP l.row.toRowW d [] (fun f vs => PySem.call f vs) := by
  refine Att.attach_call hn hdf ?_
  intro w s₀ s₁ mg mb fa o pm cd doc a vs ns G Y ho hd hcd hmg hobj hints hlen hg
  have KX := hY w _ Y
  obtain ⟨fd, c1, P1, c2, P2, o1, o2, hb, hF⟩ := F w mg fa _ KX G.T.g hmg
  have get : ∀ {n c T}, ((recsOf q).any fun e => e.name == n) = true → OneTab (K w.params) mg n c T → s₁.heap.get? T = some emptyTab ∧ (K w.params).lookup T = none ∧ PySem.W.CodeHd s₁.heap c T := by
    rintro n c T r ⟨f, o, fd, z1, z2, z3, z4, z5, z6⟩
    obtain ⟨dL, hm, hnm⟩ := List.any_eq_true.mp r
    obtain rfl : dL.name = n := beq_iff_eq.mp hnm
    obtain ⟨a', o', fd', c', T', y1, y2, y3, y4, y5, y6⟩ := G.T.tab dL hm
    cases z1.symm.trans y1
    cases (KX _ _ z2).symm.trans y2
    cases z3.symm.trans y3
    cases z4.symm.trans y4
    have H1 := PySem.W.codeHd_of_K KX z5
    obtain ⟨⟨ob, us, x1, _, x3, x4⟩, x5⟩ := y6
    obtain ⟨ob2, us2, _, _, _, _, _, _, _, w1, _, w3, w4, _⟩ := id H1
    cases x1.symm.trans w1
    cases x3.symm.trans w3
    cases x4.symm.trans w4
    exact ⟨x5, z6, H1⟩
  obtain ⟨t1, u1, v1⟩ := get r1 o1
  obtain ⟨t2, u2, v2⟩ := get r2 o2
  exact law_callTG KX G.T.g G.T.b G.T.builtins G.T.nolimit hg ⟨t1, t2, u1, u2, v1, v2⟩ G.T.bmain hobj hints (Nat.le_trans hlen hn2) hr hF hb
    (fun H hH1 hH2 hS => hsp P1 P2 _ H a ns hlen hH1 hH2 hS)
end Q
set_option Elab.async false
set_option linter.all false
set_option maxRecDepth 100000
set_option maxHeartbeats 4000000
namespace Toy
open PySem L2 Q
def topS (i : Nat) : Stmt := PySem.Challenge.pw_quietturns_k03_sizes_at_their_limits.main.body.getD i (.Pass ⟨0, 0, 0, 0⟩)
abbrev s_is_integer : Stmt := topS 10
abbrev N_is_integer : List Str := ["value"]
theorem sc_is_integer : FnScope N_is_integer ["value"] (defScope s_is_integer) := ⟨rfl, rfl, rfl, by decide +kernel, rfl, by decide +kernel, by decide +kernel⟩
abbrev s_is_integer_from : Stmt := topS 11
abbrev N_is_integer_from : List Str := ["value", "least"]
theorem sc_is_integer_from : FnScope N_is_integer_from ["value", "least"] (defScope s_is_integer_from) := ⟨rfl, rfl, rfl, by decide +kernel, rfl, by decide +kernel, by decide +kernel⟩
abbrev s_is_name : Stmt := topS 12
abbrev N_is_name : List Str := ["value", "letter"]
theorem sc_is_name : FnScope N_is_name ["value"] (defScope s_is_name) := ⟨rfl, rfl, rfl, by decide +kernel, rfl, by decide +kernel, by decide +kernel⟩
abbrev s_is_rising : Stmt := topS 13
abbrev N_is_rising : List Str := ["values", "low", "high"]
theorem sc_is_rising : FnScope N_is_rising ["values"] (defScope s_is_rising) := ⟨rfl, rfl, rfl, by decide +kernel, rfl, by decide +kernel, by decide +kernel⟩
abbrev s_need_routers : Stmt := topS 19
abbrev N_need_routers : List Str := ["net", "a", "b"]
theorem sc_need_routers : FnScope N_need_routers ["net", "a", "b"] (defScope s_need_routers) := ⟨rfl, rfl, rfl, by decide +kernel, rfl, by decide +kernel, by decide +kernel⟩
abbrev s_need_router : Stmt := topS 20
abbrev N_need_router : List Str := ["net", "value"]
theorem sc_need_router : FnScope N_need_router ["net", "value"] (defScope s_need_router) := ⟨rfl, rfl, rfl, by decide +kernel, rfl, by decide +kernel, by decide +kernel⟩
abbrev s_is_length : Stmt := topS 21
abbrev N_is_length : List Str := ["value"]
theorem sc_is_length : FnScope N_is_length ["value"] (defScope s_is_length) := ⟨rfl, rfl, rfl, by decide +kernel, rfl, by decide +kernel, by decide +kernel⟩
abbrev s_are_routers : Stmt := topS 22
abbrev N_are_routers : List Str := ["value", "name"]
theorem sc_are_routers : FnScope N_are_routers ["value"] (defScope s_are_routers) := ⟨rfl, rfl, rfl, by decide +kernel, rfl, by decide +kernel, by decide +kernel⟩
abbrev s_are_links : Stmt := topS 23
abbrev N_are_links : List Str := ["value", "routers", "link"]
theorem sc_are_links : FnScope N_are_links ["value", "routers"] (defScope s_are_links) := ⟨rfl, rfl, rfl, by decide +kernel, rfl, by decide +kernel, by decide +kernel⟩
abbrev s_is_link : Stmt := topS 24
abbrev N_is_link : List Str := ["value", "routers", "a", "b", "there", "back"]
theorem sc_is_link : FnScope N_is_link ["value", "routers"] (defScope s_is_link) := ⟨rfl, rfl, rfl, by decide +kernel, rfl, by decide +kernel, by decide +kernel⟩
abbrev s_l_pot : Stmt := topS 26
abbrev N_l_pot : List Str := ["_law_script", "_law_k", "_law_cell", "_law_own"]
theorem sc_l_pot : FnScope N_l_pot ["_law_script", "_law_k"] (defScope s_l_pot) := ⟨rfl, rfl, rfl, by decide +kernel, rfl, by decide +kernel, by decide +kernel⟩
abbrev s_l_take : Stmt := topS 27
abbrev N_l_take : List Str := ["_law_pot_here", "_law_upto", "_law_digit", "_law_prime", "_law_stirred"]
theorem sc_l_take : FnScope N_l_take ["_law_pot_here", "_law_upto"] (defScope s_l_take) := ⟨rfl, rfl, rfl, by decide +kernel, rfl, by decide +kernel, by decide +kernel⟩
abbrev s_l_pots : Stmt := topS 28
abbrev N_l_pots : List Str := ["_law_script", "_law_most", "_law_k"]
theorem sc_l_pots : FnScope N_l_pots ["_law_script", "_law_most"] (defScope s_l_pots) := ⟨rfl, rfl, rfl, by decide +kernel, rfl, by decide +kernel, by decide +kernel⟩
abbrev s_l_of : Stmt := topS 29
abbrev N_l_of : List Str := ["_law_pot_here", "_law_some"]
theorem sc_l_of : FnScope N_l_of ["_law_pot_here", "_law_some"] (defScope s_l_of) := ⟨rfl, rfl, rfl, by decide +kernel, rfl, by decide +kernel, by decide +kernel⟩
abbrev s_l_turned : Stmt := topS 30
abbrev N_l_turned : List Str := ["_law_pot_here", "_law_some", "_law_at", "_law_row"]
theorem sc_l_turned : FnScope N_l_turned ["_law_pot_here", "_law_some"] (defScope s_l_turned) := ⟨rfl, rfl, rfl, by decide +kernel, rfl, by decide +kernel, by decide +kernel⟩
abbrev s_l_names : Stmt := topS 31
abbrev N_l_names : List Str := ["_law_pot_here", "_law_many", "_law_small", "_law_stem", "_law_turn", "_law_spot", "_law_at", "_law_found", "_law_k"]
theorem sc_l_names : FnScope N_l_names ["_law_pot_here", "_law_many"] (defScope s_l_names) := ⟨rfl, rfl, rfl, by decide +kernel, rfl, by decide +kernel, by decide +kernel⟩
abbrev s_l_far : Stmt := topS 32
abbrev N_l_far : List Str := ["_law_pot_here"]
theorem sc_l_far : FnScope N_l_far ["_law_pot_here"] (defScope s_l_far) := ⟨rfl, rfl, rfl, by decide +kernel, rfl, by decide +kernel, by decide +kernel⟩
abbrev s_l_caught : Stmt := topS 33
abbrev N_l_caught : List Str := ["_law_look", "_law_caught_here", "error"]
theorem sc_l_caught : FnScope N_l_caught ["_law_look"] (defScope s_l_caught) := ⟨rfl, rfl, rfl, by decide +kernel, rfl, by decide +kernel, by decide +kernel⟩
abbrev s_l_is_refused : Stmt := topS 34
abbrev N_l_is_refused : List Str := ["_law_routers", "_law_links", "_law_caught_here"]
theorem sc_l_is_refused : FnScope N_l_is_refused ["_law_routers", "_law_links"] (defScope s_l_is_refused) := ⟨rfl, rfl, rfl, by decide +kernel, rfl, by decide +kernel, by decide +kernel⟩
abbrev s_l_some_links : Stmt := topS 35
abbrev N_l_some_links : List Str := ["_law_pot_here", "_law_routers", "_law_many", "_law_some", "_law_at", "_law_a", "_law_b"]
theorem sc_l_some_links : FnScope N_l_some_links ["_law_pot_here", "_law_routers", "_law_many"] (defScope s_l_some_links) := ⟨rfl, rfl, rfl, by decide +kernel, rfl, by decide +kernel, by decide +kernel⟩
abbrev s_l_fine : Stmt := topS 36
abbrev N_l_fine : List Str := ["_law_pot_here", "_law_names_here", "_law_many", "_law_some", "_law_links", "_law_at", "_law_left", "_law_full", "_law_made", "_law_a", "_law_b", "_law_other", "_law_long"]
theorem sc_l_fine : FnScope N_l_fine ["_law_pot_here"] (defScope s_l_fine) := ⟨rfl, rfl, rfl, by decide +kernel, rfl, by decide +kernel, by decide +kernel⟩
abbrev s_law : Stmt := topS 37
abbrev N_law : List Str := ["_law_script", "_law_pot_here"]
theorem sc_law : FnScope N_law ["_law_script"] (defScope s_law) := ⟨rfl, rfl, rfl, by decide +kernel, rfl, by decide +kernel, by decide +kernel⟩
abbrev s_m_init : Stmt := inClass (topS 18) 0
abbrev N_m_init : List Str := ["self", "routers", "links"]
theorem sc_m_init : FnScope N_m_init ["self", "routers", "links"] (defScope s_m_init) := ⟨rfl, rfl, rfl, by decide +kernel, rfl, by decide +kernel, by decide +kernel⟩
abbrev s_m_routers : Stmt := inClass (topS 18) 1
abbrev N_m_routers : List Str := ["self"]
theorem sc_m_routers : FnScope N_m_routers ["self"] (defScope s_m_routers) := ⟨rfl, rfl, rfl, by decide +kernel, rfl, by decide +kernel, by decide +kernel⟩
abbrev s_m_links : Stmt := inClass (topS 18) 2
abbrev N_m_links : List Str := ["self"]
theorem sc_m_links : FnScope N_m_links ["self"] (defScope s_m_links) := ⟨rfl, rfl, rfl, by decide +kernel, rfl, by decide +kernel, by decide +kernel⟩
abbrev s_m_u_eq_ : Stmt := inClass (topS 18) 3
abbrev N_m_u_eq_ : List Str := ["self", "other"]
abbrev s_m_length : Stmt := inClass (topS 18) 4
abbrev N_m_length : List Str := ["self", "a", "b", "low", "high", "there", "back"]
theorem sc_m_length : FnScope N_m_length ["self", "a", "b"] (defScope s_m_length) := ⟨rfl, rfl, rfl, by decide +kernel, rfl, by decide +kernel, by decide +kernel⟩
abbrev s_m_with_link : Stmt := inClass (topS 18) 5
abbrev N_m_with_link : List Str := ["self", "a", "b", "there", "back", "value", "others"]
theorem sc_m_with_link : FnScope N_m_with_link ["self", "a", "b", "there", "back"] (defScope s_m_with_link) := ⟨rfl, rfl, rfl, by decide +kernel, rfl, by decide +kernel, by decide +kernel⟩
abbrev s_m_without : Stmt := inClass (topS 18) 6
abbrev N_m_without : List Str := ["self", "a", "b", "others"]
theorem sc_m_without : FnScope N_m_without ["self", "a", "b"] (defScope s_m_without) := ⟨rfl, rfl, rfl, by decide +kernel, rfl, by decide +kernel, by decide +kernel⟩
abbrev s_m_u_links_without : Stmt := inClass (topS 18) 7
abbrev N_m_u_links_without : List Str := ["self", "a", "b", "link"]
theorem sc_m_u_links_without : FnScope N_m_u_links_without ["self", "a", "b"] (defScope s_m_u_links_without) := ⟨rfl, rfl, rfl, by decide +kernel, rfl, by decide +kernel, by decide +kernel⟩

/-- what the written part says of NetError -/
structure ErrN (K : PySem.W.Frag) (mg : Str → Option Value) (C : Addr) : Prop where
  g : mg "NetError" = some (.ref C)
  xL : ∃ nm q N bs sn sub ab col dd k0 k1 k2 k3 k5, K.lookup C = some (excClassObj nm q C N bs PySem.HandSPX.veTail true sn sub ab col dd k0 k1 k2 k3 k5 "ValueError.__new__")
/-- .. and of a class below it -/
structure ErrC (K : PySem.W.Frag) (mg : Str → Option Value) (nm : Str) (C Cn : Addr) : Prop where
  g : mg nm = some (.ref C)
  xL : ∃ nm q N bs sn sub ab col dd k0 k1 k2 k3 k5, K.lookup C = some (excClassObj nm q C N bs (.ref Cn :: PySem.HandSPX.veTail) true sn sub ab col dd k0 k1 k2 k3 k5 "ValueError.__new__")
  sa : PySem.W.findIn K (.ref C) "__setattr__" = some (some (.builtin "object.__setattr__"))
  ga : PySem.W.findIn K (.ref C) "__getattribute__" = some (some (.builtin "BaseException.__getattribute__"))
  gg : PySem.W.findIn K (.ref C) "__getattr__" = some none
  hc : PySem.W.findIn K (.ref C) "__class__" = some (some (.builtin "object.__class__"))
  kC : PySem.W.keepIn K (.ref C) = true
structure Txt (K : PySem.W.Frag) (mg : Str → Option Value) (ca ia fa : Nat → Addr) (fd fi : Nat → FuncData) : Prop where
  n_abs : mg "abs" = none
  n_all : mg "all" = none
  n_bool : mg "bool" = none
  n_enumerate : mg "enumerate" = none
  n_int : mg "int" = none
  n_isinstance : mg "isinstance" = none
  n_len : mg "len" = none
  n_max : mg "max" = none
  n_min : mg "min" = none
  n_range : mg "range" = none
  n_repr : mg "repr" = none
  n_set : mg "set" = none
  n_sorted : mg "sorted" = none
  n_str : mg "str" = none
  n_tuple : mg "tuple" = none
  n_zip : mg "zip" = none
  v_LONGEST_NAME : ∃ t, mg "LONGEST_NAME" = some (.int 8 t)
  v_FEWEST_ROUTERS : ∃ t, mg "FEWEST_ROUTERS" = some (.int 2 t)
  v_MOST_ROUTERS : ∃ t, mg "MOST_ROUTERS" = some (.int 8 t)
  v_MOST_LINKS : ∃ t, mg "MOST_LINKS" = some (.int 16 t)
  hn : PySem.W.specialIn K (.builtin "object.__class__") "__get__" = some (some (.builtin "getset_descriptor.__get__"))
  ht : PySem.W.takesIn K (.builtin "object.__class__") = some true
  cN : ErrN K mg (ca 1)
  c_BadNet : ErrC K mg "BadNet" (ca 2) (ca 1)
  FI_BadNet : Fun K "__init__" "BadNet.__init__" (inClass (topS 2) 0) (ia 2) (fi 2)
  iC_BadNet : PySem.W.findIn K (.ref (ca 2)) "__init__" = some (some (.ref (ia 2)))
  tI_BadNet : PySem.W.typeIn K (.ref (ia 2)) = some (.type "function")
  no_BadNet_value : PySem.W.findIn K (.ref (ca 2)) "value" = some none
  c_NoRouter : ErrC K mg "NoRouter" (ca 3) (ca 1)
  FI_NoRouter : Fun K "__init__" "NoRouter.__init__" (inClass (topS 3) 0) (ia 3) (fi 3)
  iC_NoRouter : PySem.W.findIn K (.ref (ca 3)) "__init__" = some (some (.ref (ia 3)))
  tI_NoRouter : PySem.W.typeIn K (.ref (ia 3)) = some (.type "function")
  no_NoRouter_value : PySem.W.findIn K (.ref (ca 3)) "value" = some none
  c_BadLink : ErrC K mg "BadLink" (ca 4) (ca 1)
  FI_BadLink : Fun K "__init__" "BadLink.__init__" (inClass (topS 4) 0) (ia 4) (fi 4)
  iC_BadLink : PySem.W.findIn K (.ref (ca 4)) "__init__" = some (some (.ref (ia 4)))
  tI_BadLink : PySem.W.typeIn K (.ref (ia 4)) = some (.type "function")
  no_BadLink_value : PySem.W.findIn K (.ref (ca 4)) "value" = some none
  c_BadLength : ErrC K mg "BadLength" (ca 5) (ca 1)
  FI_BadLength : Fun K "__init__" "BadLength.__init__" (inClass (topS 5) 0) (ia 5) (fi 5)
  iC_BadLength : PySem.W.findIn K (.ref (ca 5)) "__init__" = some (some (.ref (ia 5)))
  tI_BadLength : PySem.W.typeIn K (.ref (ia 5)) = some (.type "function")
  no_BadLength_value : PySem.W.findIn K (.ref (ca 5)) "value" = some none
  c_TooMany : ErrC K mg "TooMany" (ca 6) (ca 1)
  x_TooMany : PySem.W.excIn K (ca 6) [.type "ValueError", .type "Exception", .type "BaseException", .type "object"] "ValueError.__new__" = true
  y_TooMany : PySem.W.typeIn K (.ref (ca 6)) = some (.type "type")
  c_NoLink : ErrC K mg "NoLink" (ca 7) (ca 1)
  FI_NoLink : Fun K "__init__" "NoLink.__init__" (inClass (topS 7) 0) (ia 7) (fi 7)
  iC_NoLink : PySem.W.findIn K (.ref (ca 7)) "__init__" = some (some (.ref (ia 7)))
  tI_NoLink : PySem.W.typeIn K (.ref (ia 7)) = some (.type "function")
  no_NoLink_value : PySem.W.findIn K (.ref (ca 7)) "value" = some none
  g_Net : mg "Net" = some (.ref (ca 18))
  cl_Net : Cls K (ca 18)
  M_Net : Mk K (ca 18) (ia 100)
  no_Net_routers : NoAttr K (ca 18) "_routers"
  no_Net_links : NoAttr K (ca 18) "_links"
  F_m_init : Fun K "__init__" "Net.__init__" s_m_init (ia 100) (fi 100)
  F_m_routers : Fun K "routers" "Net.routers" s_m_routers (ia 101) (fi 101)
  P_routers : ∃ pa, PropOf K (ca 18) "routers" pa (ia 101)
  F_m_links : Fun K "links" "Net.links" s_m_links (ia 102) (fi 102)
  P_links : ∃ pa, PropOf K (ca 18) "links" pa (ia 102)
  F_m_u_eq_ : Fun K "__eq__" "Net.__eq__" s_m_u_eq_ (ia 103) (fi 103)
  F_m_length : Fun K "length" "Net.length" s_m_length (ia 104) (fi 104)
  Me_m_length : Meth K (ca 18) "length" (ia 104)
  F_m_with_link : Fun K "with_link" "Net.with_link" s_m_with_link (ia 105) (fi 105)
  Me_m_with_link : Meth K (ca 18) "with_link" (ia 105)
  F_m_without : Fun K "without" "Net.without" s_m_without (ia 106) (fi 106)
  Me_m_without : Meth K (ca 18) "without" (ia 106)
  F_m_u_links_without : Fun K "_links_without" "Net._links_without" s_m_u_links_without (ia 107) (fi 107)
  Me_m_u_links_without : Meth K (ca 18) "_links_without" (ia 107)
  F_is_integer : Fun K "is_integer" "is_integer" s_is_integer (fa 10) (fd 10)
  g_is_integer : mg "is_integer" = some (.ref (fa 10))
  F_is_integer_from : Fun K "is_integer_from" "is_integer_from" s_is_integer_from (fa 11) (fd 11)
  g_is_integer_from : mg "is_integer_from" = some (.ref (fa 11))
  F_is_name : Fun K "is_name" "is_name" s_is_name (fa 12) (fd 12)
  g_is_name : mg "is_name" = some (.ref (fa 12))
  F_is_rising : Fun K "is_rising" "is_rising" s_is_rising (fa 13) (fd 13)
  g_is_rising : mg "is_rising" = some (.ref (fa 13))
  F_need_routers : Fun K "need_routers" "need_routers" s_need_routers (fa 19) (fd 19)
  g_need_routers : mg "need_routers" = some (.ref (fa 19))
  F_need_router : Fun K "need_router" "need_router" s_need_router (fa 20) (fd 20)
  g_need_router : mg "need_router" = some (.ref (fa 20))
  F_is_length : Fun K "is_length" "is_length" s_is_length (fa 21) (fd 21)
  g_is_length : mg "is_length" = some (.ref (fa 21))
  F_are_routers : Fun K "are_routers" "are_routers" s_are_routers (fa 22) (fd 22)
  g_are_routers : mg "are_routers" = some (.ref (fa 22))
  F_are_links : Fun K "are_links" "are_links" s_are_links (fa 23) (fd 23)
  g_are_links : mg "are_links" = some (.ref (fa 23))
  F_is_link : Fun K "is_link" "is_link" s_is_link (fa 24) (fd 24)
  g_is_link : mg "is_link" = some (.ref (fa 24))
  F_l_pot : Fun K "_law_pot" "_law_pot" s_l_pot (fa 26) (fd 26)
  g_l_pot : mg "_law_pot" = some (.ref (fa 26))
  F_l_take : Fun K "_law_take" "_law_take" s_l_take (fa 27) (fd 27)
  g_l_take : mg "_law_take" = some (.ref (fa 27))
  F_l_pots : Fun K "_law_pots" "_law_pots" s_l_pots (fa 28) (fd 28)
  g_l_pots : mg "_law_pots" = some (.ref (fa 28))
  F_l_of : Fun K "_law_of" "_law_of" s_l_of (fa 29) (fd 29)
  g_l_of : mg "_law_of" = some (.ref (fa 29))
  F_l_turned : Fun K "_law_turned" "_law_turned" s_l_turned (fa 30) (fd 30)
  g_l_turned : mg "_law_turned" = some (.ref (fa 30))
  F_l_names : Fun K "_law_names" "_law_names" s_l_names (fa 31) (fd 31)
  g_l_names : mg "_law_names" = some (.ref (fa 31))
  F_l_far : Fun K "_law_far" "_law_far" s_l_far (fa 32) (fd 32)
  g_l_far : mg "_law_far" = some (.ref (fa 32))
  F_l_caught : Fun K "_law_caught" "_law_caught" s_l_caught (fa 33) (fd 33)
  g_l_caught : mg "_law_caught" = some (.ref (fa 33))
  F_l_is_refused : Fun K "_law_is_refused" "_law_is_refused" s_l_is_refused (fa 34) (fd 34)
  g_l_is_refused : mg "_law_is_refused" = some (.ref (fa 34))
  F_l_some_links : Fun K "_law_some_links" "_law_some_links" s_l_some_links (fa 35) (fd 35)
  g_l_some_links : mg "_law_some_links" = some (.ref (fa 35))
  F_l_fine : Fun K "_law_fine" "_law_fine" s_l_fine (fa 36) (fd 36)
  g_l_fine : mg "_law_fine" = some (.ref (fa 36))
  F_law : Fun K "law" "law" s_law (fa 37) (fd 37)
  g_law : mg "law" = some (.ref (fa 37))
section
variable {P : Program} {w : World} {K : PySem.W.Frag} {mg : Str → Option Value} {base : Heap} {ca ia fa : Nat → Addr} {fd fi : Nat → FuncData}
theorem Txt.k_is_integer (T : Txt K mg ca ia fa fd fi) : PySem.W.keepIn K (.ref (fa 10)) = true := T.F_is_integer.kp
theorem Txt.b_is_integer (T : Txt K mg ca ia fa fd fi) : Binds K (fd 10) ["value"] [] :=
  T.F_is_integer.binds (ps := ["value"]) fun _ _ _ _ _ _ us hl => match us, hl with | [_], _ => rfl
theorem Txt.k_is_integer_from (T : Txt K mg ca ia fa fd fi) : PySem.W.keepIn K (.ref (fa 11)) = true := T.F_is_integer_from.kp
theorem Txt.b_is_integer_from (T : Txt K mg ca ia fa fd fi) : Binds K (fd 11) ["value", "least"] [] :=
  T.F_is_integer_from.binds (ps := ["value", "least"]) fun _ _ _ _ _ _ us hl => match us, hl with | [_, _], _ => rfl
theorem Txt.k_is_name (T : Txt K mg ca ia fa fd fi) : PySem.W.keepIn K (.ref (fa 12)) = true := T.F_is_name.kp
theorem Txt.b_is_name (T : Txt K mg ca ia fa fd fi) : Binds K (fd 12) ["value"] [] :=
  T.F_is_name.binds (ps := ["value"]) fun _ _ _ _ _ _ us hl => match us, hl with | [_], _ => rfl
theorem Txt.k_is_rising (T : Txt K mg ca ia fa fd fi) : PySem.W.keepIn K (.ref (fa 13)) = true := T.F_is_rising.kp
theorem Txt.b_is_rising (T : Txt K mg ca ia fa fd fi) : Binds K (fd 13) ["values"] [] :=
  T.F_is_rising.binds (ps := ["values"]) fun _ _ _ _ _ _ us hl => match us, hl with | [_], _ => rfl
theorem Txt.k_need_routers (T : Txt K mg ca ia fa fd fi) : PySem.W.keepIn K (.ref (fa 19)) = true := T.F_need_routers.kp
theorem Txt.b_need_routers (T : Txt K mg ca ia fa fd fi) : Binds K (fd 19) ["net", "a", "b"] [] :=
  T.F_need_routers.binds (ps := ["net", "a", "b"]) fun _ _ _ _ _ _ us hl => match us, hl with | [_, _, _], _ => rfl
theorem Txt.k_need_router (T : Txt K mg ca ia fa fd fi) : PySem.W.keepIn K (.ref (fa 20)) = true := T.F_need_router.kp
theorem Txt.b_need_router (T : Txt K mg ca ia fa fd fi) : Binds K (fd 20) ["net", "value"] [] :=
  T.F_need_router.binds (ps := ["net", "value"]) fun _ _ _ _ _ _ us hl => match us, hl with | [_, _], _ => rfl
theorem Txt.k_is_length (T : Txt K mg ca ia fa fd fi) : PySem.W.keepIn K (.ref (fa 21)) = true := T.F_is_length.kp
theorem Txt.b_is_length (T : Txt K mg ca ia fa fd fi) : Binds K (fd 21) ["value"] [] :=
  T.F_is_length.binds (ps := ["value"]) fun _ _ _ _ _ _ us hl => match us, hl with | [_], _ => rfl
theorem Txt.k_are_routers (T : Txt K mg ca ia fa fd fi) : PySem.W.keepIn K (.ref (fa 22)) = true := T.F_are_routers.kp
theorem Txt.b_are_routers (T : Txt K mg ca ia fa fd fi) : Binds K (fd 22) ["value"] [] :=
  T.F_are_routers.binds (ps := ["value"]) fun _ _ _ _ _ _ us hl => match us, hl with | [_], _ => rfl
theorem Txt.k_are_links (T : Txt K mg ca ia fa fd fi) : PySem.W.keepIn K (.ref (fa 23)) = true := T.F_are_links.kp
theorem Txt.b_are_links (T : Txt K mg ca ia fa fd fi) : Binds K (fd 23) ["value", "routers"] [] :=
  T.F_are_links.binds (ps := ["value", "routers"]) fun _ _ _ _ _ _ us hl => match us, hl with | [_, _], _ => rfl
theorem Txt.k_is_link (T : Txt K mg ca ia fa fd fi) : PySem.W.keepIn K (.ref (fa 24)) = true := T.F_is_link.kp
theorem Txt.b_is_link (T : Txt K mg ca ia fa fd fi) : Binds K (fd 24) ["value", "routers"] [] :=
  T.F_is_link.binds (ps := ["value", "routers"]) fun _ _ _ _ _ _ us hl => match us, hl with | [_, _], _ => rfl
theorem Txt.k_l_pot (T : Txt K mg ca ia fa fd fi) : PySem.W.keepIn K (.ref (fa 26)) = true := T.F_l_pot.kp
theorem Txt.b_l_pot (T : Txt K mg ca ia fa fd fi) : Binds K (fd 26) ["_law_script", "_law_k"] [] :=
  T.F_l_pot.binds (ps := ["_law_script", "_law_k"]) fun _ _ _ _ _ _ us hl => match us, hl with | [_, _], _ => rfl
theorem Txt.k_l_take (T : Txt K mg ca ia fa fd fi) : PySem.W.keepIn K (.ref (fa 27)) = true := T.F_l_take.kp
theorem Txt.b_l_take (T : Txt K mg ca ia fa fd fi) : Binds K (fd 27) ["_law_pot_here", "_law_upto"] [] :=
  T.F_l_take.binds (ps := ["_law_pot_here", "_law_upto"]) fun _ _ _ _ _ _ us hl => match us, hl with | [_, _], _ => rfl
theorem Txt.k_l_pots (T : Txt K mg ca ia fa fd fi) : PySem.W.keepIn K (.ref (fa 28)) = true := T.F_l_pots.kp
theorem Txt.b_l_pots (T : Txt K mg ca ia fa fd fi) : Binds K (fd 28) ["_law_script", "_law_most"] [] :=
  T.F_l_pots.binds (ps := ["_law_script", "_law_most"]) fun _ _ _ _ _ _ us hl => match us, hl with | [_, _], _ => rfl
theorem Txt.k_l_of (T : Txt K mg ca ia fa fd fi) : PySem.W.keepIn K (.ref (fa 29)) = true := T.F_l_of.kp
theorem Txt.b_l_of (T : Txt K mg ca ia fa fd fi) : Binds K (fd 29) ["_law_pot_here", "_law_some"] [] :=
  T.F_l_of.binds (ps := ["_law_pot_here", "_law_some"]) fun _ _ _ _ _ _ us hl => match us, hl with | [_, _], _ => rfl
theorem Txt.k_l_turned (T : Txt K mg ca ia fa fd fi) : PySem.W.keepIn K (.ref (fa 30)) = true := T.F_l_turned.kp
theorem Txt.b_l_turned (T : Txt K mg ca ia fa fd fi) : Binds K (fd 30) ["_law_pot_here", "_law_some"] [] :=
  T.F_l_turned.binds (ps := ["_law_pot_here", "_law_some"]) fun _ _ _ _ _ _ us hl => match us, hl with | [_, _], _ => rfl
theorem Txt.k_l_names (T : Txt K mg ca ia fa fd fi) : PySem.W.keepIn K (.ref (fa 31)) = true := T.F_l_names.kp
theorem Txt.b_l_names (T : Txt K mg ca ia fa fd fi) : Binds K (fd 31) ["_law_pot_here", "_law_many"] [] :=
  T.F_l_names.binds (ps := ["_law_pot_here", "_law_many"]) fun _ _ _ _ _ _ us hl => match us, hl with | [_, _], _ => rfl
theorem Txt.k_l_far (T : Txt K mg ca ia fa fd fi) : PySem.W.keepIn K (.ref (fa 32)) = true := T.F_l_far.kp
theorem Txt.b_l_far (T : Txt K mg ca ia fa fd fi) : Binds K (fd 32) ["_law_pot_here"] [] :=
  T.F_l_far.binds (ps := ["_law_pot_here"]) fun _ _ _ _ _ _ us hl => match us, hl with | [_], _ => rfl
theorem Txt.k_l_caught (T : Txt K mg ca ia fa fd fi) : PySem.W.keepIn K (.ref (fa 33)) = true := T.F_l_caught.kp
theorem Txt.b_l_caught (T : Txt K mg ca ia fa fd fi) : Binds K (fd 33) ["_law_look"] [] :=
  T.F_l_caught.binds (ps := ["_law_look"]) fun _ _ _ _ _ _ us hl => match us, hl with | [_], _ => rfl
theorem Txt.k_l_is_refused (T : Txt K mg ca ia fa fd fi) : PySem.W.keepIn K (.ref (fa 34)) = true := T.F_l_is_refused.kp
theorem Txt.b_l_is_refused (T : Txt K mg ca ia fa fd fi) : Binds K (fd 34) ["_law_routers", "_law_links"] [] :=
  T.F_l_is_refused.binds (ps := ["_law_routers", "_law_links"]) fun _ _ _ _ _ _ us hl => match us, hl with | [_, _], _ => rfl
theorem Txt.k_l_some_links (T : Txt K mg ca ia fa fd fi) : PySem.W.keepIn K (.ref (fa 35)) = true := T.F_l_some_links.kp
theorem Txt.b_l_some_links (T : Txt K mg ca ia fa fd fi) : Binds K (fd 35) ["_law_pot_here", "_law_routers", "_law_many"] [] :=
  T.F_l_some_links.binds (ps := ["_law_pot_here", "_law_routers", "_law_many"]) fun _ _ _ _ _ _ us hl => match us, hl with | [_, _, _], _ => rfl
theorem Txt.k_l_fine (T : Txt K mg ca ia fa fd fi) : PySem.W.keepIn K (.ref (fa 36)) = true := T.F_l_fine.kp
theorem Txt.b_l_fine (T : Txt K mg ca ia fa fd fi) : Binds K (fd 36) ["_law_pot_here"] [] :=
  T.F_l_fine.binds (ps := ["_law_pot_here"]) fun _ _ _ _ _ _ us hl => match us, hl with | [_], _ => rfl
theorem Txt.k_law (T : Txt K mg ca ia fa fd fi) : PySem.W.keepIn K (.ref (fa 37)) = true := T.F_law.kp
theorem Txt.b_law (T : Txt K mg ca ia fa fd fi) : Binds K (fd 37) ["_law_script"] [] :=
  T.F_law.binds (ps := ["_law_script"]) fun _ _ _ _ _ _ us hl => match us, hl with | [_], _ => rfl
theorem Txt.b_m_init (T : Txt K mg ca ia fa fd fi) : Binds K (fi 100) ["self", "routers", "links"] [] :=
  T.F_m_init.binds (ps := ["self", "routers", "links"]) fun _ _ _ _ _ _ us hl => match us, hl with | [_, _, _], _ => rfl
theorem Txt.b_m_routers (T : Txt K mg ca ia fa fd fi) : Binds K (fi 101) ["self"] [] :=
  T.F_m_routers.binds (ps := ["self"]) fun _ _ _ _ _ _ us hl => match us, hl with | [_], _ => rfl
theorem Txt.b_m_links (T : Txt K mg ca ia fa fd fi) : Binds K (fi 102) ["self"] [] :=
  T.F_m_links.binds (ps := ["self"]) fun _ _ _ _ _ _ us hl => match us, hl with | [_], _ => rfl
theorem Txt.b_m_length (T : Txt K mg ca ia fa fd fi) : Binds K (fi 104) ["self", "a", "b"] [] :=
  T.F_m_length.binds (ps := ["self", "a", "b"]) fun _ _ _ _ _ _ us hl => match us, hl with | [_, _, _], _ => rfl
theorem Txt.b_m_with_link (T : Txt K mg ca ia fa fd fi) : Binds K (fi 105) ["self", "a", "b", "there", "back"] [] :=
  T.F_m_with_link.binds (ps := ["self", "a", "b", "there", "back"]) fun _ _ _ _ _ _ us hl => match us, hl with | [_, _, _, _, _], _ => rfl
theorem Txt.b_m_without (T : Txt K mg ca ia fa fd fi) : Binds K (fi 106) ["self", "a", "b"] [] :=
  T.F_m_without.binds (ps := ["self", "a", "b"]) fun _ _ _ _ _ _ us hl => match us, hl with | [_, _, _], _ => rfl
theorem Txt.b_m_u_links_without (T : Txt K mg ca ia fa fd fi) : Binds K (fi 107) ["self", "a", "b"] [] :=
  T.F_m_u_links_without.binds (ps := ["self", "a", "b"]) fun _ _ _ _ _ _ us hl => match us, hl with | [_, _, _], _ => rfl
theorem Txt.bi_BadNet (T : Txt K mg ca ia fa fd fi) : Binds K (fi 2) ["self", "value"] [] :=
  T.FI_BadNet.binds (ps := ["self", "value"]) fun _ _ _ _ _ _ us hl => match us, hl with | [_, _], _ => rfl
theorem Txt.bi_NoRouter (T : Txt K mg ca ia fa fd fi) : Binds K (fi 3) ["self", "value"] [] :=
  T.FI_NoRouter.binds (ps := ["self", "value"]) fun _ _ _ _ _ _ us hl => match us, hl with | [_, _], _ => rfl
theorem Txt.bi_BadLink (T : Txt K mg ca ia fa fd fi) : Binds K (fi 4) ["self", "value"] [] :=
  T.FI_BadLink.binds (ps := ["self", "value"]) fun _ _ _ _ _ _ us hl => match us, hl with | [_, _], _ => rfl
theorem Txt.bi_BadLength (T : Txt K mg ca ia fa fd fi) : Binds K (fi 5) ["self", "value"] [] :=
  T.FI_BadLength.binds (ps := ["self", "value"]) fun _ _ _ _ _ _ us hl => match us, hl with | [_, _], _ => rfl
theorem Txt.bi_NoLink (T : Txt K mg ca ia fa fd fi) : Binds K (fi 7) ["self", "value"] [] :=
  T.FI_NoLink.binds (ps := ["self", "value"]) fun _ _ _ _ _ _ us hl => match us, hl with | [_, _], _ => rfl
end
end Toy
set_option Elab.async false
set_option linter.all false
set_option maxRecDepth 100000
set_option maxHeartbeats 4000000
namespace Toy
open PySem L2 Q

/-! ### pots -/
abbrev potL (o s c : Int) : List V := [.int o, .int s, .int c]
/-- a pot at p, at most B draws of its second kind so far -/
def Pot (H : Hp) (p : Addr) (B : Nat) : Prop := ∃ o s c : Int, H p = some (.lst (potL o s c)) ∧ 0 ≤ o ∧ 0 ≤ s ∧
  s < 2305843009213693952 ∧ 0 ≤ c ∧ c ≤ (B : Int)
/-- all that is tracked but the pot at p is kept -/
def But (p : Addr) (H H' : Hp) : Prop := ∀ b o, b ≠ p → H b = some o → H' b = some o
theorem But.refl (p : Addr) (H : Hp) : But p H H := fun _ _ _ e => e
theorem But.trans {p : Addr} {H H1 H2 : Hp} (a : But p H H1) (b : But p H1 H2) : But p H H2 := fun c o n e => b c o n (a c o n e)
theorem But.of {p : Addr} {H H' : Hp} (s : Same H H') : But p H H' := fun b o _ e => s b o e
theorem Pot.mono {H : Hp} {p : Addr} {B B' : Nat} (h : Pot H p B) (l : B ≤ B') : Pot H p B' := by
  obtain ⟨o, s, c, e, h1, h2, h3, h4, h5⟩ := h
  exact ⟨o, s, c, e, h1, h2, h3, h4, by omega⟩
theorem Pot.same {H H' : Hp} {p : Addr} {B : Nat} (h : Pot H p B) (e : Same H H') : Pot H' p B := by
  obtain ⟨o, s, c, q, r⟩ := h
  exact ⟨o, s, c, e _ _ q, r⟩
theorem same_new {H : Hp} {a : Addr} {o : HO} (n : H a = none) : Same H (upd H a o) := fun b u e => by
  rw [upd_ne (ne_of_none e n)]
  exact e
theorem but_upd {H : Hp} {a : Addr} {o : HO} : But a H (upd H a o) := fun b u n e => by rw [upd_ne n]; exact e
/-- items read -/
theorem ixl {K : PySem.W.Frag} {H : Hp} {p : Addr} {xs : List V} {z : V} {Q : VK} (j : Nat) (h : SqL K H p xs)
    (e : xs[j]? = some z) (q : Q z H) : rIx K (.ref p) (.int (j : Int)) H Q :=
  .inl ⟨p, xs, (j : Int), z, rfl, rfl, h, atI_nat e, q⟩
theorem emod_lt31 {a b : Int} (hb : 0 < b) (h : b < 2147483648) : 0 ≤ a % b ∧ a % b < 2147483648 :=
  ⟨Int.emod_nonneg _ (by omega), Int.lt_trans (Int.emod_lt_of_pos _ hb) h⟩
theorem modN (a : Int) {n : Int} (hn : 0 < n) : ∃ d : Nat, a % n = (d : Int) ∧ (d : Int) < n := by
  obtain ⟨d, hd⟩ := Int.eq_ofNat_of_zero_le (Int.emod_nonneg a (show n ≠ 0 by omega))
  exact ⟨d, hd, hd ▸ Int.emod_lt_of_pos a hn⟩

/-- an assignment, its value's reading apart -/
theorem asg {te : TE} {g : TG} {D : Ends} {σ : L2.St} {H : Hp} (P : V → Hp → Prop)
    (h : ∀ Q : VK, (∀ v H', P v H' → Q v H') → te σ H Q) (k : ∀ v H', P v H' → g v σ H' D.nx) : tAsg te g D σ H := h _ k
theorem seqA {te : TE} {g : TG} {u : TS} {D : Ends} {σ : L2.St} {H : Hp} (P : V → Hp → Prop)
    (h : ∀ Q : VK, (∀ v H', P v H' → Q v H') → te σ H Q) (k : ∀ v H', P v H' → g v σ H' (u D)) : tSeq (tAsg te g) u D σ H := h _ k
theorem seqS {te : TE} {i : Nat} {u : TS} {D : Ends} {σ : L2.St} {H : Hp} (P : V → Hp → Prop)
    (h : ∀ Q : VK, (∀ v H', P v H' → Q v H') → te σ H Q) (k : ∀ v H', P v H' → u D (σ.set i (some v)) H') : tSeq (tAsg te (gName i)) u D σ H := h _ k
theorem ret {te : TE} {D : Ends} {σ : L2.St} {H : Hp} (P : V → Hp → Prop)
    (h : ∀ Q : VK, (∀ v H', P v H' → Q v H') → te σ H Q) (k : ∀ v H', P v H' → D.rt v H') : tRet te D σ H := h _ k
theorem nxt {f : L2.St → Hp → Prop} {rt : VK} {bk ct : L2.St → Hp → Prop} {σ : L2.St} {H : Hp} (h : f σ H) : Ends.nx ⟨f, rt, bk, ct⟩ σ H := h
theorem stepH {α : Type} {G : α → Hp → Prop} {σ : α} {H0 : Hp} (P : Hp → Prop) (h : P H0) (k : ∀ H', P H' → G σ H') : G σ H0 := k H0 h
abbrev primes : List V := [.int 2147483647, .int 2147483629, .int 2147483587, .int 2147483579, .int 2147483563]
theorem prime_at {d : Nat} (h : d < 5) : ∃ pr : Int, primes[d]? = some (.int pr) ∧ 0 < pr ∧ pr < 2147483648 := by
  match d, h with
  | 0, _ => exact ⟨_, rfl, by decide, by decide⟩
  | 1, _ => exact ⟨_, rfl, by decide, by decide⟩
  | 2, _ => exact ⟨_, rfl, by decide, by decide⟩
  | 3, _ => exact ⟨_, rfl, by decide, by decide⟩
  | 4, _ => exact ⟨_, rfl, by decide, by decide⟩
theorem mulOk {i j : Int} (hi : i.natAbs < 2 ^ 64) (hj : j.natAbs < 2 ^ 64) : CMulW i j :=
  wide_mul hi hj (by decide) (by decide) (by decide)
/-- _law_take(pot, n): some number from 0 below n -/
def spTake (K : PySem.W.Frag) : Sp := fun vs H Q _ => ∃ (p : Addr) (n : Int) (B : Nat), vs = [.ref p, .int n] ∧ Pot H p B ∧
  0 < n ∧ n < 1073741824 ∧ B < 1000000 ∧
  ∀ (d : Nat) (H' : Hp), (d : Int) < n → But p H H' → Pot H' p (B + 1) → Q (.int d) H'
theorem pw_bound {s c : Int} (h1 : 0 ≤ s) (h2 : s < 2305843009213693952) (h3 : 0 ≤ c) (h4 : c ≤ 1000001) :
    (s + 99989 * c * c + 71).natAbs < 2 ^ 64 := by
  have h5 : 99989 * c * c ≤ 99989 * 1000001 * 1000001 := by
    have a : 99989 * c ≤ 99989 * 1000001 := by omega
    exact Int.le_trans (Int.mul_le_mul_of_nonneg_right a h3) (Int.mul_le_mul_of_nonneg_left h4 (by omega))
  have h6 : 0 ≤ 99989 * c * c := Int.mul_nonneg (by omega) h3
  omega
section
variable {P : Program} {w : World} {K : PySem.W.Frag} {mg : Str → Option Value} {base : Heap} {ca ia fa : Nat → Addr} {fd fi : Nat → FuncData}
theorem ok_take (T : Txt K mg ca ia fa fd fi) : FnOk P w K mg base CX0 1 (fa 27) (fd 27) ["_law_pot_here", "_law_upto"] (spTake K) := by
  refine T.F_l_take.ok sc_l_take (fun vs H Q E h => ?_) (fun cdv A outer s H vs Q E hr h => ?_)
  · obtain ⟨p, n, B, rfl, _⟩ := h
    rfl
  · obtain ⟨p, n, B, rfl, ⟨o, sd, c, hp, h1, h2, h3, h4, h5⟩, hn, hn2, hB, k⟩ := h
    refine ⟨_, (pss_cons (ps_if (pt_cmpR op_gt (pe_ix ix_seq (pv 0) pe_int (fun _ _ => rfl)) pe_int (nomark _)) (pss_cons (ps_set (i := 2) sc_l_take.nd rfl (Or.inl rfl) (pe_op op_mod (pe_callTy call_int1 (by rfl) T.n_int (by decide +kernel) (pa_cons (pe_ix ix_seq (pv 0) pe_int (fun _ _ => rfl)) pa_nil)) (pv 1)))
      (pss_cons (ps_asg (pe_op op_fdiv (pe_ix ix_seq (pv 0) pe_int (fun _ _ => rfl)) (pv 1)) (pg_sub (pv 0) pe_int set_list))
      (pss_one (ps_ret (pv 2))))) pss_nil)
      (pss_cons (ps_asg (pe_op op_add (pe_ix ix_seq (pv 0) pe_int (fun _ _ => rfl)) pe_int) (pg_sub (pv 0) pe_int set_list))
      (pss_cons (ps_set (i := 3) sc_l_take.nd rfl (Or.inl rfl) (pe_ix ix_seq (pe_lst (pa_cons pe_int (pa_cons pe_int (pa_cons pe_int (pa_cons pe_int (pa_cons pe_int pa_nil)))))) (pe_op op_mod (pe_callTy call_int1 (by rfl) T.n_int (by decide +kernel) (pa_cons (pe_ix ix_seq (pv 0) pe_int (fun _ _ => rfl)) pa_nil)) pe_int) (fun _ _ => rfl)))
      (pss_cons (ps_set (i := 4) sc_l_take.nd rfl (Or.inl rfl) (pe_op op_mod (pe_callTy call_int1 (by rfl) T.n_int (by decide +kernel) (pa_cons (pe_op op_pw (pe_callTy call_int1 (by rfl) T.n_int (by decide +kernel) (pa_cons (pe_op op_add (pe_op op_add (pe_ix ix_seq (pv 0) pe_int (fun _ _ => rfl)) (pe_op op_mulW (pe_op op_mulW pe_int (pe_ix ix_seq (pv 0) pe_int (fun _ _ => rfl))) (pe_ix ix_seq (pv 0) pe_int (fun _ _ => rfl)))) pe_int) pa_nil)) pe_int) pa_nil)) (pv 3)))
      (pss_cons (ps_set (i := 4) sc_l_take.nd rfl (Or.inl rfl) (pe_op op_mod (pe_callTy call_int1 (by rfl) T.n_int (by decide +kernel) (pa_cons (pe_op op_mulW (pv 4) (pe_op op_add (pe_op op_mod (pe_callTy call_int1 (by rfl) T.n_int (by decide +kernel) (pa_cons (pv 4) pa_nil)) pe_int) (pe_op op_mulW pe_int (pe_ix ix_seq (pv 0) pe_int (fun _ _ => rfl))))) pa_nil)) pe_int))
      (pss_one (ps_ret (pe_op op_mod (pe_callTy call_int1 (by rfl) T.n_int (by decide +kernel) (pa_cons (pe_op op_fdiv (pv 4) pe_int) pa_nil)) (pv 1))))))))), ?_⟩
    refine ⟨_, rfl, ixl 0 (SqL.of hp) rfl ⟨_, _, rfl, rfl, _, rfl, ite2 (fun ho => ?_) (fun ho => ?_)⟩⟩
    · have ho : 0 < o := of_decide_eq_true ho
      refine ⟨_, rfl, ixl 0 (SqL.of hp) rfl (.inl ⟨_, rfl, _, rfl, _, _, rfl, rfl, by omega, ?_⟩)⟩
      refine ⟨_, rfl, ixl 0 (SqL.of hp) rfl ⟨_, rfl, _, _, rfl, rfl, ⟨hn, hn2⟩, ?_⟩⟩
      refine ⟨_, rfl, p, _, 0, 0, rfl, rfl, hp, rfl, ?_⟩
      refine ⟨_, rfl, ?_⟩
      obtain ⟨d, hd, hl⟩ := modN o hn
      show Q (.int (o % n)) _
      rw [hd]
      exact k d _ hl but_upd ⟨o / n, sd, c, upd_same, Int.ediv_nonneg h1 (by omega), h2, h3, h4, by omega⟩
    · have ho : ¬ 0 < o := fun z => ho (decide_eq_true z)
      -- the counter goes up
      refine ⟨_, rfl, ixl 2 (SqL.of hp) rfl ⟨_, _, rfl, rfl, _, rfl, p, _, 2, 2, rfl, rfl, hp, rfl, ?_⟩⟩
      refine stepH (fun H1 => H1 p = some (.lst (potL o sd (c + 1))) ∧ But p H H1) ⟨upd_same, but_upd⟩ ?_
      rintro H1 ⟨e1, b1⟩
      -- the prime
      refine nxt ?_
      refine seqA (fun v H2 => (∃ pr : Int, v = .int pr ∧ 0 < pr ∧ pr < 2147483648) ∧ H2 p = some (.lst (potL o sd (c + 1))) ∧ But p H H2) (fun Q k => ?_) ?_
      · refine ⟨by show 5 ≤ sizeLine; decide, fun l hl => ?_⟩
        refine ⟨_, rfl, ixl 2 (SqL.of (same_new hl _ _ e1)) rfl (.inl ⟨_, rfl, _, _, rfl, rfl, (show (0 : Int) < 5 by decide), ?_⟩)⟩
        obtain ⟨d, hd, hl5⟩ := modN (c + 1) (show (0 : Int) < 5 by decide)
        obtain ⟨pr, hpr, p0, p1⟩ := prime_at (show d < 5 by omega)
        show rIx K (.ref l) (.int ((c + 1) % 5)) _ Q
        rw [hd]
        exact ixl d (SqL.of upd_same) hpr (k _ _ ⟨⟨pr, rfl, p0, p1⟩, same_new hl _ _ e1, b1.trans (But.of (same_new hl))⟩)
      rintro _ H2 ⟨⟨pr, rfl, p0, p1⟩, e2, b2⟩
      -- stirred
      have z0 : 0 ≤ c + 1 := by omega
      have z1 : c + 1 ≤ 1000001 := by omega
      have k1 := mulOk (show (99989 : Int).natAbs < 2 ^ 64 by decide) (show (c + 1).natAbs < 2 ^ 64 by omega)
      have k2 := mulOk (show (99989 * (c + 1)).natAbs < 2 ^ 64 by omega) (show (c + 1).natAbs < 2 ^ 64 by omega)
      have k3 := pw_bound h2 h3 z0 z1
      refine seqA (fun v H3 => H2 = H3 ∧ ∃ s1 : Nat, v = .int (s1 : Int) ∧ (s1 : Int) < 2147483648) (fun Q k => ?_) ?_
      · refine ⟨_, rfl, ixl 1 (SqL.of e2) rfl ⟨_, rfl, ixl 2 (SqL.of e2) rfl ⟨_, _, rfl, rfl, k1, _, rfl, ixl 2 (SqL.of e2) rfl ⟨_, _, rfl, rfl, k2, ?_⟩⟩⟩⟩
        refine ⟨_, _, rfl, rfl, _, _, rfl, rfl, .inl ⟨_, rfl, _, _, rfl, rfl, ⟨by decide, 64, k3, by decide⟩, ?_⟩⟩
        refine .inl ⟨_, rfl, _, rfl, _, _, rfl, rfl, p0, ?_⟩
        obtain ⟨s1, hs1, l1⟩ := modN ((sd + 99989 * (c + 1) * (c + 1) + 71) ^ (3 : Int).toNat) p0
        exact k _ _ ⟨rfl, s1, congrArg V.int hs1, by omega⟩
      rintro _ _ ⟨rfl, s1, rfl, l1⟩
      -- stirred again
      refine seqA (fun v H3 => H2 = H3 ∧ ∃ s1 : Nat, v = .int (s1 : Int)) (fun Q k => ?_) ?_
      · obtain ⟨s2, hs2, l2⟩ := modN (s1 : Int) (show (0 : Int) < 10007 by decide)
        have k4 := mulOk (show (83 : Int).natAbs < 2 ^ 64 by decide) (show (c + 1).natAbs < 2 ^ 64 by omega)
        have k5 := mulOk (show (s1 : Int).natAbs < 2 ^ 64 by omega) (show ((s1 : Int) % 10007 + 83 * (c + 1)).natAbs < 2 ^ 64 by omega)
        refine ⟨_, rfl, _, rfl, .inl ⟨_, rfl, _, _, rfl, rfl, (show (0 : Int) < 10007 by decide), _, rfl, ixl 2 (SqL.of e2) rfl ⟨_, _, rfl, rfl, k4, _, _, rfl, rfl, ?_⟩⟩⟩
        refine ⟨_, _, rfl, rfl, k5, .inl ⟨_, rfl, _, _, rfl, rfl, (show (0 : Int) < 2305843009213693907 by decide), ?_⟩⟩
        obtain ⟨s3, hs3, l3⟩ := modN ((s1 : Int) * ((s1 : Int) % 10007 + 83 * (c + 1))) (show (0 : Int) < 2305843009213693907 by decide)
        exact k _ _ ⟨rfl, s3, congrArg V.int hs3⟩
      rintro _ _ ⟨rfl, s3, rfl⟩
      refine ⟨_, rfl, _, _, rfl, rfl, ⟨by decide, by decide⟩, .inl ⟨_, rfl, _, rfl, _, _, rfl, rfl, hn, ?_⟩⟩
      obtain ⟨s4, hs4, l4⟩ := modN ((s3 : Int) / 103) hn
      show Q (.int (((s3 : Int) / 103) % n)) _
      rw [hs4]
      exact k s4 _ l4 b2 ⟨o, sd, c + 1, e2, h1, h2, h3, z0, by omega⟩
end
end Toy
set_option Elab.async false
set_option linter.all false
set_option maxRecDepth 100000
set_option maxHeartbeats 4000000
namespace Toy
open PySem L2 Q
/-- a sequence that can be drawn from while the pot is at p: its items -/
def Items (K : PySem.W.Frag) (H : Hp) (p : Addr) (x : V) (xs : List V) : Prop :=
  (∃ a, x = .ref a ∧ a ≠ p ∧ SqL K H a xs) ∨ (∃ a, x = .ref a ∧ SqT K H a xs) ∨
    (∃ z : Str, x = .str z ∧ xs = z.cps.toList.map (fun c => V.str ⟨#[c]⟩) ∧ z.length ≤ sizeLine)
theorem seq_but {K : PySem.W.Frag} {p a : Addr} {H H' : Hp} {xs : List V} (b : But p H H') (n : a ≠ p) (h : SqL K H a xs) : SqL K H' a xs := by
  rcases h with (h | ⟨o, h⟩) | h
  · exact .inl (.inl (b _ _ n h))
  · exact .inl (.inr ⟨o, b _ _ n h⟩)
  · exact .inr h
theorem tup_but {K : PySem.W.Frag} {p a : Addr} {H H' : Hp} {xs : List V} (b : But p H H') {q : List V} (hp : H p = some (.lst q)) (h : SqT K H a xs) : SqT K H' a xs := by
  rcases h with (h | ⟨o, h⟩) | h
  · refine .inl (.inl (b _ _ ?_ h))
    rintro rfl
    rw [hp] at h
    cases h
  · refine .inl (.inr ⟨o, b _ _ ?_ h⟩)
    rintro rfl
    rw [hp] at h
    cases h
  · exact .inr h
/-- _law_of(pot, some): one of them -/
def spOf (K : PySem.W.Frag) : Sp := fun vs H Q _ => ∃ (p : Addr) (x : V) (xs : List V) (B : Nat), vs = [.ref p, x] ∧ Pot H p B ∧ B < 1000000 ∧
  Items K H p x xs ∧ 0 < xs.length ∧ xs.length < 1073741824 ∧
  ∀ (d : Nat) (v : V) (H' : Hp), xs[d]? = some v → But p H H' → Pot H' p (B + 1) → Q v H'
/-- _law_pot(script, k): a new pot -/
def spPot (K : PySem.W.Frag) : Sp := fun vs H Q _ => ∃ (a : Addr) (ns : List Int) (k : Nat), vs = [.ref a, .int (k : Int)] ∧ SqL K H a (ns.map V.int) ∧ k < 1000 ∧
  ns.length ≤ 63 ∧ ∀ (p : Addr) (H' : Hp), Same H H' → H p = none → Pot H' p 0 → Q (.ref p) H'
/-- _law_pots(script, n): some new pots, each by itself -/
def spPots (K : PySem.W.Frag) : Sp := fun vs H Q _ => ∃ (a : Addr) (ns : List Int) (n : Nat), vs = [.ref a, .int (n : Int)] ∧ SqL K H a (ns.map V.int) ∧ n < 1000 ∧
  ns.length ≤ 63 ∧ ∀ (l : Addr) (ps : List Addr) (H' : Hp), Same H H' → H' l = some (.lst (ps.map V.ref)) → ps.length ≤ 1000 → ps.Nodup → l ∉ ps →
    (∀ p ∈ ps, Pot H' p 0) → Q (.ref l) H'
theorem b01 (b : Bool) : (if b = true then (1 : Int) else 0).natAbs < 2 ^ 4 ∧ (0 : Int) ≤ (if b = true then (1 : Int) else 0) := by
  cases b <;> decide
theorem two60 : (10 : Int) ^ (60 : Int).toNat = 10 ^ 60 := by decide
theorem big_nn : (0 : Int) < ((10 : Int) ^ (60 : Int).toNat) ^ (5 : Int).toNat := by decide +kernel
theorem big_lt {x : Int} (h : x < ((10 : Int) ^ (60 : Int).toNat) ^ (5 : Int).toNat) (h0 : 0 ≤ x) : x.natAbs < 2 ^ 1000 := by
  have e : ((10 : Int) ^ (60 : Int).toNat) ^ (5 : Int).toNat < 2 ^ 1000 := by decide +kernel
  omega
section
variable {P : Program} {w : World} {K : PySem.W.Frag} {mg : Str → Option Value} {base : Heap} {ca ia fa : Nat → Addr} {fd fi : Nat → FuncData}
theorem ok_of (T : Txt K mg ca ia fa fd fi) : FnOk P w K mg base CX0 2 (fa 29) (fd 29) ["_law_pot_here", "_law_some"] (spOf K) := by
  have G_l_take := ok_take (P := P) (w := w) (base := base) T
  refine T.F_l_of.ok sc_l_of (fun vs H Q E h => ?_) (fun cdv A outer s H vs Q E hr h => ?_)
  · obtain ⟨p, x, xs, B, rfl, _⟩ := h
    rfl
  · obtain ⟨p, x, xs, B, rfl, hp, hB, hx, h0, h1, k⟩ := h
    obtain ⟨o, sd, c, hpp, _⟩ := id hp
    refine ⟨_, (pss_one (ps_ret (pe_ix ix_seq (pv 1) (pe_call G_l_take (hr.mono (by decide)) rfl T.g_l_take T.k_l_take T.b_l_take .nil pass0 (pa_cons (pv 0) (pa_cons (pe_callB call_len (by rfl) T.n_len (by decide +kernel) (pa_cons (pv 1) pa_nil)) pa_nil))) (fun _ _ => rfl)))), ?_⟩
    have lenV : LenV K x H xs.length := by
      rcases hx with ⟨a, rfl, _, h⟩ | ⟨a, rfl, h⟩ | ⟨z, rfl, e, hz⟩
      · exact .inl ⟨xs, h, rfl⟩
      · exact .inr ⟨xs, h, rfl⟩
      · refine ⟨hz, ?_⟩
        rw [e, List.length_map]
        rfl
    refine ⟨_, rfl, _, rfl, _, rfl, _, _, rfl, lenV, p, _, B, rfl, hp, by omega, by omega, hB, fun d H' hd hb hp' => ?_⟩
    obtain ⟨v, hv⟩ : ∃ v, xs[d]? = some v := ⟨_, List.getElem?_eq_getElem (show d < xs.length by omega)⟩
    have fin := k d v H' hv hb hp'
    rcases hx with ⟨a, rfl, ne, h⟩ | ⟨a, rfl, h⟩ | ⟨z, rfl, e, hz⟩
    · exact .inl ⟨a, xs, d, v, rfl, rfl, seq_but hb ne h, atI_nat hv, fin⟩
    · exact .inr (.inl ⟨a, xs, d, v, rfl, rfl, tup_but hb hpp h, atI_nat hv, fin⟩)
    · rw [e, List.getElem?_map] at hv
      obtain ⟨c', hc, rfl⟩ := Option.map_eq_some_iff.mp hv
      exact .inr (.inr ⟨z, d, c', rfl, rfl, hz, atI_nat hc, fin⟩)
theorem int_id {i : Int} {H : Hp} {Q : VK} (q : Q (.int i) H) : (∃ j, ([V.int i] : List V) = [V.int j] ∧ Q (.int j) H) ∨ (∃ k, ([V.int i] : List V) = [V.bl k] ∧ Q (.int (if k then 1 else 0)) H) := .inl ⟨i, rfl, q⟩
theorem ok_pot (T : Txt K mg ca ia fa fd fi) : FnOk P w K mg base CX0 1 (fa 26) (fd 26) ["_law_script", "_law_k"] (spPot K) := by
  refine T.F_l_pot.ok sc_l_pot (fun vs H Q E h => ?_) (fun cdv A outer s H vs Q E hr h => ?_)
  · obtain ⟨a, ns, k, rfl, _⟩ := h
    rfl
  · obtain ⟨a, ns, k, rfl, hs, hk, hn, q⟩ := h
    refine ⟨_, (pss_cons (ps_set (i := 2) sc_l_pot.nd rfl (Or.inl rfl) (pe_ifExp (pt_cmpR op_lt (pv 1) (pe_callB call_len (by rfl) T.n_len (by decide +kernel) (pa_cons (pv 0) pa_nil)) (nomark _)) (pe_ix ix_seq (pv 0) (pv 1) (fun _ _ => rfl)) (pe_op op_add (pe_op op_mulW pe_int (pv 1)) pe_int)))
      (pss_cons (ps_set (i := 3) sc_l_pot.nd rfl (Or.inl rfl) (pe_op op_mulW (pe_op op_mod (pe_callTy call_int1 (by rfl) T.n_int (by decide +kernel) (pa_cons (pe_callB call_abs (by rfl) T.n_abs (by decide +kernel) (pa_cons (pv 2) pa_nil)) pa_nil)) (pe_op op_pw (pe_op op_pw pe_int pe_int) pe_int)) (pe_callTy call_int1 (by rfl) T.n_int (by decide +kernel) (pa_cons (pe_cmpR op_ge (pe_callB call_abs (by rfl) T.n_abs (by decide +kernel) (pa_cons (pv 2) pa_nil)) (pe_op op_pw pe_int pe_int) (nomark _)) pa_nil))))
      (pss_one (ps_ret (pe_lst (pa_cons (pv 3) (pa_cons (pe_op op_mod (pe_callTy call_int1 (by rfl) T.n_int (by decide +kernel) (pa_cons (pe_op op_add (pe_op op_add (pe_op op_mulW (pe_op op_mod (pe_callTy call_int1 (by rfl) T.n_int (by decide +kernel) (pa_cons (pv 2) pa_nil)) pe_int) pe_int) (pe_op op_mulW (pe_op op_mulW pe_int (pv 1)) (pv 1))) pe_int) pa_nil)) pe_int) (pa_cons pe_int pa_nil)))))))), ?_⟩
    refine seqS (fun v H' => H = H' ∧ ∃ z : Int, v = .int z) (fun Q k' => ?_) ?_
    · refine ⟨_, rfl, _, rfl, _, _, rfl, .inl ⟨_, hs, rfl⟩, _, _, rfl, rfl, _, rfl, ite2 (fun h => ?_) (fun _ => ?_)⟩
      · have h : (k : Int) < ((ns.map V.int).length : Nat) := of_decide_eq_true h
        rw [List.length_map] at h
        have hz : (ns.map V.int)[k]? = some (.int (ns[k]'(by omega))) := by
          rw [List.getElem?_map, List.getElem?_eq_getElem (by omega)]
          rfl
        exact ⟨_, rfl, _, rfl, ixl k hs hz (k' _ _ ⟨rfl, _, rfl⟩)⟩
      · refine ⟨_, rfl, _, _, rfl, rfl, mulOk (by decide) (by omega), _, _, rfl, rfl, ?_⟩
        exact k' _ _ ⟨rfl, _, rfl⟩
    rintro _ _ ⟨rfl, z, rfl⟩
    have pw1 : CPw 10 60 := ⟨by decide, 4, by decide, by decide⟩
    have pw2 : CPw ((10 : Int) ^ (60 : Int).toNat) 5 := ⟨by decide, 200, by decide +kernel, by decide⟩
    have pw3 : CPw 10 18 := ⟨by decide, 4, by decide, by decide⟩
    refine seqS (fun v H' => H = H' ∧ ∃ z : Int, v = .int z ∧ 0 ≤ z) (fun Q k' => ?_) ?_
    · refine ⟨_, rfl, _, rfl, .inl ⟨_, rfl, _, _, rfl, rfl, pw1, _, _, rfl, rfl, pw2, _, _, rfl, rfl, big_nn, ?_⟩⟩
      obtain ⟨d, hd, hl⟩ := modN (if z < 0 then -z else z) big_nn
      refine ⟨_, rfl, _, rfl, _, _, rfl, rfl, pw3, _, _, rfl, rfl, .inr ⟨_, rfl, ?_⟩⟩
      have ⟨h2, h3⟩ := b01 (decide ((10 : Int) ^ (18 : Int).toNat ≤ if z < 0 then -z else z))
      refine ⟨_, _, rfl, rfl, ?_, ?_⟩
      · show CMulW ((if z < 0 then -z else z) % _) _
        rw [hd]
        exact wide_mul (big_lt hl (by omega)) h2 (by decide) (by decide) (by decide)
      · refine k' _ _ ⟨rfl, _, rfl, ?_⟩
        show 0 ≤ ((if z < 0 then -z else z) % _) * _
        rw [hd]
        exact Int.mul_nonneg (by omega) h3
    rintro _ _ ⟨rfl, own, rfl, hown⟩
    have hp61 : (0 : Int) < 2305843009213693951 := by decide
    obtain ⟨d, hd, hl⟩ := modN z hp61
    have m1 : CMulW (z % 2305843009213693951) 69389 := by
      rw [hd]
      exact mulOk (by omega) (by decide)
    have m2 : CMulW 7561 (k : Int) := mulOk (by decide) (by omega)
    have m3 : CMulW (7561 * (k : Int)) (k : Int) := mulOk (by omega) (by omega)
    refine ⟨_, rfl, _, rfl, .inl ⟨_, rfl, _, _, rfl, rfl, hp61, _, _, rfl, rfl, m1, _, rfl, _, _, rfl, rfl, m2, _, rfl, _, _, rfl, rfl, m3, ?_⟩⟩
    refine ⟨_, _, rfl, rfl, _, _, rfl, rfl, .inl ⟨_, rfl, _, _, rfl, rfl, (show (0 : Int) < 2305843009213693921 by decide), ?_⟩⟩
    refine ⟨by show 3 ≤ sizeLine; decide, fun p hp => ?_⟩
    obtain ⟨d2, hd2, hl2⟩ := modN (z % 2305843009213693951 * 69389 + 7561 * (k : Int) * (k : Int) + 83) (show (0 : Int) < 2305843009213693921 by decide)
    refine q p _ (same_new hp) hp ⟨own, (d2 : Int), 0, ?_, hown, by omega, by omega, by decide, by decide⟩
    rw [← hd2]
    exact upd_same
end
end Toy
set_option Elab.async false
set_option linter.all false
set_option maxRecDepth 100000
set_option maxHeartbeats 4000000
namespace Toy
open PySem L2 Q
section
variable {P : Program} {w : World} {K : PySem.W.Frag} {mg : Str → Option Value} {base : Heap} {ca ia fa : Nat → Addr} {fd fi : Nat → FuncData}
theorem ok_pots (T : Txt K mg ca ia fa fd fi) : FnOk P w K mg base CX0 2 (fa 28) (fd 28) ["_law_script", "_law_most"] (spPots K) := by
  have G_l_pot := ok_pot (P := P) (w := w) (base := base) T
  refine T.F_l_pots.ok sc_l_pots (fun vs H Q E h => ?_) (fun cdv A outer s H vs Q E hr h => ?_)
  · obtain ⟨a, ns, n, rfl, _⟩ := h
    rfl
  · obtain ⟨a, ns, n, rfl, hs, hn, hl, q⟩ := h
    refine ⟨_, (pss_one (ps_ret (pe_lc (own := [("_law_k", 2)]) (g := (gName 2)) (tt := tYes) rfl sc_l_pots.nd (pi_range1 rfl T.n_range (pa_cons (pe_callB (call_max2 rfl) (by rfl) T.n_max (by decide +kernel) (pa_cons pe_int (pa_cons (pe_callB (call_min2 rfl) (by rfl) T.n_min (by decide +kernel) (pa_cons (pe_callTy call_int1 (by rfl) T.n_int (by decide +kernel) (pa_cons (pv 1) pa_nil)) (pa_cons (pe_callB call_len (by rfl) T.n_len (by decide +kernel) (pa_cons (pv 0) pa_nil)) pa_nil))) pa_nil))) pa_nil)) (blkOk_by (own := [("_law_k", 2)]) (N := N_l_pots) (sc := defScope s_l_pots) (by decide +kernel)) (fun _ _ _ _ _ => (pg_name (i := 2) sc_l_pots.nd rfl (Or.inl rfl))) (fun _ _ _ _ _ => pts_nil) (fun _ _ _ _ _ => by exact (pe_call G_l_pot (hr.mono (by decide)) rfl T.g_l_pot T.k_l_pot T.b_l_pot .nil pass0 (pa_cons (pv 0) (pa_cons (pv 2) pa_nil))))))), ?_⟩
    refine ⟨_, rfl, .inl ⟨_, rfl, _, rfl, _, _, rfl, .inl ⟨_, hs, rfl⟩, _, _, rfl, _, _, rfl, ?_⟩⟩
    obtain ⟨m, hm, hm2⟩ : ∃ m : Nat, (if (if ((ns.map V.int).length : Int) < (n : Int) then ((ns.map V.int).length : Int) else (n : Int)) > 1
        then (if ((ns.map V.int).length : Int) < (n : Int) then ((ns.map V.int).length : Int) else (n : Int)) else 1) = (m : Int) ∧ m ≤ 1000 := by
      refine ⟨((if (if ((ns.map V.int).length : Int) < (n : Int) then ((ns.map V.int).length : Int) else (n : Int)) > 1
        then (if ((ns.map V.int).length : Int) < (n : Int) then ((ns.map V.int).length : Int) else (n : Int)) else 1)).toNat, ?_, ?_⟩ <;> repeat' split <;> omega
    rw [hm]
    refine ⟨_, rfl, by omega, by omega, fun D hD => ?_⟩
    refine lc_range (lo := 0) (n := (m : Int).toNat) (fun i H' => ∃ ps : List Addr, ps.length = i ∧ H' D = some (.lst (ps.map V.ref)) ∧ Same H H' ∧ ps.Nodup ∧ D ∉ ps ∧ ∀ p ∈ ps, Pot H' p 0)
      ⟨[], rfl, upd_same, same_new hD, List.nodup_nil, List.not_mem_nil, fun _ z => nomatch z⟩ ?_ ?_
    · rintro i H1 hi ⟨ps, hlen, h1, s1, nd, nD, hp⟩
      refine ⟨rfl, ?_⟩
      dsimp only [tYes]
      rw [if_pos rfl]
      refine ⟨_, rfl, _, rfl, a, ns, i, by rw [Int.zero_add] <;> rfl, s1.seq hs, by omega, hl, fun p H2 s2 np hpot => ?_⟩
      have npD : p ≠ D := fun z => by rw [z, h1] at np; cases np
      have s3 : ∀ {o}, ∀ b u, b ≠ D → H2 b = some u → upd H2 D o b = some u := fun b u n e => by rw [upd_ne n]; exact e
      refine ⟨_, s2 _ _ h1, ?_, ps ++ [p], by simp [hlen], ?_, ?_, ?_, ?_, ?_⟩
      · rw [List.length_map]
        exact small1000 (by omega)
      · rw [upd_same, List.map_append]
        rfl
      · intro b u e
        exact s3 b u (ne_of_none e hD) (s2 _ _ (s1 _ _ e))
      · refine List.nodup_append.mpr ⟨nd, by simp, ?_⟩
        intro x hx y hy e
        have e2 : y = p := by simpa using hy
        subst e2
        obtain ⟨_, _, _, z, _⟩ := hp x hx
        rw [e, np] at z
        cases z
      · intro z
        rcases List.mem_append.mp z with z | z
        · exact nD z
        · exact npD (by simpa using z : D = p).symm
      · intro x hx
        have nx : x ≠ D := by
          rcases List.mem_append.mp hx with z | z
          · rintro rfl
            exact nD z
          · have e2 : x = p := by simpa using z
            rw [e2]
            exact npD
        have px : Pot H2 x 0 := by
          rcases List.mem_append.mp hx with z | z
          · exact (hp x z).same s2
          · have e2 : x = p := by simpa using z
            rw [e2]
            exact hpot
        obtain ⟨o, sd, c, e, r⟩ := px
        exact ⟨o, sd, c, s3 _ _ nx e, r⟩
    · rintro H1 ⟨ps, hlen, h1, s1, nd, nD, hp⟩
      exact q D ps H1 s1 h1 (by omega) nd nD hp
end
end Toy
set_option Elab.async false
set_option linter.all false
set_option maxRecDepth 100000
set_option maxHeartbeats 4000000
namespace Toy
open PySem L2 Q
/-- _law_turned(pot, xs): the items, turned about, in a new list -/
def spTurned (K : PySem.W.Frag) : Sp := fun vs H Q _ => ∃ (p a : Addr) (xs : List V) (B : Nat), vs = [.ref p, .ref a] ∧ Pot H p B ∧ B < 999990 ∧ a ≠ p ∧
  SqL K H a xs ∧ 0 < xs.length ∧ xs.length < 1000000 ∧
  ∀ (ys : List V) (q : Addr) (H' : Hp), ys.Perm xs → But p H H' → Pot H' p (B + 2) → H q = none → H' q = some (.lst ys) → Q (.ref q) H'
/-- _law_far(pot): a length from 1 to 90 -/
def spFar (K : PySem.W.Frag) : Sp := fun vs H Q _ => ∃ (p : Addr) (B : Nat), vs = [.ref p] ∧ Pot H p B ∧ B < 999990 ∧
  ∀ (n : Nat) (H' : Hp), 1 ≤ n → n ≤ 90 → But p H H' → Pot H' p (B + 3) → Q (.int (n : Int)) H'
theorem cut_drop (xs : List V) (d : Nat) : cutV xs (some (d : Int)) none = xs.drop d := by
  unfold cutV
  rw [HT.sIx_nat, HT.sIx_none, List.take_of_length_le (by rw [List.length_drop]; omega)]
  rcases Nat.le_total d xs.length with h | h
  · rw [Nat.min_eq_left h]
  · rw [Nat.min_eq_right h, List.drop_eq_nil_of_le (Nat.le_refl _), List.drop_eq_nil_of_le h]
theorem cut_take (xs : List V) (d : Nat) : cutV xs none (some (d : Int)) = xs.take d := by
  unfold cutV
  rw [HT.sIx_nat, HT.sIx_none, List.drop_zero, Nat.sub_zero]
  rcases Nat.le_total d xs.length with h | h
  · rw [Nat.min_eq_left h]
  · rw [Nat.min_eq_right h, List.take_of_length_le (Nat.le_refl _), List.take_of_length_le h]
theorem rot_perm (xs : List V) (d : Nat) : (xs.drop d ++ xs.take d).Perm xs := by
  have h : (xs.drop d ++ xs.take d).Perm (xs.take d ++ xs.drop d) := List.perm_append_comm
  rw [List.take_append_drop] at h
  exact h
theorem pot_none {H : Hp} {p q : Addr} {B : Nat} (h : Pot H p B) (n : H q = none) : q ≠ p := by
  rintro rfl
  obtain ⟨o, s, c, e, _⟩ := h
  rw [e] at n
  cases n
theorem but_none {H H' : Hp} {p q : Addr} {B : Nat} (b : But p H H') (h : Pot H' p B) (n : H' q = none) : H q = none := by
  cases e : H q with
  | none => rfl
  | some o =>
    rw [b q o (pot_none h n) e] at n
    cases n
theorem pot_but {H H' : Hp} {p a : Addr} {o : HO} (n : H a = none) (h : ∃ B, Pot H p B) (b : But p (upd H a o) H') : H' a = some o := by
  obtain ⟨B, h⟩ := h
  exact b _ _ (pot_none h n) upd_same
section
variable {P : Program} {w : World} {K : PySem.W.Frag} {mg : Str → Option Value} {base : Heap} {ca ia fa : Nat → Addr} {fd fi : Nat → FuncData}
theorem ok_turned (T : Txt K mg ca ia fa fd fi) : FnOk P w K mg base CX0 2 (fa 30) (fd 30) ["_law_pot_here", "_law_some"] (spTurned K) := by
  have G_l_take := ok_take (P := P) (w := w) (base := base) T
  refine T.F_l_turned.ok sc_l_turned (fun vs H Q E h => ?_) (fun cdv A outer s H vs Q E hr h => ?_)
  · obtain ⟨p, a, xs, B, rfl, _⟩ := h
    rfl
  · obtain ⟨p, a, xs, B, rfl, hp, hB, nap, hx, h0, h1, k⟩ := h
    refine ⟨_, (pss_cons (ps_set (i := 2) sc_l_turned.nd rfl (Or.inl rfl) (pe_call G_l_take (hr.mono (by decide)) rfl T.g_l_take T.k_l_take T.b_l_take .nil pass0 (pa_cons (pv 0) (pa_cons (pe_callB call_len (by rfl) T.n_len (by decide +kernel) (pa_cons (pv 1) pa_nil)) pa_nil))))
      (pss_cons (ps_set (i := 3) sc_l_turned.nd rfl (Or.inl rfl) (pe_op op_cat (pe_slice sl_list (pv 1) (po_some (pv 2)) po_none) (pe_slice sl_list (pv 1) po_none (po_some (pv 2)))))
      (pss_one (ps_ret (pe_ifExp (pt_cmpR op_eq (pe_call G_l_take (hr.mono (by decide)) rfl T.g_l_take T.k_l_take T.b_l_take .nil pass0 (pa_cons (pv 0) (pa_cons pe_int pa_nil))) pe_int (nomark _)) (pe_revL (pv 3)) (pv 3)))))), ?_⟩
    refine seqS (fun v H' => ∃ d : Nat, v = .int (d : Int) ∧ But p H H' ∧ Pot H' p (B + 1)) (fun Q k' => ?_) ?_
    · refine ⟨_, rfl, _, rfl, _, _, rfl, .inl ⟨xs, hx, rfl⟩, p, _, B, rfl, hp, by omega, by omega, by omega, fun d H' hd hb hp' => k' _ _ ⟨d, rfl, hb, hp'⟩⟩
    rintro _ H1 ⟨d, rfl, b1, p1⟩
    have hx1 := seq_but b1 nap hx
    refine seqS (fun v H' => ∃ q, v = .ref q ∧ Same H1 H' ∧ H1 q = none ∧ H' q = some (.lst (xs.drop d ++ xs.take d))) (fun Q k' => ?_) ?_
    · refine ⟨_, rfl, _, rfl, _, rfl, a, xs, rfl, hx1, fun l1 n1 => ?_⟩
      refine ⟨_, rfl, _, rfl, _, rfl, a, xs, rfl, (same_new n1).seq hx1, fun l2 n2 => ?_⟩
      have e1 := cut_drop xs d
      have e2 := cut_take xs d
      refine ⟨l1, l2, xs.drop d, xs.take d, rfl, rfl, ?_, ?_, ?_, fun q nq => k' _ _ ⟨q, rfl, ?_, ?_, upd_same⟩⟩
      · rw [same_new n2 _ _ upd_same, e1]
      · rw [upd_same, e2]
      · rw [List.length_drop, List.length_take, sizeLine_eq]
        omega
      · exact ((same_new n1).trans (same_new n2)).trans (same_new nq)
      · cases e : H1 q with
        | none => rfl
        | some o =>
          rw [((same_new n1).trans (same_new n2)) _ _ e] at nq
          cases nq
    rintro _ H2 ⟨q, rfl, s2, nq, hq⟩
    have p2 := p1.same s2
    have nqp : q ≠ p := pot_none p1 nq
    have nH : H q = none := but_none b1 p1 nq
    refine ⟨_, rfl, p, 2, B + 1, rfl, p2, by decide, by decide, by omega, fun d2 H3 hd2 b3 p3 => ?_⟩
    have h3 : H3 q = some (.lst (xs.drop d ++ xs.take d)) := b3 _ _ nqp hq
    have b13 : But p H H3 := (b1.trans (But.of s2)).trans b3
    refine ⟨rfl, _, rfl, ite2 (fun _ => ?_) (fun _ => ?_)⟩
    · refine ⟨_, rfl, q, _, rfl, SqL.of h3, fun r nr => ?_⟩
      exact k _ r _ ((List.reverse_perm _).trans (rot_perm xs d)) (b13.trans (But.of (same_new nr))) (p3.same (same_new nr)) (but_none b13 p3 nr) upd_same
    · exact ⟨_, rfl, k _ q _ (rot_perm xs d) b13 p3 nH h3⟩
theorem ok_far (T : Txt K mg ca ia fa fd fi) : FnOk P w K mg base CX0 3 (fa 32) (fd 32) ["_law_pot_here"] (spFar K) := by
  have G_l_take := ok_take (P := P) (w := w) (base := base) T
  have G_l_of := ok_of (P := P) (w := w) (base := base) T
  refine T.F_l_far.ok sc_l_far (fun vs H Q E h => ?_) (fun cdv A outer s H vs Q E hr h => ?_)
  · obtain ⟨p, B, rfl, _⟩ := h
    rfl
  · obtain ⟨p, B, rfl, hp, hB, k⟩ := h
    refine ⟨_, (pss_one (ps_ret (pe_call G_l_of (hr.mono (by decide)) rfl T.g_l_of T.k_l_of T.b_l_of .nil pass0 (pa_cons (pv 0) (pa_cons (pe_lst (pa_cons pe_int (pa_cons pe_int (pa_cons pe_int (pa_cons pe_int (pa_cons pe_int (pa_cons pe_int (pa_cons pe_int (pa_cons pe_int (pa_cons pe_int (pa_cons pe_int (pa_cons (pe_op op_add pe_int (pe_call G_l_take (hr.mono (by decide)) rfl T.g_l_take T.k_l_take T.b_l_take .nil pass0 (pa_cons (pv 0) (pa_cons pe_int pa_nil)))) (pa_cons (pe_op op_add pe_int (pe_call G_l_take (hr.mono (by decide)) rfl T.g_l_take T.k_l_take T.b_l_take .nil pass0 (pa_cons (pv 0) (pa_cons pe_int pa_nil)))) pa_nil))))))))))))) pa_nil))))), ?_⟩
    refine ⟨_, rfl, ?_⟩
    refine ⟨_, rfl, p, 12, B, rfl, hp, by decide, by decide, by omega, fun d1 H1 hd1 b1 p1 => ?_⟩
    refine ⟨_, _, rfl, rfl, _, rfl, p, 90, B + 1, rfl, p1, by decide, by decide, by omega, fun d2 H2 hd2 b2 p2 => ?_⟩
    refine ⟨_, _, rfl, rfl, by show 12 ≤ sizeLine; decide, fun l nl => ?_⟩
    have b12 := b1.trans b2
    have nlp : l ≠ p := pot_none p2 nl
    refine ⟨p, .ref l, _, B + 2, rfl, p2.same (same_new nl), by omega, .inl ⟨l, rfl, nlp, SqL.of upd_same⟩, by show 0 < 12; decide, by show 12 < 1073741824; decide, fun d v H3 hv b3 p3 => ?_⟩
    have b13 := (b12.trans (But.of (same_new nl))).trans b3
    have out : ∃ n : Nat, v = .int (n : Int) ∧ 1 ≤ n ∧ n ≤ 90 := by
      match d, hv with
      | 0, hv => cases hv; exact ⟨1, rfl, by decide, by decide⟩
      | 1, hv => cases hv; exact ⟨1, rfl, by decide, by decide⟩
      | 2, hv => cases hv; exact ⟨2, rfl, by decide, by decide⟩
      | 3, hv => cases hv; exact ⟨2, rfl, by decide, by decide⟩
      | 4, hv => cases hv; exact ⟨3, rfl, by decide, by decide⟩
      | 5, hv => cases hv; exact ⟨1, rfl, by decide, by decide⟩
      | 6, hv => cases hv; exact ⟨4, rfl, by decide, by decide⟩
      | 7, hv => cases hv; exact ⟨2, rfl, by decide, by decide⟩
      | 8, hv => cases hv; exact ⟨5, rfl, by decide, by decide⟩
      | 9, hv => cases hv; exact ⟨3, rfl, by decide, by decide⟩
      | 10, hv =>
        cases hv
        exact ⟨1 + d1, by simp, by omega, by omega⟩
      | 11, hv =>
        cases hv
        exact ⟨1 + d2, by simp, by omega, by omega⟩
      | d + 12, hv => cases hv
    obtain ⟨n, rfl, n1, n2⟩ := out
    exact k n H3 n1 n2 b13 p3
end
end Toy
set_option Elab.async false
set_option linter.all false
set_option maxRecDepth 100000
set_option maxHeartbeats 4000000
namespace Toy
open PySem L2 Q
abbrev Low (z : Str) : Prop := ∀ c ∈ z.cps.toList, 97 ≤ c ∧ c ≤ 122
abbrev small : Str := Str.ofString "abcdefghijklmnopqrstuvwxyz"
/-- a right name -/
abbrev NameOk (z : Str) : Prop := 1 ≤ z.length ∧ z.length ≤ 8 ∧ Low z
theorem small_at {j : Nat} (h : j < 26) : small.cps.toList[j]? = some (97 + j) := by
  have all : ∀ j : Fin 26, small.cps.toList[j.val]? = some (97 + j.val) := by decide +kernel
  exact all ⟨j, h⟩
theorem small_len : small.cps.toList.length = 26 := by decide +kernel
theorem roomU {k : Nat} {A : Around} (h : Room k A) : A.units + 2 < cLine := by
  have q := h.units
  omega
theorem len_list (z : Str) : z.length = z.cps.toList.length := rfl
theorem joinL_nil : ∀ ls : List (List Nat), TL.joinL [] ls = ls.flatten
  | [] => rfl
  | [p] => by simp [TL.joinL]
  | p :: q :: r => by
    rw [TL.joinL, joinL_nil (q :: r), List.flatten_cons (L := q :: r), List.nil_append]
theorem join_cps (ys : List Str) : (Txt.join (Str.ofString "") ys).cps.toList = (ys.map (·.cps.toList)).flatten := by
  rw [TL.join_eq]
  have e := TL.tl_join (Str.ofString "") ys
  have e0 : TL.tl (Str.ofString "") = [] := by decide +kernel
  rw [e0, joinL_nil] at e
  exact e
theorem flat_low : ∀ {ys : List Str}, (∀ y ∈ ys, y.length = 1 ∧ Low y) → (ys.map (·.cps.toList)).flatten.length = ys.length ∧ (∀ c ∈ (ys.map (·.cps.toList)).flatten, 97 ≤ c ∧ c ≤ 122) ∧
    (ys.map (·.length)).sum = ys.length
  | [], _ => ⟨rfl, fun _ h => (by cases h), rfl⟩
  | y :: ys, h => by
    obtain ⟨h1, h2⟩ := h y List.mem_cons_self
    obtain ⟨q1, q2, q3⟩ := flat_low fun z hz => h z (List.mem_cons_of_mem _ hz)
    rw [len_list] at h1
    refine ⟨?_, ?_, ?_⟩
    · rw [List.map_cons, List.flatten_cons, List.length_append, h1, q1, List.length_cons]
      omega
    · intro c hc
      rw [List.map_cons, List.flatten_cons, List.mem_append] at hc
      exact hc.elim (h2 c) (q2 c)
    · rw [List.map_cons, List.sum_cons, q3, len_list, h1, List.length_cons]
      omega
abbrev rPlus : R2 := fun x y H Q => ∃ i j, x = .str i ∧ y = .str j ∧ i.length + j.length ≤ sizeLine ∧ Q (.str (i ++ j)) H
abbrev rInt1 : List V → Hp → VK → Prop := fun xs H Q => (∃ i, xs = [.int i] ∧ Q (.int i) H) ∨ ∃ k, xs = [.bl k] ∧ Q (.int (if k then 1 else 0)) H
abbrev tName (K : PySem.W.Frag) : TE :=
  tOp rPlus (tOp rPlus (tSl rSlS (tVar 3) tNoPart (tPart (tVar 5))) (tOp (rIx K) (tVar 2) (tOp (rI (fun _ j => 0 < j) fun i j => .int (i % j))
    (tCB rInt1 (tCons (tOp (rI0 fun i j => .int (i + j)) (tVar 6) (tOp (rI CMulW fun i j => .int (i * j)) (tC (.int 5)) (tVar 8))) tNil)) (tC (.int 26)))))
    (tSl rSlS (tVar 3) (tPart (tVar 5)) tNoPart)
/-- the k-th name: a letter put into the stem -/
def nameL (z : Str) (sp a k : Nat) : List Nat := z.cps.toList.take sp ++ (97 + (a + 5 * k) % 26) :: z.cps.toList.drop sp
def nameS (z : Str) (sp a k : Nat) : Str := ⟨(nameL z sp a k).toArray⟩
theorem cutS_take (z : Str) (d : Nat) : (cutS z none (some (d : Int))).cps.toList = z.cps.toList.take d := by
  unfold cutS
  rw [HT.sIx_nat, HT.sIx_none, List.toList_toArray, List.drop_zero, Nat.sub_zero]
  rcases Nat.le_total d z.length with h | h
  · rw [Nat.min_eq_left h]
  · rw [Nat.min_eq_right h]
    show z.cps.toList.take z.cps.toList.length = _
    rw [List.take_length, List.take_of_length_le h]
theorem cutS_drop (z : Str) (d : Nat) : (cutS z (some (d : Int)) none).cps.toList = z.cps.toList.drop d := by
  unfold cutS
  rw [HT.sIx_nat, HT.sIx_none, List.toList_toArray, List.take_of_length_le (by rw [List.length_drop]; exact Nat.le_refl _)]
  rcases Nat.le_total d z.length with h | h
  · rw [Nat.min_eq_left h]
  · rw [Nat.min_eq_right h]
    show z.cps.toList.drop z.cps.toList.length = _
    rw [List.drop_length, List.drop_eq_nil_of_le h]
theorem name_eq (z : Str) (sp a k : Nat) : cutS z none (some (sp : Int)) ++ (⟨#[97 + (a + 5 * k) % 26]⟩ : Str) ++ cutS z (some (sp : Int)) none = nameS z sp a k := by
  apply Q.str_ext
  have e := TL.tl_append (cutS z none (some (sp : Int)) ++ (⟨#[97 + (a + 5 * k) % 26]⟩ : Str)) (cutS z (some (sp : Int)) none)
  have e2 := TL.tl_append (cutS z none (some (sp : Int))) (⟨#[97 + (a + 5 * k) % 26]⟩ : Str)
  refine Eq.trans e ?_
  rw [e2]
  show (cutS z none (some (sp : Int))).cps.toList ++ [97 + (a + 5 * k) % 26] ++ (cutS z (some (sp : Int)) none).cps.toList = nameL z sp a k
  rw [cutS_take, cutS_drop, List.append_assoc]
  rfl
theorem name_inj {z : Str} {sp a k l : Nat} (hk : k < 26) (hl : l < 26) (e : nameS z sp a k = nameS z sp a l) : k = l := by
  have e1 : nameL z sp a k = nameL z sp a l := by
    have q := congrArg (fun s : Str => s.cps.toList) e
    exact q
  unfold nameL at e1
  have e2 := List.append_cancel_left e1
  injection e2 with e3 _
  omega
theorem name_ok {z : Str} {sp a k : Nat} (hz : z.length ≤ 7) (low : Low z) : NameOk (nameS z sp a k) := by
  have hl : (nameS z sp a k).length = z.length + 1 := by
    show (nameL z sp a k).length = _
    unfold nameL
    rw [List.length_append, List.length_cons, List.length_take, List.length_drop, len_list]
    omega
  refine ⟨by omega, by omega, fun c hc => ?_⟩
  have hc : c ∈ nameL z sp a k := hc
  unfold nameL at hc
  rcases List.mem_append.mp hc with h | h
  · exact low c (List.mem_of_mem_take h)
  · rcases List.mem_cons.mp h with h | h
    · have : (a + 5 * k) % 26 < 26 := Nat.mod_lt _ (by decide)
      omega
    · exact low c (List.mem_of_mem_drop h)
/-- _law_names(pot, n): n unlike right names in their order -/
def spNames (K : PySem.W.Frag) : Sp := fun vs H Q _ => ∃ (p : Addr) (n B : Nat), vs = [.ref p, .int (n : Int)] ∧ Pot H p B ∧ B < 999900 ∧ n ≤ 26 ∧
  ∀ (zs : List Str) (q : Addr) (H' : Hp), zs.length = n → zs.Pairwise tLt → (∀ z ∈ zs, NameOk z) → But p H H' → Pot H' p (B + 20) → H q = none → H' q = some (.lst (zs.map V.str)) → Q (.ref q) H'
section
variable {P : Program} {w : World} {K : PySem.W.Frag} {mg : Str → Option Value} {base : Heap} {ca ia fa : Nat → Addr} {fd fi : Nat → FuncData}
theorem ok_names (T : Txt K mg ca ia fa fd fi) : FnOk P w K mg base CX0 3 (fa 31) (fd 31) ["_law_pot_here", "_law_many"] (spNames K) := by
  have G_l_take := ok_take (P := P) (w := w) (base := base) T
  have G_l_of := ok_of (P := P) (w := w) (base := base) T
  refine T.F_l_names.ok sc_l_names (fun vs H Q E h => ?_) (fun cdv A outer s H vs Q E hr h => ?_)
  · obtain ⟨p, n, B, rfl, _⟩ := h
    rfl
  · obtain ⟨p, n, B, rfl, hp, hB, hn, k⟩ := h
    refine ⟨_, (pss_cons (ps_set (i := 2) sc_l_names.nd rfl (Or.inr rfl) pe_str)
      (pss_cons (ps_set (i := 3) sc_l_names.nd rfl (Or.inr rfl) (pe_join pe_str (pe_lc (own := [("_law_turn", 4)]) (g := (gName 4)) (tt := tYes) rfl sc_l_names.nd (pi_range1 rfl T.n_range (pa_cons (pe_call G_l_of (hr.mono (by decide)) rfl T.g_l_of T.k_l_of T.b_l_of .nil pass0 (pa_cons (pv 0) (pa_cons (pe_lst (pa_cons pe_int (pa_cons pe_int (pa_cons pe_int (pa_cons pe_int (pa_cons pe_int (pa_cons pe_int (pa_cons pe_int (pa_cons pe_int (pa_cons pe_int pa_nil)))))))))) pa_nil))) pa_nil)) (blkOk_by (own := [("_law_turn", 4)]) (N := N_l_names) (sc := defScope s_l_names) (by decide +kernel)) (fun _ _ _ _ _ => (pg_name (i := 4) sc_l_names.nd rfl (Or.inl rfl))) (fun _ _ _ _ _ => pts_nil) (fun _ _ _ _ _ => by exact (pe_call G_l_of (hr.mono (by decide)) rfl T.g_l_of T.k_l_of T.b_l_of .nil pass0 (pa_cons (pv 0) (pa_cons (pv 2) pa_nil)))))))
      (pss_cons (ps_asg (pe_tup (pa_cons (pe_call G_l_take (hr.mono (by decide)) rfl T.g_l_take T.k_l_take T.b_l_take .nil pass0 (pa_cons (pv 0) (pa_cons (pe_op op_add (pe_callB call_len (by rfl) T.n_len (by decide +kernel) (pa_cons (pv 3) pa_nil)) pe_int) pa_nil))) (pa_cons (pe_call G_l_take (hr.mono (by decide)) rfl T.g_l_take T.k_l_take T.b_l_take .nil pass0 (pa_cons (pv 0) (pa_cons pe_int pa_nil))) pa_nil))) (pg_tup rfl (pgs_cons (pg_name (i := 5) sc_l_names.nd rfl (Or.inr rfl)) (pgs_cons (pg_name (i := 6) sc_l_names.nd rfl (Or.inr rfl)) pgs_nil))))
      (pss_cons (ps_setLc (i := 7) (own := [("_law_k", 8)]) (g := (gName 8)) (tt := tYes) (te := (tName K)) rfl sc_l_names.nd rfl rfl (sw_true rfl rfl rfl (by decide +kernel)) (pi_range1 rfl T.n_range (pa_cons (pv 1) pa_nil)) (blkOk_by (own := [("_law_k", 8)]) (N := N_l_names) (sc := defScope s_l_names) (by decide +kernel)) (fun _ _ _ _ _ => (pg_name (i := 8) sc_l_names.nd rfl (Or.inl rfl))) (fun _ _ _ _ _ => pts_nil) (fun _ _ _ _ _ => by exact (pe_op op_add_str (pe_op op_add_str (pe_slice sl_str (pv 3) po_none (po_some (pv 5))) (pe_ix ix_seq (pv 2) (pe_op op_mod (pe_callTy call_int1 (by rfl) T.n_int (by decide +kernel) (pa_cons (pe_op op_add (pv 6) (pe_op op_mulW pe_int (pv 8))) pa_nil)) pe_int) (fun _ _ => rfl))) (pe_slice sl_str (pv 3) (po_some (pv 5)) po_none))))
      (pss_one (ps_ret (pe_callB (cr_sortTx rfl (roomU hr)) (by rfl) T.n_sorted (by decide +kernel) (pa_cons (pe_callTy (cr_setTx rfl) (by rfl) T.n_set (by decide +kernel) (pa_cons (pv 7) pa_nil)) pa_nil)))))))), ?_⟩
    refine seqS (fun v H' => H = H' ∧ v = .str small) (fun Q k' => k' _ _ ⟨rfl, rfl⟩) ?_
    rintro _ _ ⟨rfl, rfl⟩
    refine seqS (fun v H' => ∃ z : Str, v = .str z ∧ z.length ≤ 7 ∧ Low z ∧ But p H H' ∧ Pot H' p (B + 9)) (fun Q k' => ?_) ?_
    · refine ⟨⟨_, rfl⟩, ?_⟩
      refine ⟨_, rfl, by show 9 ≤ sizeLine; decide, fun l nl => ?_⟩
      have nlp : l ≠ p := pot_none hp nl
      refine ⟨p, .ref l, _, B, rfl, hp.same (same_new nl), by omega, .inl ⟨l, rfl, nlp, SqL.of upd_same⟩, by show 0 < 9; decide, by show 9 < 1073741824; decide, fun d v H3 hv b3 p3 => ?_⟩
      have b13 := (But.of (same_new nl)).trans b3
      obtain ⟨m, rfl, hm⟩ : ∃ m : Nat, v = .int (m : Int) ∧ m ≤ 7 := by
        match d, hv with
        | 0, hv => cases hv; exact ⟨0, rfl, by decide⟩
        | 1, hv => cases hv; exact ⟨0, rfl, by decide⟩
        | 2, hv => cases hv; exact ⟨1, rfl, by decide⟩
        | 3, hv => cases hv; exact ⟨2, rfl, by decide⟩
        | 4, hv => cases hv; exact ⟨3, rfl, by decide⟩
        | 5, hv => cases hv; exact ⟨4, rfl, by decide⟩
        | 6, hv => cases hv; exact ⟨5, rfl, by decide⟩
        | 7, hv => cases hv; exact ⟨6, rfl, by decide⟩
        | 8, hv => cases hv; exact ⟨7, rfl, by decide⟩
        | d + 9, hv => cases hv
      refine ⟨_, rfl, by omega, by omega, fun D hD => ?_⟩
      have nDp : D ≠ p := pot_none p3 hD
      refine lc_range (lo := 0) (n := (m : Int).toNat) (fun i H' => ∃ ys : List Str, ys.length = i ∧ H' D = some (.lst (ys.map V.str)) ∧ (∀ y ∈ ys, y.length = 1 ∧ Low y) ∧ But p H H' ∧ Pot H' p (B + 1 + i))
        ⟨[], rfl, upd_same, fun _ h => (by cases h), b13.trans (But.of (same_new hD)), p3.same (same_new hD)⟩ ?_ ?_
      · rintro i H1 hi ⟨ys, hlen, h1, hy, b1, p1⟩
        refine ⟨rfl, ?_⟩
        dsimp only [tYes]
        rw [if_pos rfl]
        refine ⟨_, rfl, _, rfl, p, .str small, _, B + 1 + i, rfl, p1, by omega, .inr (.inr ⟨small, rfl, rfl, by decide +kernel⟩), ?_, ?_, fun d v H2 hv b2 p2 => ?_⟩
        · rw [List.length_map, small_len]; decide
        · rw [List.length_map, small_len]; decide
        rw [List.getElem?_map] at hv
        obtain ⟨c, hc, rfl⟩ := Option.map_eq_some_iff.mp hv
        have hd : d < 26 := by
          have q := (List.getElem?_eq_some_iff.mp hc).1
          rw [small_len] at q
          exact q
        rw [small_at hd] at hc
        cases hc
        refine ⟨_, b2 _ _ nDp h1, ?_, ys ++ [⟨#[97 + d]⟩], by simp [hlen], ?_, ?_, ?_, ?_⟩
        · rw [List.length_map, sizeLine_eq]
          omega
        · rw [upd_same, List.map_append]
          rfl
        · intro y hy2
          rcases List.mem_append.mp hy2 with q | q
          · exact hy y q
          · rw [List.mem_singleton.mp q]
            refine ⟨rfl, fun c hc => ?_⟩
            have e : c = 97 + d := by simpa using hc
            omega
        · intro b o nb e
          have nbD : b ≠ D := by
            rintro rfl
            rw [b13 b o nb e] at hD
            cases hD
          rw [upd_ne nbD]
          exact b2 _ _ nb (b1 _ _ nb e)
        · obtain ⟨o, sd, c, e, r⟩ := p2
          exact ⟨o, sd, c, by rw [upd_ne nDp.symm]; exact e, by omega⟩
      · rintro H1 ⟨ys, hlen, h1, hy, b1, p1⟩
        obtain ⟨f1, f2, f3⟩ := flat_low hy
        refine ⟨_, D, ys, rfl, rfl, .inl (SqL.of h1), ?_, k' _ _ ⟨_, rfl, ?_, ?_, b1, p1.mono (by omega)⟩⟩
        · show _ + ys.length * 0 ≤ _
          rw [f3]
          omega
        · rw [len_list, join_cps, f1]
          omega
        · intro c hc
          rw [join_cps] at hc
          exact f2 c hc
    rintro _ H1 ⟨z, rfl, hz, low, b1, p1⟩
    refine seqA (fun v H' => ∃ (sp a : Nat) (tq : Addr), v = .ref tq ∧ a < 26 ∧ H' tq = some (.tup [.int (sp : Int), .int (a : Int)]) ∧ But p H1 H' ∧ Pot H' p (B + 11)) (fun Q k' => ?_) ?_
    · refine ⟨_, rfl, _, rfl, _, _, rfl, ⟨by rw [sizeLine_eq]; omega, rfl⟩, _, _, rfl, rfl, p, ((z.length : Nat) : Int) + 1, B + 9, rfl, p1, by omega, by omega, by omega, fun sp H2 hsp b2 p2 => ?_⟩
      refine ⟨_, rfl, p, 26, B + 10, rfl, p2, by decide, by decide, by omega, fun a H3 ha b3 p3 => ?_⟩
      refine ⟨by show 2 ≤ sizeLine; decide, fun t nt => k' _ _ ⟨sp, a, t, rfl, by omega, upd_same, ?_, p3.same (same_new nt)⟩⟩
      exact (b2.trans b3).trans (But.of (same_new nt))
    rintro _ H2 ⟨sp, a, tq, rfl, ha, htq, b2, p2⟩
    refine ⟨tq, _, rfl, SqT.of htq, rfl, _, _, rfl, _, _, rfl, rfl, ?_⟩
    have hz2 : z.length ≤ sizeLine := by rw [sizeLine_eq]; omega
    refine seqS (fun v H' => ∃ l, v = .ref l ∧ Same H2 H' ∧ H2 l = none ∧ H' l = some (.lst (((List.range n).map (nameS z sp a)).map V.str))) (fun Q k' => ?_) ?_
    · refine ⟨_, rfl, _, rfl, by omega, by omega, fun D hD => ?_⟩
      refine lc_range (lo := 0) (n := (n : Int).toNat) (fun i H' => H' D = some (.lst (((List.range i).map (nameS z sp a)).map V.str)) ∧ Same H2 H') ⟨upd_same, same_new hD⟩ ?_ ?_
      · rintro i H3 hi ⟨h3, s3⟩
        refine ⟨rfl, ?_⟩
        dsimp only [tYes]
        rw [if_pos rfl]
        refine ⟨_, rfl, _, rfl, _, rfl, z, rfl, hz2, ?_⟩
        have m1 : CMulW 5 (0 + (i : Int)) := mulOk (by decide) (by omega)
        refine ⟨_, rfl, _, rfl, _, rfl, _, _, rfl, rfl, m1, _, _, rfl, rfl, .inl ⟨_, rfl, _, _, rfl, rfl, (show (0 : Int) < 26 by decide), ?_⟩⟩
        have ei : ((a : Int) + 5 * (0 + (i : Int))) % 26 = (((a + 5 * i) % 26 : Nat) : Int) := by omega
        show rIx K (.str small) (.int (((a : Int) + 5 * (0 + (i : Int))) % 26)) _ _
        rw [ei]
        have l26 : (a + 5 * i) % 26 < 26 := Nat.mod_lt _ (by decide)
        refine .inr (.inr ⟨small, _, 97 + (a + 5 * i) % 26, rfl, rfl, by decide +kernel, atI_nat (small_at l26), ?_⟩)
        have c1 : (cutS z none (some (sp : Int))).length ≤ 7 := by rw [len_list, cutS_take, List.length_take]; rw [len_list] at hz; omega
        have c2 : (cutS z (some (sp : Int)) none).length ≤ 7 := by rw [len_list, cutS_drop, List.length_drop]; rw [len_list] at hz; omega
        have c3 : (cutS z none (some (sp : Int)) ++ (⟨#[97 + (a + 5 * i) % 26]⟩ : Str)).length ≤ 8 := by
          have e := TL.tl_append (cutS z none (some (sp : Int))) (⟨#[97 + (a + 5 * i) % 26]⟩ : Str)
          have e2 := congrArg List.length e
          rw [List.length_append] at e2
          rw [len_list] at c1 ⊢
          refine Nat.le_trans (Nat.le_of_eq e2) ?_
          show _ + 1 ≤ 8
          exact Nat.add_le_add_right c1 1
        refine ⟨_, _, rfl, rfl, ?_, ?_⟩
        · show _ + 1 ≤ sizeLine
          rw [sizeLine_eq]
          omega
        refine ⟨_, rfl, _, rfl, _, rfl, z, rfl, hz2, _, _, rfl, rfl, ?_, ?_⟩
        · rw [sizeLine_eq]
          omega
        refine ⟨_, h3, ?_, ?_, ?_⟩
        · rw [List.length_map, List.length_map, List.length_range, sizeLine_eq]
          omega
        · rw [upd_same, name_eq, List.range_succ, List.map_append, List.map_append]
          rfl
        · intro b o e
          rw [upd_ne (ne_of_none e hD)]
          exact s3 b o e
      · rintro H3 ⟨h3, s3⟩
        exact k' _ _ ⟨D, rfl, s3, hD, h3⟩
    rintro _ H3 ⟨l, rfl, s3, nl, hl⟩
    have nd : ((List.range n).map (nameS z sp a)).Nodup := by
      refine List.pairwise_map.mpr (List.Pairwise.imp_of_mem (fun {i j} hi hj ne e => ?_) List.nodup_range)
      exact ne (name_inj (Nat.lt_of_lt_of_le (List.mem_range.mp hi) hn) (Nat.lt_of_lt_of_le (List.mem_range.mp hj) hn) e)
    have ln : ((List.range n).map (nameS z sp a)).length = n := by rw [List.length_map, List.length_range]
    refine ⟨_, rfl, l, _, rfl, SqL.of hl, nd, by omega, fun S us ru nS => ?_⟩
    refine ⟨S, us, _, rfl, upd_same, ru, nd, by omega, fun q zs pz pw nq => ?_⟩
    have p3 := (p2.same s3).same (same_new (o := SetM w S us) nS)
    have b3 : But p H (upd H3 S (SetM w S us)) := ((b1.trans b2).trans (But.of s3)).trans (But.of (same_new nS))
    refine k zs q _ (pz.length_eq.trans ln) pw (fun y hy => ?_) (b3.trans (But.of (same_new nq))) ((p3.same (same_new nq)).mono (by omega)) (but_none b3 p3 nq) upd_same
    obtain ⟨i, _, rfl⟩ := List.mem_map.mp (pz.mem_iff.mp hy)
    exact name_ok hz low
end
end Toy
set_option Elab.async false
set_option linter.all false
set_option maxRecDepth 100000
set_option maxHeartbeats 4000000
namespace Toy
open PySem L2 Q
section
variable {K : PySem.W.Frag} {mg : Str → Option Value} {nm : Str} {C Cn : Addr}
theorem mro_of (h : ∃ nm q N bs sn sub ab col dd k0 k1 k2 k3 k5, K.lookup C = some (excClassObj nm q C N bs (.ref Cn :: PySem.HandSPX.veTail) true sn sub ab col dd k0 k1 k2 k3 k5 "ValueError.__new__"))
    (b : Value) : PySem.W.mroIn K C b = some ((Value.ref C :: Value.ref Cn :: PySem.HandSPX.veTail).contains b) := by
  obtain ⟨_, _, _, _, _, _, _, _, _, _, _, _, _, _, e⟩ := h
  unfold PySem.W.mroIn PySem.W.clsIn
  rw [e]
  rfl
theorem cls_of {bm : List Value} (h : ∃ nm q N bs sn sub ab col dd k0 k1 k2 k3 k5, K.lookup C = some (excClassObj nm q C N bs bm true sn sub ab col dd k0 k1 k2 k3 k5 "ValueError.__new__")) :
    (PySem.W.clsIn K C).isSome = true ∧ PySem.W.hasDictIn K C = true ∧ PySem.W.typeIn K (.ref C) = some (.type "type") := by
  obtain ⟨_, _, _, _, _, _, _, _, _, _, _, _, _, _, e⟩ := h
  refine ⟨?_, ?_, ?_⟩
  · unfold PySem.W.clsIn
    rw [e]
    rfl
  · unfold PySem.W.hasDictIn PySem.W.clsIn
    rw [e]
    rfl
  · show (K.lookup C).map (·.cls) = _
    rw [e]
    rfl
theorem ErrC.sub (c : ErrC K mg nm C Cn) (b : Value) : PySem.W.subIn K (.ref C) b = some ((Value.ref C :: Value.ref Cn :: PySem.HandSPX.veTail).contains b) := mro_of c.xL b
theorem ErrC.oex (c : ErrC K mg nm C Cn) : OexC K C := by
  have h := c.xL
  obtain ⟨nm', q, N, bs, sn, sub, ab, col, dd, k0, k1, k2, k3, k5, e⟩ := h
  refine ⟨⟨nm', q, N, bs, _, sn, sub, ab, col, dd, k0, k1, k2, k3, k5, e, rfl⟩, c.sa, ?_, (cls_of c.xL).2.2, c.kC⟩
  rw [c.sub]
  rfl
theorem ErrC.exc (c : ErrC K mg nm C Cn) (hn : PySem.W.specialIn K (.builtin "object.__class__") "__get__" = some (some (.builtin "getset_descriptor.__get__")))
    (ht : PySem.W.takesIn K (.builtin "object.__class__") = some true) : ExcC K C := by
  refine ⟨c.ga, c.gg, ?_, (cls_of c.xL).2.1, c.hc, hn, ht, ?_⟩
  · rw [c.sub]
    rfl
  · rw [mro_of c.xL]
    rfl
theorem ErrC.kit (c : ErrC K mg nm C Cn) {D : Addr} (h1 : (PySem.W.clsIn K D).isSome = true) (h2 : PySem.W.typeIn K (.ref D) = some (.type "type")) :
    PySem.W.kitOne K (.ref C) (.ref D) = some (decide (D = C ∨ D = Cn)) := by
  unfold PySem.W.kitOne
  by_cases e : C = D
  · subst e
    rw [if_pos (by simp)]
    simp
  · rw [if_neg (by simpa using e)]
    show (if ((PySem.W.clsIn K D).isSome && PySem.W.typeIn K (.ref D) == some (.type "type")) = true then PySem.W.subIn K (.ref C) (.ref D) else none) = _
    rw [if_pos (by rw [h1, h2]; rfl), c.sub]
    congr 1
    simp only [List.contains_cons, PySem.HandSPX.veTail]
    have e2 : (Value.ref D == Value.ref C) = decide (D = C) := by
      by_cases z : D = C
      · simp [z]
      · simp [z]
    have e3 : (Value.ref D == Value.ref Cn) = decide (D = Cn) := by
      by_cases z : D = Cn
      · simp [z]
      · simp [z]
    rw [e2, e3]
    by_cases z : D = C <;> by_cases y : D = Cn <;> simp [z, y]
theorem ErrC.kitVE (c : ErrC K mg nm C Cn) : PySem.W.kitOne K (.ref C) (.type "ValueError") = some true := by
  unfold PySem.W.kitOne
  rw [if_neg (by simp)]
  show (if PySem.W.kitMeta "ValueError" = true then PySem.W.subIn K (.ref C) (.type "ValueError") else none) = _
  rw [if_pos (by decide +kernel), c.sub]
  rfl
end

/-! ### the errors' own __init__ -/
def spI1 (C : Addr) (f : Str) : Sp := fun vs H Q _ => ∃ (a : Addr) (v : V), vs = [.ref a, v] ∧ H a = some (exo a C none) ∧
  ∀ d H', But a H H' → H d = none → H' a = some (exo a C (some d)) → H' d = some (exd d [(f, v)]) → Q .non H'
def spI2 (C : Addr) (f g : Str) : Sp := fun vs H Q _ => ∃ (a : Addr) (v u : V), vs = [.ref a, v, u] ∧ H a = some (exo a C none) ∧
  ∀ d H', But a H H' → H d = none → H' a = some (exo a C (some d)) → H' d = some (exd d [(g, u), (f, v)]) → Q .non H'
theorem spI1_len {C : Addr} {f : Str} {vs : List V} {H : Hp} {Q : VK} {E : XK} (h : spI1 C f vs H Q E) : vs.length = 2 := by
  obtain ⟨a, v, rfl, _⟩ := h
  rfl
theorem spI2_len {C : Addr} {f g : Str} {vs : List V} {H : Hp} {Q : VK} {E : XK} (h : spI2 C f g vs H Q E) : vs.length = 3 := by
  obtain ⟨a, v, u, rfl, _⟩ := h
  rfl
theorem err_laid {H : Hp} {a dx C : Addr} {fs : List (Str × V)} (n : H dx = none) (ne : dx ≠ a) :
    But a H (upd (upd H dx (exd dx fs)) a (exo a C (some dx))) ∧ upd (upd H dx (exd dx fs)) a (exo a C (some dx)) dx = some (exd dx fs) := by
  refine ⟨fun b o nb e => ?_, ?_⟩
  · rw [upd_ne nb, upd_ne (ne_of_none e n)]
    exact e
  · rw [upd_ne ne, upd_same]
theorem init1 {K : PySem.W.Frag} {C : Addr} {f : Str} (o : OexC K C) (nf : PySem.W.findIn K (.ref C) f = some none) {vs : List V} {H : Hp} {Q : VK} {E : XK} {N : List Str}
    (h : spI1 C f vs H Q E) : tOst K f (tVar 0) (tVar 1) { nx := fun _ H' => Q .non H', rt := Q } (L2.start N vs) H := by
  obtain ⟨a, v, rfl, ha, k⟩ := h
  refine ⟨_, rfl, _, rfl, a, C, rfl, o, nf, .inl ⟨ha, fun dx nd ne => ?_⟩⟩
  obtain ⟨b, e⟩ := err_laid (C := C) (fs := [(f, v)]) nd ne
  exact k dx _ b nd upd_same e
theorem init2 {K : PySem.W.Frag} {C : Addr} {f g : Str} (o : OexC K C) (nf : PySem.W.findIn K (.ref C) f = some none) (ng : PySem.W.findIn K (.ref C) g = some none) {vs : List V} {H : Hp} {Q : VK} {E : XK} {N : List Str}
    (h : spI2 C f g vs H Q E) : tSeq (tOst K f (tVar 0) (tVar 1)) (tOst K g (tVar 0) (tVar 2)) { nx := fun _ H' => Q .non H', rt := Q } (L2.start N vs) H := by
  obtain ⟨a, v, u, rfl, ha, k⟩ := h
  refine ⟨_, rfl, _, rfl, a, C, rfl, o, nf, .inl ⟨ha, fun dx nd ne => ?_⟩⟩
  refine ⟨_, rfl, _, rfl, a, C, rfl, o, ng, .inr ⟨dx, [(f, v)], upd_same, by rw [upd_ne ne, upd_same], (by show 1 ≤ 900; decide), ?_⟩⟩
  refine k dx _ (fun b x nb e => ?_) nd ?_ upd_same
  · rw [upd_ne (ne_of_none e nd), upd_ne nb, upd_ne (ne_of_none e nd)]
    exact e
  · rw [upd_ne (Ne.symm ne), upd_same]
section
variable {P : Program} {w : World} {K : PySem.W.Frag} {mg : Str → Option Value} {base : Heap} {ca ia fa : Nat → Addr} {fd fi : Nat → FuncData}
theorem sci_BadNet : FnScope ["self", "value"] ["self", "value"] (defScope (inClass (topS 2) 0)) := ⟨rfl, rfl, rfl, by decide +kernel, rfl, by decide +kernel, by decide +kernel⟩
theorem in_BadNet (T : Txt K mg ca ia fa fd fi) : FnOk P w K mg base CX0 1 (ia 2) (fi 2) ["self", "value"] (spI1 (ca 2) "value") :=
  T.FI_BadNet.ok sci_BadNet (fun _ _ _ _ h => spI1_len h) (fun cdv A outer s H vs Q E hr h => ⟨_, pss_one (ps_ost (pv 0) (pv 1)), init1 T.c_BadNet.oex T.no_BadNet_value h⟩)
theorem sci_NoRouter : FnScope ["self", "value"] ["self", "value"] (defScope (inClass (topS 3) 0)) := ⟨rfl, rfl, rfl, by decide +kernel, rfl, by decide +kernel, by decide +kernel⟩
theorem in_NoRouter (T : Txt K mg ca ia fa fd fi) : FnOk P w K mg base CX0 1 (ia 3) (fi 3) ["self", "value"] (spI1 (ca 3) "value") :=
  T.FI_NoRouter.ok sci_NoRouter (fun _ _ _ _ h => spI1_len h) (fun cdv A outer s H vs Q E hr h => ⟨_, pss_one (ps_ost (pv 0) (pv 1)), init1 T.c_NoRouter.oex T.no_NoRouter_value h⟩)
theorem sci_BadLink : FnScope ["self", "value"] ["self", "value"] (defScope (inClass (topS 4) 0)) := ⟨rfl, rfl, rfl, by decide +kernel, rfl, by decide +kernel, by decide +kernel⟩
theorem in_BadLink (T : Txt K mg ca ia fa fd fi) : FnOk P w K mg base CX0 1 (ia 4) (fi 4) ["self", "value"] (spI1 (ca 4) "value") :=
  T.FI_BadLink.ok sci_BadLink (fun _ _ _ _ h => spI1_len h) (fun cdv A outer s H vs Q E hr h => ⟨_, pss_one (ps_ost (pv 0) (pv 1)), init1 T.c_BadLink.oex T.no_BadLink_value h⟩)
theorem sci_BadLength : FnScope ["self", "value"] ["self", "value"] (defScope (inClass (topS 5) 0)) := ⟨rfl, rfl, rfl, by decide +kernel, rfl, by decide +kernel, by decide +kernel⟩
theorem in_BadLength (T : Txt K mg ca ia fa fd fi) : FnOk P w K mg base CX0 1 (ia 5) (fi 5) ["self", "value"] (spI1 (ca 5) "value") :=
  T.FI_BadLength.ok sci_BadLength (fun _ _ _ _ h => spI1_len h) (fun cdv A outer s H vs Q E hr h => ⟨_, pss_one (ps_ost (pv 0) (pv 1)), init1 T.c_BadLength.oex T.no_BadLength_value h⟩)
theorem sci_NoLink : FnScope ["self", "value"] ["self", "value"] (defScope (inClass (topS 7) 0)) := ⟨rfl, rfl, rfl, by decide +kernel, rfl, by decide +kernel, by decide +kernel⟩
theorem in_NoLink (T : Txt K mg ca ia fa fd fi) : FnOk P w K mg base CX0 1 (ia 7) (fi 7) ["self", "value"] (spI1 (ca 7) "value") :=
  T.FI_NoLink.ok sci_NoLink (fun _ _ _ _ h => spI1_len h) (fun cdv A outer s H vs Q E hr h => ⟨_, pss_one (ps_ost (pv 0) (pv 1)), init1 T.c_NoLink.oex T.no_NoLink_value h⟩)
theorem raises_TooMany (T : Txt K mg ca ia fa fd fi) {X : Cx} (e : X.K = K) : Raises X (.ref (ca 6)) := by
  refine raises_own ?_ ?_
  · rw [e, T.c_TooMany.sub]
    rfl
  · rw [e]
    exact T.y_TooMany
theorem Txt.exm (T : Txt K mg ca ia fa fd fi) {nm : Str} {C : Addr} (c : ErrC K mg nm C (ca 1)) : PySem.W.exmOne K (.ref C) (.ref (ca 1)) = some true := by
  obtain ⟨d1, d2, d3⟩ := cls_of T.cN.xL
  refine PySem.W.exm_ref ?_ d2 d3 ?_
  · obtain ⟨_, _, _, _, _, _, _, _, _, _, _, _, _, _, e⟩ := T.cN.xL
    show PySem.W.mroIn K (ca 1) _ = _
    unfold PySem.W.mroIn PySem.W.clsIn
    rw [e]
    rfl
  · rw [c.sub]
    congr 1
    simp
end
/-- a new error as an argument, the rest behind it -/
theorem mk1 {C : Addr} {f : Str} {te : TE} {σ : L2.St} {H : Hp} {v : V} {Q : VK} (h : ∀ Q' : VK, Q' v H → te σ H Q')
    (k : ∀ a H', Same H H' → ErrAt H' a C [(f, v)] → H a = none → Q (.ref a) H') : tMkV C (spI1 C f) [] (tCons te tNil) σ H Q := by
  refine h _ ⟨(by decide : 1 ≤ 1000), fun a na => ⟨a, v, rfl, upd_same, fun d H' b _ ea ed => ⟨rfl, k a H' ?_ ⟨d, .inl ea, .inl ed⟩ na⟩⟩⟩
  intro c o e2
  exact b c o (ne_of_none e2 na) (same_new na _ _ e2)
theorem mk2 {C : Addr} {f g : Str} {te ue : TE} {σ : L2.St} {H : Hp} {v u : V} {Q : VK} (h : ∀ Q' : VK, Q' v H → te σ H Q') (h2 : ∀ Q' : VK, Q' u H → ue σ H Q')
    (k : ∀ a H', Same H H' → ErrAt H' a C [(g, u), (f, v)] → H a = none → Q (.ref a) H') : tMkV C (spI2 C f g) [] (tCons te (tCons ue tNil)) σ H Q := by
  refine h _ (h2 _ ⟨(by decide : 2 ≤ 1000), fun a na => ⟨a, v, u, rfl, upd_same, fun d H' b _ ea ed => ⟨rfl, k a H' ?_ ⟨d, .inl ea, .inl ed⟩ na⟩⟩⟩)
  intro c o e2
  exact b c o (ne_of_none e2 na) (same_new na _ _ e2)
theorem lst0 {t : TA} {σ : L2.St} {H : Hp} {Q : VK} (h : t σ H fun xs H1 => xs.length ≤ sizeLine ∧ ∀ p, H1 p = none → Q (.ref p) (upd H1 p (.lst xs))) : tLst t σ H Q := h
theorem tup0 {t : TA} {σ : L2.St} {H : Hp} {Q : VK} (h : t σ H fun xs H1 => xs.length ≤ sizeLine ∧ ∀ p, H1 p = none → Q (.ref p) (upd H1 p (.tup xs))) : tTup t σ H Q := h
theorem cons0 {ta : TE} {tr : TA} {σ : L2.St} {H : Hp} {Q : List V → Hp → Prop} (h : ta σ H fun x H1 => tr σ H1 fun xs H2 => Q (x :: xs) H2) : tCons ta tr σ H Q := h
theorem var {i : Nat} {σ : L2.St} {H : Hp} {v : V} (e : σ[i]? = some (some v)) : ∀ Q' : VK, Q' v H → tVar i σ H Q' := fun _ q => ⟨v, e, q⟩
end Toy
set_option Elab.async false
set_option linter.all false
set_option maxRecDepth 100000
set_option maxHeartbeats 4000000
namespace Toy
open PySem L2 Q
/-- is_integer(v) of a whole number -/
def spInt : Sp := fun vs H Q _ => ∃ v : Int, vs = [.int v] ∧ Q (.bl true) H
/-- is_integer_from(v, least) of whole numbers -/
def spIntFrom : Sp := fun vs H Q _ => ∃ v l : Int, vs = [.int v, .int l] ∧ Q (.bl (decide (l ≤ v))) H
def spLength : Sp := fun vs H Q _ => ∃ v : Int, vs = [.int v] ∧ Q (.bl (decide (1 ≤ v))) H
/-- is_name of a text -/
def spName : Sp := fun vs H Q _ => ∃ z : Str, vs = [.str z] ∧ z.length ≤ 1000000 ∧ ∀ b : Bool, (b = true ↔ NameOk z) → ∀ H', Same H H' → Q (.bl b) H'
section
variable {P : Program} {w : World} {K : PySem.W.Frag} {mg : Str → Option Value} {base : Heap} {ca ia fa : Nat → Addr} {fd fi : Nat → FuncData}
theorem ok_integer (T : Txt K mg ca ia fa fd fi) : FnOk P w K mg base CX0 1 (fa 10) (fd 10) ["value"] spInt := by
  refine T.F_is_integer.ok sc_is_integer (fun vs H Q E h => ?_) (fun cdv A outer s H vs Q E hr h => ?_)
  · obtain ⟨v, rfl, _⟩ := h
    rfl
  · obtain ⟨v, rfl, k⟩ := h
    refine ⟨_, (pss_one (ps_ret (pe_and (pe_callB call_isi (by rfl) T.n_isinstance (by decide +kernel) (pa_cons (pv 0) (pa_cons (pe_bltn (v := .ty "int") (by rfl) T.n_int (by decide +kernel) rfl) pa_nil))) (pe_one (pe_not (pe_callB call_isi (by rfl) T.n_isinstance (by decide +kernel) (pa_cons (pv 0) (pa_cons (pe_bltn (v := .ty "bool") (by rfl) T.n_bool (by decide +kernel) rfl) pa_nil)))))))), ?_⟩
    refine ⟨_, rfl, .int v, .ty "int", _, _, true, rfl, .ty _, .base (.int v), rfl, ?_⟩
    refine ⟨_, rfl, ?_⟩
    dsimp only
    rw [if_pos rfl]
    exact ⟨_, rfl, .int v, .ty "bool", _, _, false, rfl, .ty _, .base (.int v), rfl, _, rfl, k⟩
theorem ok_int_from (T : Txt K mg ca ia fa fd fi) : FnOk P w K mg base CX0 2 (fa 11) (fd 11) ["value", "least"] spIntFrom := by
  have G_is_integer := ok_integer (P := P) (w := w) (base := base) T
  refine T.F_is_integer_from.ok sc_is_integer_from (fun vs H Q E h => ?_) (fun cdv A outer s H vs Q E hr h => ?_)
  · obtain ⟨v, l, rfl, _⟩ := h
    rfl
  · obtain ⟨v, l, rfl, k⟩ := h
    refine ⟨_, (pss_one (ps_ret (pe_and (pe_call G_is_integer (hr.mono (by decide)) rfl T.g_is_integer T.k_is_integer T.b_is_integer .nil pass0 (pa_cons (pv 0) pa_nil)) (pe_one (pe_cmpR op_ge (pv 0) (pv 1) (nomark _)))))), ?_⟩
    refine ⟨_, rfl, v, rfl, _, rfl, ?_⟩
    dsimp only
    rw [if_pos rfl]
    exact ⟨_, rfl, _, rfl, _, _, rfl, rfl, k⟩
theorem ok_length (T : Txt K mg ca ia fa fd fi) : FnOk P w K mg base CX0 3 (fa 21) (fd 21) ["value"] spLength := by
  have G_is_integer_from := ok_int_from (P := P) (w := w) (base := base) T
  refine T.F_is_length.ok sc_is_length (fun vs H Q E h => ?_) (fun cdv A outer s H vs Q E hr h => ?_)
  · obtain ⟨v, rfl, _⟩ := h
    rfl
  · obtain ⟨v, rfl, k⟩ := h
    refine ⟨_, (pss_one (ps_ret (pe_call G_is_integer_from (hr.mono (by decide)) rfl T.g_is_integer_from T.k_is_integer_from T.b_is_integer_from .nil pass0 (pa_cons (pv 0) (pa_cons pe_int pa_nil))))), ?_⟩
    exact ⟨_, rfl, v, 1, rfl, k⟩
theorem lowS (c : Nat) : (!decide ((⟨#[c]⟩ : Str).cps.toList < (Str.ofString "a").cps.toList)) = decide (97 ≤ c) ∧ (!decide ((Str.ofString "z").cps.toList < (⟨#[c]⟩ : Str).cps.toList)) = decide (c ≤ 122) := by
  have ea : (Str.ofString "a").cps.toList = [97] := by decide +kernel
  have ez : (Str.ofString "z").cps.toList = [122] := by decide +kernel
  rw [ea, ez]
  constructor
  · rw [Bool.eq_iff_iff]
    simp [List.cons_lt_cons_iff]
  · rw [Bool.eq_iff_iff]
    simp [List.cons_lt_cons_iff]
theorem ok_name (T : Txt K mg ca ia fa fd fi) : FnOk P w K mg base CX0 1 (fa 12) (fd 12) ["value"] spName := by
  refine T.F_is_name.ok sc_is_name (fun vs H Q E h => ?_) (fun cdv A outer s H vs Q E hr h => ?_)
  · obtain ⟨z, rfl, _⟩ := h
    rfl
  · obtain ⟨z, rfl, hz, k⟩ := h
    obtain ⟨tk8, hv_LONGEST_NAME⟩ := T.v_LONGEST_NAME
    refine ⟨_, (pss_cons (ps_if (PW.pt (pw_or (pt_not (pt_val (pe_callB call_isi (by rfl) T.n_isinstance (by decide +kernel) (pa_cons (pv 0) (pa_cons (pe_bltn (v := .ty "str") (by rfl) T.n_str (by decide +kernel) rfl) pa_nil))))) (pw_or1 (pt_not (pt_chain op_le op_le pe_int (pe_callB call_len (by rfl) T.n_len (by decide +kernel) (pa_cons (pv 0) pa_nil)) (pe_glob rfl hv_LONGEST_NAME (v := .int 8) ⟨_, rfl⟩)))))) (pss_one (ps_ret pe_bl)) pss_nil)
      (pss_one (ps_ret (pe_callB (cr_all rfl) (by rfl) T.n_all (by decide +kernel) (pa_cons (pe_lc (own := [("letter", 1)]) (g := (gName 1)) (tt := tYes) rfl sc_is_name.nd (pi_str (pv 0)) (blkOk_by (own := [("letter", 1)]) (N := N_is_name) (sc := defScope s_is_name) (by decide +kernel)) (fun _ _ _ _ _ => (pg_name (i := 1) sc_is_name.nd rfl (Or.inl rfl))) (fun _ _ _ _ _ => pts_nil) (fun _ _ _ _ _ => by exact (pe_chain op_le_str op_le_str pe_str (pv 1) pe_str))) pa_nil))))), ?_⟩
    have lenV : LenV K (.str z) H z.length := ⟨by rw [sizeLine_eq]; omega, rfl⟩
    have stop : ∀ {u : TS} {D : Ends} {σ : L2.St}, D.rt = Q → ¬ NameOk z → tRet (tC (.bl false)) D σ H := fun {u D σ} e n => by
      show D.rt (.bl false) H
      rw [e]
      exact k false ⟨fun q => (by cases q), fun q => absurd q n⟩ H (fun _ _ e => e)
    refine ⟨_, rfl, .str z, .ty "str", _, _, true, rfl, .ty _, .base (.str z), rfl, _, rfl, ?_⟩
    refine ite2 (fun c => (by cases c)) fun _ => ?_
    refine ⟨_, rfl, _, _, rfl, lenV, _, _, rfl, rfl, _, rfl, ite2 (fun c1 => ?_) (fun c1 => ?_)⟩
    · have l1 : (1 : Int) ≤ (z.length : Nat) := of_decide_eq_true c1
      refine ⟨_, _, rfl, rfl, _, rfl, ite2 (fun c2 => ?_) (fun c2 => ?_)⟩
      · have l2 : ¬ ((z.length : Nat) : Int) ≤ 8 := fun q => by
          rw [decide_eq_true q] at c2
          cases c2
        exact stop (u := tNext) rfl fun q => l2 (by have := q.2.1; omega)
      · have l2 : ((z.length : Nat) : Int) ≤ 8 := Classical.byContradiction fun q => c2 (by rw [decide_eq_false q]; rfl)
        refine nxt ?_
        refine ⟨_, rfl, z, rfl, fun D hD => ?_⟩
        refine lc_it walk_str (fun i H' => ∃ bs : List Bool, bs.length = i ∧ H' D = some (.lst (bs.map V.bl)) ∧ Same H H' ∧ (bs.all id = true ↔ ∀ c ∈ z.cps.toList.take i, 97 ≤ c ∧ c ≤ 122))
          ⟨[], rfl, upd_same, same_new hD, by simp⟩ (fun _ _ _ _ => trivial) ?_ ?_
        · rintro i x H1 H2 hi ⟨bs, lb, hb, s1, iff1⟩ ⟨rfl, c, hc, rfl⟩
          refine ⟨rfl, ?_⟩
          dsimp only [tYes]
          rw [if_pos rfl]
          have hi2 : i < z.length := hi
          have fin : ∀ b : Bool, (b = true ↔ 97 ≤ c ∧ c ≤ 122) → ∃ acc, H2 D = some (.lst acc) ∧ acc.length < sizeLine ∧ ∃ bs : List Bool, bs.length = i + 1 ∧ upd H2 D (.lst (acc ++ [.bl b])) D = some (.lst (bs.map V.bl)) ∧ Same H (upd H2 D (.lst (acc ++ [.bl b]))) ∧
              (bs.all id = true ↔ ∀ c ∈ z.cps.toList.take (i + 1), 97 ≤ c ∧ c ≤ 122) := fun b hb2 => by
            refine ⟨_, hb, ?_, bs ++ [b], by simp [lb], ?_, fun d u e => ?_, ?_⟩
            · rw [List.length_map, sizeLine_eq]
              omega
            · rw [upd_same, List.map_append]
              rfl
            · rw [upd_ne (ne_of_none e hD)]
              exact s1 _ _ e
            · have hc2 : z.cps.toList[i]? = some c := by rw [Array.getElem?_toList]; exact hc
              rw [List.take_add_one, hc2, List.all_append, Bool.and_eq_true, iff1]
              constructor
              · rintro ⟨q1, q2⟩ d hd
                rcases List.mem_append.mp hd with q | q
                · exact q1 d q
                · have e : d = c := by simpa using q
                  rw [e]
                  exact hb2.1 (by simpa using q2)
              · intro q
                refine ⟨fun d hd => q d (List.mem_append_left _ hd), ?_⟩
                have e := hb2.2 (q c (List.mem_append_right _ (by simp)))
                simp [e]
          obtain ⟨low1, low2⟩ := lowS c
          refine ⟨_, rfl, _, _, rfl, rfl, _, rfl, ite2 (fun a1 => ?_) (fun a1 => ?_)⟩
          · rw [low1] at a1
            refine ⟨_, _, rfl, rfl, ?_⟩
            rw [low2]
            exact fin _ ⟨fun q => ⟨of_decide_eq_true a1, of_decide_eq_true q⟩, fun q => decide_eq_true q.2⟩
          · rw [low1] at a1
            exact fin _ ⟨fun q => (by cases q), fun q => absurd (decide_eq_true q.1) a1⟩
        · rintro H1 ⟨bs, lb, hb, s1, iff1⟩
          have e : z.cps.toList.take z.cps.size = z.cps.toList := List.take_of_length_le (Nat.le_of_eq (Array.length_toList ..))
          rw [e] at iff1
          exact ⟨D, bs, rfl, SqL.of hb, k _ ⟨fun q => ⟨by omega, by omega, iff1.1 q⟩, fun q => iff1.2 q.2.2⟩ H1 s1⟩
    · have l1 : ¬ (1 : Int) ≤ (z.length : Nat) := fun q => c1 (decide_eq_true q)
      refine ⟨_, rfl, ite2 (fun _ => ?_) (fun c2 => absurd rfl c2)⟩
      exact stop (u := tNext) rfl fun q => l1 (by have := q.1; omega)
end
end Toy
set_option Elab.async false
set_option linter.all false
set_option maxRecDepth 100000
set_option maxHeartbeats 4000000
namespace Toy
open PySem L2 Q RZ
theorem walk_zipT {K : PySem.W.Frag} {a b : Addr} {xs ys : List V} {n : Nat} (hn : n = min xs.length ys.length) :
    Walk (ItzT K a b) n (fun H => SqT K H a xs ∧ SqT K H b ys) (YPair (fun i => xs[i]?) (fun i => ys[i]?)) where
  goes := fun i H hi q => by
    have l1 : i < xs.length := by rw [hn] at hi; exact Nat.lt_of_lt_of_le hi (Nat.min_le_left _ _)
    have l2 : i < ys.length := by rw [hn] at hi; exact Nat.lt_of_lt_of_le hi (Nat.min_le_right _ _)
    exact ⟨xs, ys, _, _, q.1, q.2, List.getElem?_eq_getElem l1, List.getElem?_eq_getElem l2⟩
  stops := fun H q => ⟨xs, ys, q.1, q.2, by rw [hn]; omega⟩
  yields := fun i H v H' _ q y => by
    obtain ⟨T, u, z, r1, r2, r3, r4, r5⟩ := y
    exact ⟨T, u, z, r1, r2, r3, r4 _ q.1, r5 _ q.2⟩
/-- a slice of a tuple, new or the tuple itself -/
theorem slT {K : PySem.W.Frag} {H : Hp} {a : Addr} {xs : List V} {lo hi : Option Int} {Q : VK} (h : H a = some (.tup xs))
    (q : ∀ t H', Same H H' → H' t = some (.tup (cutV xs lo hi)) → Q (.ref t) H') : rSlA K (.ref a) lo hi H Q := by
  refine ⟨a, xs, rfl, SqT.of h, fun z => q a H (Same.refl H) ?_, fun z p np => q p _ (same_new np) upd_same⟩
  unfold cutV
  rw [z.1, z.2, List.drop_zero, Nat.sub_zero, List.take_length]
  exact h
theorem all_rep : ∀ n : Nat, (List.replicate n true).all id = true
  | 0 => rfl
  | n + 1 => by rw [List.replicate_succ, List.all_cons, all_rep n]; rfl
theorem rep_succ {α : Type} (n : Nat) (x : α) : List.replicate n x ++ [x] = List.replicate (n + 1) x := by
  rw [List.replicate_succ']
theorem cut_tail (xs : List V) : cutV xs (some 1) none = xs.drop 1 := cut_drop xs 1
theorem pair_at {α : Type} {R : α → α → Prop} {l : List α} (pw : l.Pairwise R) {i : Nat} {x y : α} (hx : l[i]? = some x) (hy : (l.drop 1)[i]? = some y) : R x y := by
  rw [List.getElem?_drop] at hy
  obtain ⟨h1, rfl⟩ := List.getElem?_eq_some_iff.mp hx
  obtain ⟨h2, rfl⟩ := List.getElem?_eq_some_iff.mp hy
  exact List.pairwise_iff_getElem.mp pw i (1 + i) h1 h2 (by omega)
theorem at_map {α β : Type} {f : α → β} {l : List α} {i : Nat} {v : β} (h : (l.map f)[i]? = some v) : ∃ x, l[i]? = some x ∧ v = f x := by
  rw [List.getElem?_map] at h
  obtain ⟨x, h1, h2⟩ := Option.map_eq_some_iff.mp h
  exact ⟨x, h1, h2.symm⟩
theorem tcons {te : TE} {ta : TA} {σ : L2.St} {H : Hp} {Q : List V → Hp → Prop} (h : te σ H fun x H1 => ta σ H1 fun xs H2 => Q (x :: xs) H2) : tCons te ta σ H Q := h
theorem roomU1 {k : Nat} {A : Around} (h : Room k A) : A.units + 1 < cLine := by
  have q := h.units
  omega
abbrev rLess (K : PySem.W.Frag) : R2 := fun x y H Q => (∃ i j, x = .str i ∧ y = .str j ∧ Q (.bl (decide (i.cps.toList < j.cps.toList))) H) ∨ rLtK K x y H Q
/-- is_rising of texts that rise, or of tuples that do -/
def spRising (K : PySem.W.Frag) : Sp := fun vs H Q _ => ∃ a : Addr, vs = [.ref a] ∧ (∀ H', Same H H' → Q (.bl true) H') ∧
  ((∃ zs : List Str, H a = some (.tup (zs.map V.str)) ∧ zs.Pairwise tLt ∧ zs.length ≤ 1000) ∨
   (∃ (ks : List (Addr × List Key)) (sh : List Bool), SqL K H a (ks.map fun p => V.ref p.1) ∧ (∀ p ∈ ks, SqT K H p.1 (p.2.map kV) ∧ shape p.2 = sh) ∧ ks.Pairwise (fun p q => ksLt p.2 q.2 = true) ∧ ks.length ≤ 1000))
section
variable {P : Program} {w : World} {K : PySem.W.Frag} {mg : Str → Option Value} {base : Heap} {ca ia fa : Nat → Addr} {fd fi : Nat → FuncData}
theorem ok_rising (T : Txt K mg ca ia fa fd fi) : FnOk P w K mg base CX0 1 (fa 13) (fd 13) ["values"] (spRising K) := by
  refine T.F_is_rising.ok sc_is_rising (fun vs H Q E h => ?_) (fun cdv A outer s H vs Q E hr h => ?_)
  · obtain ⟨a, rfl, _⟩ := h
    rfl
  · obtain ⟨a, rfl, k, h⟩ := h
    refine ⟨_, (pss_one (ps_ret (pe_callB (cr_all rfl) (by rfl) T.n_all (by decide +kernel) (pa_cons (pe_lc (own := [("low", 1), ("high", 2)]) (g := (gTup K 2 (gCons (gName 1) (gCons (gName 2) gNil)))) (tt := tYes) (te := (tOp (rLess K) (tVar 1) (tVar 2))) rfl sc_is_rising.nd (pi_zipA (by rfl) T.n_zip (pa_cons (pv 0) (pa_cons (pe_slice (SlR.or sl_list sl_tupA) (pv 0) (po_some pe_int) po_none) pa_nil))) (blkOk_by (own := [("low", 1), ("high", 2)]) (N := N_is_rising) (sc := defScope s_is_rising) (by decide +kernel)) (fun _ _ _ _ _ => (pg_tup rfl (pgs_cons (pg_name (i := 1) sc_is_rising.nd rfl (Or.inl rfl)) (pgs_cons (pg_name (i := 2) sc_is_rising.nd rfl (Or.inl rfl)) pgs_nil)))) (fun _ _ _ _ _ => pts_nil) (fun _ _ _ _ _ => by exact (pe_cmpR (OpR.or op_lt_str (op_ltK (roomU1 hr))) (pv 1) (pv 2) (nomark _)))) pa_nil)))), ?_⟩
    rcases h with ⟨zs, hz, pw, l1⟩ | ⟨ks, sh, hz, hk, pw, l1⟩
    · refine ⟨_, rfl, _, rfl, _, rfl, .inr (slT hz fun t H1 s1 ht => ?_)⟩
      rw [cut_tail] at ht
      refine ⟨a, t, _, _, rfl, .inr ⟨SqT.of (s1 _ _ hz), SqT.of ht, fun D hD => ?_⟩⟩
      refine lc_it (walk_zipT rfl) (fun i H' => H' D = some (.lst (List.replicate i (V.bl true))) ∧ Same H1 H') ⟨upd_same, same_new hD⟩ (fun i H' _ q => ⟨SqT.of (q.2 _ _ (s1 _ _ hz)), SqT.of (q.2 _ _ ht)⟩) ?_ ?_
      · rintro i x H2 H3 hi ⟨h2, s2⟩ ⟨T, u, v, rfl, nT, rfl, e1, e2⟩
        obtain ⟨y, hy, rfl⟩ := at_map e1
        rw [← List.map_drop] at e2
        obtain ⟨z, hz2, rfl⟩ := at_map e2
        have lt : tLt y z := pair_at pw hy hz2
        have hi2 : i < 1000 := by rw [List.length_map] at hi; omega
        refine ⟨T, _, rfl, SqT.of upd_same, rfl, _, _, rfl, _, _, rfl, rfl, rfl, ?_⟩
        dsimp only [tYes]
        rw [if_pos rfl]
        refine ⟨_, rfl, _, rfl, .inl ⟨_, _, rfl, rfl, _, same_new nT _ _ h2, ?_, ?_, ?_⟩⟩
        · rw [List.length_replicate, sizeLine_eq]
          omega
        · rw [upd_same, decide_eq_true lt, rep_succ]
        · intro b o e
          rw [upd_ne (ne_of_none e hD)]
          exact same_new nT _ _ (s2 _ _ e)
      · rintro H2 ⟨h2, s2⟩
        refine ⟨D, List.replicate _ true, rfl, SqL.of (by rw [List.map_replicate]; exact h2), ?_⟩
        rw [all_rep]
        exact k H2 (s1.trans s2)
    · refine ⟨_, rfl, _, rfl, _, rfl, .inl ⟨a, _, rfl, hz, fun t nt => ?_⟩⟩
      rw [cut_tail]
      have s1 : Same H (upd H t (.lst ((ks.map fun p => V.ref p.1).drop 1))) := same_new nt
      refine ⟨a, t, _, _, rfl, .inl ⟨s1.seq hz, SqL.of upd_same, fun D hD => ?_⟩⟩
      have ht : upd H t (.lst ((ks.map fun p => V.ref p.1).drop 1)) t = some (.lst ((ks.map fun p => V.ref p.1).drop 1)) := upd_same
      generalize upd H t (.lst ((ks.map fun p => V.ref p.1).drop 1)) = H1 at s1 ht hD ⊢
      refine lc_it (walk_zip rfl) (fun i H' => H' D = some (.lst (List.replicate i (V.bl true))) ∧ Same H1 H') ⟨upd_same, same_new hD⟩ (fun i H' _ q => ⟨(s1.trans q.2).seq hz, SqL.of (q.2 _ _ ht)⟩) ?_ ?_
      · rintro i x H2 H3 hi ⟨h2, s2⟩ ⟨T, u, v, rfl, nT, rfl, e1, e2⟩
        obtain ⟨y, hy, rfl⟩ := at_map e1
        rw [← List.map_drop] at e2
        obtain ⟨z, hz2, rfl⟩ := at_map e2
        have lt := pair_at pw hy hz2
        have iy := List.mem_of_getElem? hy
        have iz : z ∈ ks := List.mem_of_mem_drop (List.mem_of_getElem? hz2)
        have hi2 : i < 1000 := by rw [List.length_map] at hi; omega
        have s3 := (s1.trans s2).trans (same_new (o := .tup [V.ref y.1, V.ref z.1]) nT)
        refine ⟨T, _, rfl, SqT.of upd_same, rfl, _, _, rfl, _, _, rfl, rfl, rfl, ?_⟩
        dsimp only [tYes]
        rw [if_pos rfl]
        refine ⟨_, rfl, _, rfl, .inr ⟨_, _, y.2, z.2, rfl, rfl, SqT.same s3 (hk y iy).1, SqT.same s3 (hk z iz).1, (hk y iy).2.trans (hk z iz).2.symm, _, same_new nT _ _ h2, ?_, ?_, ?_⟩⟩
        · rw [List.length_replicate, sizeLine_eq]
          omega
        · rw [upd_same, lt, rep_succ]
        · intro b o e
          rw [upd_ne (ne_of_none e hD)]
          exact same_new nT _ _ (s2 _ _ e)
      · rintro H2 ⟨h2, s2⟩
        refine ⟨D, List.replicate _ true, rfl, SqL.of (by rw [List.map_replicate]; exact h2), ?_⟩
        rw [all_rep]
        exact k H2 (s1.trans s2)
end
end Toy
set_option Elab.async false
set_option linter.all false
set_option maxRecDepth 100000
set_option maxHeartbeats 4000000
namespace Toy
open PySem L2 Q RZ
/-- routers as a net takes them -/
abbrev RtOk (zs : List Str) : Prop := 2 ≤ zs.length ∧ zs.length ≤ 8 ∧ ∀ z ∈ zs, NameOk z
def spRouters : Sp := fun vs H Q _ => ∃ (r : Addr) (zs : List Str), vs = [.ref r] ∧ H r = some (.tup (zs.map V.str)) ∧ (∀ z ∈ zs, z.length ≤ 1000000) ∧ zs.length ≤ 1000 ∧ zs.Pairwise tLt ∧
  ∀ b : Bool, (b = true ↔ RtOk zs) → ∀ H', Same H H' → Q (.bl b) H'
/-- a link of routers -/
def LkOk (zs : List Str) (k : List Key) : Prop := ∃ (a b : Str) (x y : Int), k = [.inr a, .inr b, .inl x, .inl y] ∧ a ∈ zs ∧ b ∈ zs ∧ tLt a b ∧ 1 ≤ x ∧ 1 ≤ y
abbrev pLt (k l : List Key) : Prop := ksLt (k.take 2) (l.take 2) = true
def spLink : Sp := fun vs H Q _ => ∃ (t r : Addr) (zs : List Str) (k : List Key), vs = [.ref t, .ref r] ∧ H t = some (.tup (k.map kV)) ∧ H r = some (.tup (zs.map V.str)) ∧ LkOk zs k ∧
  ∀ H', Same H H' → Q (.bl true) H'
/-- links of routers, by their pairs -/
structure Lks (H : Hp) (zs : List Str) (l : Addr) (ls : List (Addr × List Key)) : Prop where
  at_ : H l = some (.tup (ls.map fun q => V.ref q.1))
  el : ∀ q ∈ ls, H q.1 = some (.tup (q.2.map kV)) ∧ LkOk zs q.2
  up : ls.Pairwise fun p q => pLt p.2 q.2
  few : ls.length ≤ 100
theorem Lks.same {H H' : Hp} {zs : List Str} {l : Addr} {ls : List (Addr × List Key)} (h : Lks H zs l ls) (s : Same H H') : Lks H' zs l ls :=
  ⟨s _ _ h.at_, fun q hq => ⟨s _ _ (h.el q hq).1, (h.el q hq).2⟩, h.up, h.few⟩
def spLinks : Sp := fun vs H Q _ => ∃ (l r : Addr) (zs : List Str) (ls : List (Addr × List Key)), vs = [.ref l, .ref r] ∧ H r = some (.tup (zs.map V.str)) ∧ Lks H zs l ls ∧
  ∀ b : Bool, (b = true ↔ ls.length ≤ 16) → ∀ H', Same H H' → Q (.bl b) H'
theorem flat_strs : ∀ zs : List Str, (zs.map V.str).all flatV = true
  | [] => rfl
  | z :: zs => by rw [List.map_cons, List.all_cons, flat_strs zs]; rfl
theorem in_strs {a : Str} : ∀ {zs : List Str}, inV (V.str a) (zs.map V.str) = true ↔ a ∈ zs
  | [] => by simp [inV]
  | z :: zs => by
    have ih := in_strs (a := a) (zs := zs)
    unfold inV at ih ⊢
    rw [List.map_cons, List.any_cons, Bool.or_eq_true, ih, List.mem_cons]
    refine or_congr_left ?_
    show (z == a) = true ↔ a = z
    rw [beq_iff_eq]
    exact eq_comm
theorem iteB {c : Bool} {A B : Prop} (h : c = true) (a : A) : if c = true then A else B := by
  rw [if_pos h]
  exact a
section
variable {P : Program} {w : World} {K : PySem.W.Frag} {mg : Str → Option Value} {base : Heap} {ca ia fa : Nat → Addr} {fd fi : Nat → FuncData}
theorem ok_routers (T : Txt K mg ca ia fa fd fi) : FnOk P w K mg base CX0 2 (fa 22) (fd 22) ["value"] spRouters := by
  have G_is_name := ok_name (P := P) (w := w) (base := base) T
  have G_is_rising := ok_rising (P := P) (w := w) (base := base) T
  obtain ⟨t1, hv_FEWEST_ROUTERS⟩ := T.v_FEWEST_ROUTERS
  obtain ⟨t2, hv_MOST_ROUTERS⟩ := T.v_MOST_ROUTERS
  refine T.F_are_routers.ok sc_are_routers (fun vs H Q E h => ?_) (fun cdv A outer s H vs Q E hr h => ?_)
  · obtain ⟨r, zs, rfl, _⟩ := h
    rfl
  · obtain ⟨r, zs, rfl, hz, big, few, pw, k⟩ := h
    refine ⟨_, (pss_cons (ps_if (PW.pt (pw_or (pt_not (pt_val (pe_callB call_isi (by rfl) T.n_isinstance (by decide +kernel) (pa_cons (pv 0) (pa_cons (pe_bltn (v := .ty "tuple") (by rfl) T.n_tuple (by decide +kernel) rfl) pa_nil))))) (pw_or1 (pt_not (pt_chain op_le op_le (pe_glob rfl hv_FEWEST_ROUTERS (v := .int 2) ⟨_, rfl⟩) (pe_callB call_len (by rfl) T.n_len (by decide +kernel) (pa_cons (pv 0) pa_nil)) (pe_glob rfl hv_MOST_ROUTERS (v := .int 8) ⟨_, rfl⟩)))))) (pss_one (ps_ret pe_bl)) pss_nil)
      (pss_one (ps_ret (pe_and (pe_callB (cr_all rfl) (by rfl) T.n_all (by decide +kernel) (pa_cons (pe_lc (own := [("name", 1)]) (g := (gName 1)) (tt := tYes) rfl sc_are_routers.nd (pi_tup (pv 0)) (blkOk_by (own := [("name", 1)]) (N := N_are_routers) (sc := defScope s_are_routers) (by decide +kernel)) (fun _ _ _ _ _ => (pg_name (i := 1) sc_are_routers.nd rfl (Or.inl rfl))) (fun _ _ _ _ _ => pts_nil) (fun _ _ _ _ _ => by exact (pe_call G_is_name (hr.mono (by decide)) rfl T.g_is_name T.k_is_name T.b_is_name .nil pass0 (pa_cons (pv 1) pa_nil)))) pa_nil)) (pe_one (pe_call G_is_rising (hr.mono (by decide)) rfl T.g_is_rising T.k_is_rising T.b_is_rising .nil pass0 (pa_cons (pv 0) pa_nil))))))), ?_⟩
    have lz : (zs.map V.str).length = zs.length := List.length_map ..
    have no : ¬ RtOk zs → Q (.bl false) H := fun n => k false ⟨fun q => (by cases q), fun q => absurd q n⟩ H (Same.refl H)
    refine ⟨_, rfl, .ref r, .ty "tuple", _, _, true, rfl, .ty _, .base (.tup hz), rfl, _, rfl, ?_⟩
    refine ite2 (fun c => (by cases c)) fun _ => ?_
    refine ⟨_, rfl, _, _, rfl, .inr ⟨_, SqT.of hz, rfl⟩, _, _, rfl, rfl, _, rfl, ite2 (fun c1 => ?_) (fun c1 => ?_)⟩
    · have l1 : (2 : Int) ≤ ((zs.map V.str).length : Nat) := of_decide_eq_true c1
      refine ⟨_, _, rfl, rfl, _, rfl, ite2 (fun c2 => ?_) (fun c2 => ?_)⟩
      · have l2 : ¬ (((zs.map V.str).length : Nat) : Int) ≤ 8 := fun q => by
          rw [decide_eq_true q] at c2
          cases c2
        exact no fun q => l2 (by rw [lz]; have := q.2.1; omega)
      · have l2 : (((zs.map V.str).length : Nat) : Int) ≤ 8 := Classical.byContradiction fun q => c2 (by rw [decide_eq_false q]; rfl)
        rw [lz] at l1 l2
        refine nxt ?_
        refine ⟨_, rfl, r, rfl, ⟨_, SqT.of hz⟩, fun D hD => ?_⟩
        refine lc_it (walk_tup (xs := zs.map V.str)) (fun i H' => ∃ bs : List Bool, bs.length = i ∧ H' D = some (.lst (bs.map V.bl)) ∧ Same H H' ∧ (bs.all id = true ↔ ∀ z ∈ zs.take i, NameOk z))
          ⟨[], rfl, upd_same, same_new hD, by simp⟩ (fun i H' _ q => ?_) ?_ ?_
        · obtain ⟨_, _, _, q, _⟩ := q
          exact SqT.of (q _ _ hz)
        · rintro i x H1 H2 hi ⟨bs, lb, hb, s1, iff1⟩ ⟨rfl, hx⟩
          obtain ⟨z, hz2, rfl⟩ := at_map hx
          refine ⟨rfl, ?_⟩
          dsimp only [tYes]
          rw [if_pos rfl]
          have mz := List.mem_of_getElem? hz2
          refine ⟨_, rfl, z, rfl, big z mz, fun b hb2 H3 s3 => ⟨_, s3 _ _ hb, ?_, bs ++ [b], by simp [lb], ?_, fun d u e => ?_, ?_⟩⟩
          · rw [List.length_map, sizeLine_eq]
            rw [lz] at hi
            omega
          · rw [upd_same, List.map_append]
            rfl
          · rw [upd_ne (ne_of_none e hD)]
            exact s3 _ _ (s1 _ _ e)
          · rw [List.take_add_one, hz2, List.all_append, Bool.and_eq_true, iff1]
            constructor
            · rintro ⟨q1, q2⟩ d hd
              rcases List.mem_append.mp hd with q | q
              · exact q1 d q
              · have e : d = z := by simpa using q
                rw [e]
                exact hb2.1 (by simpa using q2)
            · intro q
              refine ⟨fun d hd => q d (List.mem_append_left _ hd), ?_⟩
              have e := hb2.2 (q z (List.mem_append_right _ (by simp)))
              simp [e]
        · rintro H1 ⟨bs, lb, hb, s1, iff1⟩
          rw [lz, List.take_length] at iff1
          refine ⟨D, bs, rfl, SqL.of hb, _, rfl, ite2 (fun c => ?_) fun c => ?_⟩
          · refine ⟨_, rfl, r, rfl, fun H2 s2 => ?_, .inl ⟨zs, s1 _ _ hz, pw, few⟩⟩
            exact k true ⟨fun _ => ⟨by omega, by omega, iff1.1 c⟩, fun _ => rfl⟩ H2 (s1.trans s2)
          · exact k false ⟨fun q => (by cases q), fun q => absurd (iff1.2 q.2.2) c⟩ H1 s1
    · have l1 : ¬ (2 : Int) ≤ ((zs.map V.str).length : Nat) := fun q => c1 (decide_eq_true q)
      refine ⟨_, rfl, ite2 (fun _ => ?_) (fun c2 => absurd rfl c2)⟩
      exact no fun q => l1 (by rw [lz]; have := q.1; omega)
theorem ok_is_link (T : Txt K mg ca ia fa fd fi) : FnOk P w K mg base CX0 4 (fa 24) (fd 24) ["value", "routers"] spLink := by
  have G_is_length := ok_length (P := P) (w := w) (base := base) T
  refine T.F_is_link.ok sc_is_link (fun vs H Q E h => ?_) (fun cdv A outer s H vs Q E hr h => ?_)
  · obtain ⟨t, r, zs, k, rfl, _⟩ := h
    rfl
  · obtain ⟨t, r, zs, k, rfl, ht, hz, ⟨a, b, x, y, rfl, ha, hb, ab, hx, hy⟩, q⟩ := h
    refine ⟨_, (pss_cons (ps_if (PW.pt (pw_or (pt_not (pt_val (pe_callB call_isi (by rfl) T.n_isinstance (by decide +kernel) (pa_cons (pv 0) (pa_cons (pe_bltn (v := .ty "tuple") (by rfl) T.n_tuple (by decide +kernel) rfl) pa_nil))))) (pw_or1 (pt_cmpR op_ne (pe_callB call_len (by rfl) T.n_len (by decide +kernel) (pa_cons (pv 0) pa_nil)) pe_int (nomark _))))) (pss_one (ps_ret pe_bl)) pss_nil)
      (pss_cons (ps_asg (pv 0) (pg_tup rfl (pgs_cons (pg_name (i := 2) sc_is_link.nd rfl (Or.inl rfl)) (pgs_cons (pg_name (i := 3) sc_is_link.nd rfl (Or.inl rfl)) (pgs_cons (pg_name (i := 4) sc_is_link.nd rfl (Or.inl rfl)) (pgs_cons (pg_name (i := 5) sc_is_link.nd rfl (Or.inl rfl)) pgs_nil))))))
      (pss_one (ps_ret (pe_and (pe_cmpR op_in_seq (pv 2) (pv 1) rfl) (pe_and (pe_cmpR op_in_seq (pv 3) (pv 1) rfl) (pe_and (pe_cmpR op_lt_str (pv 2) (pv 3) (nomark _)) (pe_and (pe_call G_is_length (hr.mono (by decide)) rfl T.g_is_length T.k_is_length T.b_is_length .nil pass0 (pa_cons (pv 4) pa_nil)) (pe_one (pe_call G_is_length (hr.mono (by decide)) rfl T.g_is_length T.k_is_length T.b_is_length .nil pass0 (pa_cons (pv 5) pa_nil))))))))))), ?_⟩
    refine ⟨_, rfl, .ref t, .ty "tuple", _, _, true, rfl, .ty _, .base (.tup ht), rfl, _, rfl, ?_⟩
    refine ite2 (fun c => (by cases c)) fun _ => ?_
    refine ⟨_, rfl, _, _, rfl, .inr ⟨_, SqT.of ht, rfl⟩, rfl, _, rfl, ite2 (fun c => absurd (show (!decide (V.int 4 = V.int 4)) = true from c) (by decide)) fun _ => ?_⟩
    refine nxt ?_
    refine ⟨_, rfl, t, _, rfl, SqT.of ht, rfl, _, _, rfl, _, _, rfl, _, _, rfl, _, _, rfl, rfl, ?_⟩
    refine nxt ?_
    have flat : (zs.map V.str).all flatV = true := flat_strs zs
    refine ⟨_, rfl, _, rfl, r, _, rfl, .inr (SqT.of hz), rfl, flat, _, rfl, ?_⟩
    refine iteB (by exact in_strs.mpr ha) ⟨_, rfl, _, rfl, r, _, rfl, .inr (SqT.of hz), rfl, flat, _, rfl, ?_⟩
    refine iteB (by exact in_strs.mpr hb) ⟨_, rfl, _, rfl, _, _, rfl, rfl, _, rfl, ?_⟩
    rw [if_pos (decide_eq_true ab)]
    refine ⟨_, rfl, x, rfl, _, rfl, ?_⟩
    rw [if_pos (decide_eq_true hx)]
    refine ⟨_, rfl, y, rfl, ?_⟩
    rw [decide_eq_true hy]
    exact q H (Same.refl H)
theorem ok_are_links (T : Txt K mg ca ia fa fd fi) : FnOk P w K mg base CX0 5 (fa 23) (fd 23) ["value", "routers"] spLinks := by
  have G_is_link := ok_is_link (P := P) (w := w) (base := base) T
  have G_is_rising := ok_rising (P := P) (w := w) (base := base) T
  obtain ⟨t1, hv_MOST_LINKS⟩ := T.v_MOST_LINKS
  refine T.F_are_links.ok sc_are_links (fun vs H Q E h => ?_) (fun cdv A outer s H vs Q E hr h => ?_)
  · obtain ⟨l, r, zs, ls, rfl, _⟩ := h
    rfl
  · obtain ⟨l, r, zs, ls, rfl, hz, hl, k⟩ := h
    refine ⟨_, (pss_cons (ps_if (PW.pt (pw_or (pt_not (pt_val (pe_callB call_isi (by rfl) T.n_isinstance (by decide +kernel) (pa_cons (pv 0) (pa_cons (pe_bltn (v := .ty "tuple") (by rfl) T.n_tuple (by decide +kernel) rfl) pa_nil))))) (pw_or1 (pt_cmpR op_gt (pe_callB call_len (by rfl) T.n_len (by decide +kernel) (pa_cons (pv 0) pa_nil)) (pe_glob rfl hv_MOST_LINKS (v := .int 16) ⟨_, rfl⟩) (nomark _))))) (pss_one (ps_ret pe_bl)) pss_nil)
      (pss_one (ps_ret (pe_and (pe_callB (cr_all rfl) (by rfl) T.n_all (by decide +kernel) (pa_cons (pe_lc (own := [("link", 2)]) (g := (gName 2)) (tt := tYes) rfl sc_are_links.nd (pi_tup (pv 0)) (blkOk_by (own := [("link", 2)]) (N := N_are_links) (sc := defScope s_are_links) (by decide +kernel)) (fun _ _ _ _ _ => (pg_name (i := 2) sc_are_links.nd rfl (Or.inl rfl))) (fun _ _ _ _ _ => pts_nil) (fun _ _ _ _ _ => by exact (pe_call G_is_link (hr.mono (by decide)) rfl T.g_is_link T.k_is_link T.b_is_link .nil pass0 (pa_cons (pv 2) (pa_cons (pv 1) pa_nil))))) pa_nil)) (pe_one (pe_call G_is_rising (hr.mono (by decide)) rfl T.g_is_rising T.k_is_rising T.b_is_rising .nil pass0 (pa_cons (pe_lc (own := [("link", 2)]) (g := (gName 2)) (tt := tYes) (te := (tSl (rSlA K) (tVar 2) tNoPart (tPart (tC (.int 2))))) rfl sc_are_links.nd (pi_tup (pv 0)) (blkOk_by (own := [("link", 2)]) (N := N_are_links) (sc := defScope s_are_links) (by decide +kernel)) (fun _ _ _ _ _ => (pg_name (i := 2) sc_are_links.nd rfl (Or.inl rfl))) (fun _ _ _ _ _ => pts_nil) (fun _ _ _ _ _ => by exact (pe_slice sl_tupA (pv 2) po_none (po_some pe_int)))) pa_nil))))))), ?_⟩
    have ll : (ls.map fun q => V.ref q.1).length = ls.length := List.length_map ..
    refine ⟨_, rfl, .ref l, .ty "tuple", _, _, true, rfl, .ty _, .base (.tup hl.at_), rfl, _, rfl, ?_⟩
    refine ite2 (fun c => (by cases c)) fun _ => ?_
    refine ⟨_, rfl, _, _, rfl, .inr ⟨_, SqT.of hl.at_, rfl⟩, _, _, rfl, rfl, _, rfl, ite2 (fun c => ?_) fun c => ?_⟩
    · have c1 := of_decide_eq_true c
      rw [ll] at c1
      exact k false ⟨fun q => (by cases q), fun q => absurd q (by omega)⟩ H (Same.refl H)
    have c1 : ¬ ((16 : Int) < ((ls.map fun q => V.ref q.1).length : Nat)) := fun q => c (decide_eq_true q)
    rw [ll] at c1
    have out : ∀ H', Same H H' → Q (.bl true) H' := k true ⟨fun _ => by omega, fun _ => rfl⟩
    refine nxt ?_
    refine ⟨_, rfl, l, rfl, ⟨_, SqT.of hl.at_⟩, fun D hD => ?_⟩
    refine lc_it (walk_tup (xs := ls.map fun q => V.ref q.1)) (fun i H' => H' D = some (.lst (List.replicate i (V.bl true))) ∧ Same H H') ⟨upd_same, same_new hD⟩ (fun i H' _ q => SqT.of (q.2 _ _ hl.at_)) ?_ ?_
    · rintro i x H1 H2 hi ⟨h1, s1⟩ ⟨rfl, hx⟩
      obtain ⟨q, hq, rfl⟩ := at_map hx
      have mq := List.mem_of_getElem? hq
      refine ⟨rfl, ?_⟩
      dsimp only [tYes]
      rw [if_pos rfl]
      refine ⟨_, rfl, _, rfl, q.1, r, zs, q.2, rfl, s1 _ _ (hl.el q mq).1, s1 _ _ hz, (hl.el q mq).2, fun H3 s3 => ⟨_, s3 _ _ h1, ?_, ?_, fun b o e => ?_⟩⟩
      · rw [List.length_replicate, sizeLine_eq]
        rw [ll] at hi
        omega
      · rw [upd_same, rep_succ]
      · rw [upd_ne (ne_of_none e hD)]
        exact s3 _ _ (s1 _ _ e)
    · rintro H1 ⟨h1, s1⟩
      refine ⟨D, List.replicate _ true, rfl, SqL.of (by rw [List.map_replicate]; exact h1), ?_⟩
      rw [all_rep]
      refine ⟨_, rfl, ?_⟩
      rw [if_pos rfl]
      have hl1 := hl.same s1
      refine ⟨_, rfl, l, rfl, ⟨_, SqT.of hl1.at_⟩, fun D2 hD2 => ?_⟩
      refine lc_it (walk_tup (xs := ls.map fun q => V.ref q.1)) (fun i H' => ∃ ts : List (Addr × List Key), ts.map (·.2) = (ls.take i).map (fun q => q.2.take 2) ∧ H' D2 = some (.lst (ts.map fun q => V.ref q.1)) ∧ (∀ q ∈ ts, H' q.1 = some (.tup (q.2.map kV))) ∧ Same H1 H')
        ⟨[], by rw [List.take_zero]; rfl, upd_same, (fun _ q => by cases q), same_new hD2⟩ (fun i H' _ q => ?_) ?_ ?_
      · obtain ⟨_, _, _, _, q⟩ := q
        exact SqT.of (q _ _ hl1.at_)
      · rintro i x H2 H3 hi ⟨ts, et, h2, el, s2⟩ ⟨rfl, hx⟩
        obtain ⟨q, hq, rfl⟩ := at_map hx
        have mq := List.mem_of_getElem? hq
        have lt : ts.length = i := by
          have e := congrArg List.length et
          rw [List.length_map, List.length_map, List.length_take] at e
          rw [ll] at hi
          omega
        refine ⟨rfl, ?_⟩
        dsimp only [tYes]
        rw [if_pos rfl]
        have hq2 := s2 _ _ (hl1.el q mq).1
        refine ⟨_, rfl, _, rfl, slT hq2 fun t H4 s4 ht => ?_⟩
        rw [show cutV (q.2.map kV) none (some 2) = (q.2.take 2).map kV from by rw [List.map_take]; exact cut_take _ 2] at ht
        have h4 := s4 _ _ h2
        have ntD : t ≠ D2 := fun z => by rw [z, h4] at ht; cases ht
        refine ⟨_, h4, ?_, ts ++ [(t, q.2.take 2)], ?_, ?_, fun p hp => ?_, fun b o e => ?_⟩
        · rw [List.length_map, sizeLine_eq, lt]
          rw [ll] at hi
          omega
        · rw [List.map_append, et, List.take_add_one (l := ls), show ls[i]? = some q from hq, List.map_append]
          rfl
        · rw [upd_same, List.map_append]
          rfl
        · rcases List.mem_append.mp hp with z | z
          · rw [upd_ne (fun y => by have e := s4 _ _ (el p z); rw [y, h4] at e; cases e)]
            exact s4 _ _ (el p z)
          · rw [List.mem_singleton.mp z, upd_ne ntD]
            exact ht
        · rw [upd_ne (ne_of_none e hD2)]
          exact s4 _ _ (s2 _ _ e)
      · rintro H2 ⟨ts, et, h2, el, s2⟩
        rw [ll, List.take_length] at et
        have lt : ts.length = ls.length := by
          have e := congrArg List.length et
          rw [List.length_map, List.length_map] at e
          exact e
        have pw : (ts.map (·.2)).Pairwise fun k l => ksLt k l = true := by
          rw [et]
          exact List.pairwise_map.mpr hl.up
        refine ⟨D2, rfl, fun H3 s3 => out H3 ((s1.trans s2).trans s3), .inr ⟨ts, [false, false], SqL.of h2, fun p hp => ⟨SqT.of (el p hp), ?_⟩, List.pairwise_map.mp pw, by have := hl.few; omega⟩⟩
        have mp : p.2 ∈ ts.map (·.2) := List.mem_map_of_mem hp
        rw [et] at mp
        obtain ⟨q, hq, e⟩ := List.mem_map.mp mp
        obtain ⟨_, a, b, x, y, e2, _⟩ := hl.el q hq
        rw [← e, e2]
        rfl
end
end Toy
set_option Elab.async false
set_option linter.all false
set_option maxRecDepth 100000
set_option maxHeartbeats 4000000
namespace Toy
open PySem L2 Q RZ
abbrev netFs (r l : Addr) : List (Str × V) := [("_routers", .ref r), ("_links", .ref l)]
/-- a net at n with these routers and links -/
def NetO (C : Addr) (H : Hp) (n r l : Addr) : Prop := ∃ dx, H n = some (.ins C dx (netFs r l))
theorem NetO.same {C : Addr} {H H' : Hp} {n r l : Addr} (h : NetO C H n r l) (s : Same H H') : NetO C H' n r l := let ⟨dx, e⟩ := h; ⟨dx, s _ _ e⟩
theorem put_links (u v : V) : putF "_links" v (putF "_routers" u []) = ([("_routers", u), ("_links", v)] : List (Str × V)) := by
  unfold putF
  simp only [putF]
  rw [if_neg (by decide)]
/-- an error of one value, raised -/
theorem oexc {C : Addr} {f : Str} {v : V} {H : Hp} {Q : XK} (q : ∀ d H', Same H H' → H' d = some (.xd [(f, v)]) → Q (.ref C) (some d) H') :
    ([v] : List V).length ≤ 1000 ∧ ∀ a, H a = none → spI1 C f (.ref a :: ([v] ++ [])) (upd H a (exo a C none))
      (fun u H2 => u = .non ∧ ∃ (d : Addr) (fs : List (Str × V)), H2 a = some (exo a C (some d)) ∧ H2 d = some (exd d fs) ∧ H d = none ∧ Q (.ref C) (some d) (upd (del H2 a) d (.xd fs))) (fun _ _ _ => False) := by
  refine ⟨(by show 1 ≤ 1000; decide), fun a na => ⟨a, v, rfl, upd_same, fun d H2 b nd ea ed => ?_⟩⟩
  have nd0 : H d = none := by
    cases z : H d with
    | none => rfl
    | some o =>
      rw [same_new na _ _ z] at nd
      cases nd
  refine ⟨rfl, d, _, ea, ed, nd0, q d _ (fun c o e => ?_) upd_same⟩
  rw [upd_ne (ne_of_none e nd0), del_ne (ne_of_none e na)]
  exact b c o (ne_of_none e na) (same_new na _ _ e)
/-- Net(routers, links): made, or refused by the pair of both -/
def spInit (C B : Addr) : Sp := fun vs H Q E => ∃ (x r l : Addr) (zs : List Str) (ls : List (Addr × List Key)), vs = [.ref x, .ref r, .ref l] ∧ (∃ dx, H x = some (.ins C dx [])) ∧
  H r = some (.tup (zs.map V.str)) ∧ (∀ z ∈ zs, z.length ≤ 1000000) ∧ zs.length ≤ 1000 ∧ zs.Pairwise tLt ∧ Lks H zs l ls ∧
  (RtOk zs ∧ ls.length ≤ 16 → ∀ H', But x H H' → NetO C H' x r l → Q .non H') ∧
  (¬ (RtOk zs ∧ ls.length ≤ 16) → ∀ d t H', Same H H' → H' d = some (.xd [("value", .ref t)]) → H' t = some (.tup [.ref r, .ref l]) → E (.ref B) (some d) H')
theorem mk_net {C B : Addr} {H : Hp} {r l : Addr} {zs : List Str} {ls : List (Addr × List Key)} {Q : VK} {E : XK} (hr : H r = some (.tup (zs.map V.str))) (big : ∀ z ∈ zs, z.length ≤ 1000000) (few : zs.length ≤ 1000) (pw : zs.Pairwise tLt) (hl : Lks H zs l ls)
    (ok : RtOk zs ∧ ls.length ≤ 16 → ∀ n H', H n = none → Same H H' → NetO C H' n r l → Q (.ref n) H')
    (no : ¬ (RtOk zs ∧ ls.length ≤ 16) → ∀ d t H', Same H H' → H' d = some (.xd [("value", .ref t)]) → H' t = some (.tup [.ref r, .ref l]) → E (.ref B) (some d) H') :
    ∀ x dx, H x = none → H dx = none → dx ≠ x → spInit C B (.ref x :: ([.ref r, .ref l] ++ [])) (upd (upd H dx (.own x)) x (.ins C dx [])) (fun v H2 => v = .non ∧ Q (.ref x) H2) E := by
  intro x dx nx nd ne
  have s1 : Same H (upd (upd H dx (.own x)) x (.ins C dx [])) := fun b o e => by
    rw [upd_ne (ne_of_none e nx), upd_ne (ne_of_none e nd)]
    exact e
  refine ⟨x, r, l, zs, ls, rfl, ⟨dx, upd_same⟩, s1 _ _ hr, big, few, pw, hl.same s1, fun h H' b n => ⟨rfl, ok h x H' nx (fun c o e => b c o (ne_of_none e nx) (s1 _ _ e)) n⟩, fun h d t H' s e1 e2 => no h d t H' (s1.trans s) e1 e2⟩
section
variable {P : Program} {w : World} {K : PySem.W.Frag} {mg : Str → Option Value} {base : Heap} {ca ia fa : Nat → Addr} {fd fi : Nat → FuncData}
theorem ok_init (T : Txt K mg ca ia fa fd fi) : FnOk P w K mg base (L2.CX P w) 6 (ia 100) (fi 100) ["self", "routers", "links"] (spInit (ca 18) (ca 2)) := by
  have G_are_routers := ok_routers (P := P) (w := w) (base := base) T
  have G_are_links := ok_are_links (P := P) (w := w) (base := base) T
  refine T.F_m_init.okX sc_m_init (fun vs H Q E h => ?_) (fun cdv A outer s H vs Q E hr h => ?_)
  · obtain ⟨x, r, l, zs, ls, rfl, _⟩ := h
    rfl
  · obtain ⟨x, r, l, zs, ls, rfl, ⟨dx, hx⟩, hz, big, few, pw, hl, ok, no⟩ := h
    refine ⟨_, (pss_cons (ps_if (PW.pt (pw_or (pt_not (pt_val (pe_call G_are_routers (hr.mono (by decide)) rfl T.g_are_routers T.k_are_routers T.b_are_routers .nil pass0 (pa_cons (pv 1) pa_nil)))) (pw_or1 (pt_not (pt_val (pe_call G_are_links (hr.mono (by decide)) rfl T.g_are_links T.k_are_links T.b_are_links .nil pass0 (pa_cons (pv 2) (pa_cons (pv 1) pa_nil)))))))) (pss_one (ps_raise rfl (takes_of rfl rfl rfl rfl) (pmk_oex T.c_BadNet.oex T.iC_BadNet T.tI_BadNet (in_BadNet T) (hr.mono (by decide)) T.bi_BadNet .nil pass0 rfl T.c_BadNet.g (pa_cons (pe_tup (pa_cons (pv 1) (pa_cons (pv 2) pa_nil))) pa_nil)))) pss_nil)
      (pss_cons (ps_fld (pv 0) (pv 1) rfl)
      (pss_one (ps_fld (pv 0) (pv 2) rfl)))), ?_⟩
    have bad : ∀ H', Same H H' → ¬ (RtOk zs ∧ ls.length ≤ 16) → ∀ t, H' t = none → ∀ d H2, Same (upd H' t (.tup [.ref r, .ref l])) H2 → H2 d = some (.xd [("value", .ref t)]) → E (.ref (ca 2)) (some d) H2 := fun H' s n t nt d H2 s2 e => no n d t H2 ((s.trans (same_new nt)).trans s2) e (s2 _ _ upd_same)
    refine ⟨_, rfl, r, zs, rfl, hz, big, few, pw, fun b hb H1 s1 => ?_⟩
    have raise : ∀ H', Same H H' → ¬ (RtOk zs ∧ ls.length ≤ 16) → tMkO (ca 2) (spI1 (ca 2) "value") [] (tCons (tTup (tCons (tVar 1) (tCons (tVar 2) tNil))) tNil) (L2.start N_m_init [V.ref x, V.ref r, V.ref l]) H' E := fun H' s n =>
      ⟨_, rfl, _, rfl, (by show 2 ≤ sizeLine; decide), fun t nt => oexc fun d H2 s2 e => bad H' s n t nt d H2 s2 e⟩
    cases b with
    | false => exact ⟨_, rfl, raise H1 s1 fun q => by cases hb.2 q.1⟩
    | true =>
      have hz1 := hb.1 rfl
      refine ⟨_, rfl, ?_⟩
      refine ⟨_, rfl, _, rfl, l, r, zs, ls, rfl, s1 _ _ hz, hl.same s1, fun b2 hb2 H2 s2 => ?_⟩
      cases b2 with
      | false => exact ⟨_, rfl, raise H2 (s1.trans s2) fun q => by cases hb2.2 q.2⟩
      | true =>
        refine ⟨_, rfl, ?_⟩
        show Ends.nx _ _ _
        refine nxt ?_
        have hx2 := s2 _ _ (s1 _ _ hx)
        refine ⟨_, rfl, _, rfl, x, _, dx, _, rfl, hx2, T.cl_Net, T.no_Net_routers, (by show 0 < 1000; decide), ?_⟩
        refine nxt ?_
        refine ⟨_, rfl, _, rfl, x, _, dx, _, rfl, upd_same, T.cl_Net, T.no_Net_links, (by show 1 < 1000; decide), ?_⟩
        refine ok ⟨hz1, hb2.1 rfl⟩ _ (fun c o nc e => ?_) ⟨dx, ?_⟩
        · rw [upd_ne nc, upd_ne nc]
          exact s2 _ _ (s1 _ _ e)
        · rw [upd_same]
          exact congrArg (fun z => some (HO.ins _ dx z)) (put_links _ _)
theorem ok_m_routers (T : Txt K mg ca ia fa fd fi) : FnOk P w K mg base CX0 1 (ia 101) (fi 101) ["self"] (getSp (ca 18) "_routers") := by
  refine T.F_m_routers.ok sc_m_routers (fun vs H Q E h => ?_) (fun cdv A outer s H vs Q E hr h => ?_)
  · obtain ⟨a, dx, fs, v, rfl, _⟩ := h
    rfl
  · obtain ⟨a, dx, fs, v, rfl, ha, hl, q⟩ := h
    exact ⟨_, (pss_one (ps_ret (pe_fld (pv 0) rfl))), _, rfl, a, _, dx, fs, v, rfl, ha, T.cl_Net, T.no_Net_routers, hl, q⟩
theorem ok_m_links (T : Txt K mg ca ia fa fd fi) : FnOk P w K mg base CX0 1 (ia 102) (fi 102) ["self"] (getSp (ca 18) "_links") := by
  refine T.F_m_links.ok sc_m_links (fun vs H Q E h => ?_) (fun cdv A outer s H vs Q E hr h => ?_)
  · obtain ⟨a, dx, fs, v, rfl, _⟩ := h
    rfl
  · obtain ⟨a, dx, fs, v, rfl, ha, hl, q⟩ := h
    exact ⟨_, (pss_one (ps_ret (pe_fld (pv 0) rfl))), _, rfl, a, _, dx, fs, v, rfl, ha, T.cl_Net, T.no_Net_links, hl, q⟩
/-- need_router(net, a) of one of its routers -/
def spNeed1 (C : Addr) : Sp := fun vs H Q _ => ∃ (n r l : Addr) (zs : List Str) (a : Str), vs = [.ref n, .str a] ∧ NetO C H n r l ∧ H r = some (.tup (zs.map V.str)) ∧ a ∈ zs ∧ Q .non H
def spNeed2 (C : Addr) : Sp := fun vs H Q _ => ∃ (n r l : Addr) (zs : List Str) (a b : Str), vs = [.ref n, .str a, .str b] ∧ NetO C H n r l ∧ H r = some (.tup (zs.map V.str)) ∧ a ∈ zs ∧ b ∈ zs ∧ Q .non H
theorem ok_need_router (T : Txt K mg ca ia fa fd fi) : FnOk P w K mg base CX0 3 (fa 20) (fd 20) ["net", "value"] (spNeed1 (ca 18)) := by
  have G_m_routers := ok_m_routers (P := P) (w := w) (base := base) T
  obtain ⟨pr, hp_routers⟩ := T.P_routers
  refine T.F_need_router.ok sc_need_router (fun vs H Q E h => ?_) (fun cdv A outer s H vs Q E hr h => ?_)
  · obtain ⟨n, r, l, zs, a, rfl, _⟩ := h
    rfl
  · obtain ⟨n, r, l, zs, a, rfl, ⟨dx, hn⟩, hz, ha, q⟩ := h
    refine ⟨_, (pss_one (ps_if (pt_cmpR op_notIn_seq (pv 1) (pe_prop (pv 0) T.cl_Net hp_routers G_m_routers (hr.mono (by decide)) T.b_m_routers .nil pass0 rfl) rfl) (pss_one (ps_raise rfl takes0 (pmk_oex T.c_NoRouter.oex T.iC_NoRouter T.tI_NoRouter (in_NoRouter T) (hr.mono (by decide)) T.bi_NoRouter .nil pass0 rfl T.c_NoRouter.g (pa_cons (pv 1) pa_nil)))) pss_nil)), ?_⟩
    refine ⟨_, rfl, _, rfl, n, dx, _, rfl, hn, n, dx, _, _, rfl, hn, rfl, r, _, rfl, .inr (SqT.of hz), rfl, flat_strs zs, _, rfl, ?_⟩
    have e : inV (V.str a) (zs.map V.str) = true := in_strs.mpr ha
    show (if (!inV (V.str a) (zs.map V.str)) = true then _ else _)
    rw [e]
    exact q
theorem ok_need_routers (T : Txt K mg ca ia fa fd fi) : FnOk P w K mg base CX0 4 (fa 19) (fd 19) ["net", "a", "b"] (spNeed2 (ca 18)) := by
  have G_need_router := ok_need_router (P := P) (w := w) (base := base) T
  refine T.F_need_routers.ok sc_need_routers (fun vs H Q E h => ?_) (fun cdv A outer s H vs Q E hr h => ?_)
  · obtain ⟨n, r, l, zs, a, b, rfl, _⟩ := h
    rfl
  · obtain ⟨n, r, l, zs, a, b, rfl, hn, hz, ha, hb, q⟩ := h
    refine ⟨_, (pss_cons (ps_expr (pe_call G_need_router (hr.mono (by decide)) rfl T.g_need_router T.k_need_router T.b_need_router .nil pass0 (pa_cons (pv 0) (pa_cons (pv 1) pa_nil))))
      (pss_one (ps_expr (pe_call G_need_router (hr.mono (by decide)) rfl T.g_need_router T.k_need_router T.b_need_router .nil pass0 (pa_cons (pv 0) (pa_cons (pv 2) pa_nil)))))), ?_⟩
    exact ⟨_, rfl, _, rfl, n, r, l, zs, a, rfl, hn, hz, ha, nxt ⟨_, rfl, _, rfl, n, r, l, zs, b, rfl, hn, hz, hb, q⟩⟩
end
end Toy
set_option Elab.async false
set_option linter.all false
set_option maxRecDepth 100000
set_option maxHeartbeats 4000000
namespace Toy
open PySem L2 Q RZ
abbrev pairK (a b : Str) : List Key := [.inr a, .inr b]
abbrev linkK (a b : Str) (x y : Int) : List Key := [.inr a, .inr b, .inl x, .inl y]
theorem perm_map {α β : Type} (g : α → β) {ys ws : List β} (p : ys.Perm ws) : ∀ {zs : List α}, ws = zs.map g → ∃ os : List α, os.Perm zs ∧ ys = os.map g := by
  induction p with
  | nil =>
    intro zs e
    cases zs with
    | nil => exact ⟨[], .nil, rfl⟩
    | cons z zs => cases e
  | cons x _ ih =>
    intro zs e
    cases zs with
    | nil => cases e
    | cons z zs =>
      injection e with e1 e2
      obtain ⟨os, q, r⟩ := ih e2
      exact ⟨z :: os, .cons _ q, by rw [e1, r, List.map_cons]⟩
  | swap x y l =>
    intro zs e
    cases zs with
    | nil => cases e
    | cons z zs =>
      cases zs with
      | nil => cases e
      | cons z2 zs =>
        injection e with e1 e2
        injection e2 with e2 e3
        exact ⟨z2 :: z :: zs, .swap _ _ _, by rw [e1, e2, e3, List.map_cons, List.map_cons]⟩
  | trans _ _ ih1 ih2 =>
    intro zs e
    obtain ⟨os, q, r⟩ := ih2 e
    obtain ⟨os2, q2, r2⟩ := ih1 r
    exact ⟨os2, q2.trans q, r2⟩
theorem ifAny {t : TT} {a u : TS} {D : Ends} {σ : L2.St} {H : Hp} (P : Hp → Prop) (h : ∀ Q : Bool → Hp → Prop, (∀ b H', P H' → Q b H') → t σ H Q)
    (ka : ∀ H', P H' → a D σ H') (ku : ∀ H', P H' → u D σ H') : tIfS t a u D σ H := h _ fun b H' p => by
  cases b
  · exact ku H' p
  · exact ka H' p
theorem for_enT {K : PySem.W.Frag} {a : Addr} {xs : List V} {g : TG} {tb : TS} {D : Ends} {σ : L2.St} {H : Hp} (Pv : Nat → L2.St → Hp → Prop) (h0 : Pv 0 σ H)
    (hl : ∀ i σ H, i ≤ xs.length → Pv i σ H → SqT K H a xs)
    (hs : ∀ i x T σ H, xs[i]? = some x → Pv i σ H → H T = none → g (.ref T) σ (upd H T (.tup [.int (i : Nat), x])) fun σ2 H2 => tb { D with nx := Pv (i + 1), ct := Pv (i + 1), bk := D.nx } σ2 H2)
    (hd : ∀ σ H, Pv xs.length σ H → D.nx σ H) :
    ∃ W : Nat → Nat → L2.St → Hp → Prop, (∃ m, W 0 m σ H) ∧ ∀ i m σ H, W i m σ H → ((ItT K a xs).stop i H ∧ D.nx σ H) ∨ ((ItT K a xs).go i H ∧
      ∃ N : L2.St → Hp → Prop, (∀ σ' H', N σ' H' → ∃ m', m' < m ∧ W (i + 1) m' σ' H') ∧ ∀ x H', (ItT K a xs).yld i H x H' → g x σ H' fun σ2 H2 => tb { D with nx := N, ct := N, bk := D.nx } σ2 H2) := by
  refine ⟨fun i m σ H => m + i = xs.length ∧ Pv i σ H, ⟨xs.length, rfl, h0⟩, ?_⟩
  rintro i m σ H ⟨e, q⟩
  have sq := hl i σ H (by omega) q
  by_cases hi : i < xs.length
  · refine .inr ⟨⟨sq, hi⟩, Pv (i + 1), fun σ' H' z => ⟨m - 1, by omega, by omega, z⟩, ?_⟩
    rintro x H' ⟨T, y, rfl, nT, rfl, hy⟩
    exact hs i y T σ H hy q nT
  · exact .inl ⟨⟨sq, by omega⟩, hd σ H (by rwa [show xs.length = i by omega])⟩
theorem pair_eqv (a b x y : Str) : PyData.eqv (.tuple ((pairK a b).map kD)) (.tuple [.str x, .str y]) = decide (pairK a b = pairK x y) := by
  rw [Bool.eq_iff_iff]
  simp [PyData.eqv, PyData.eqvAll, kD, pairK]
theorem low_ok {x : Str} (h : Low x) : PyData.strOk x = true := by
  unfold PyData.strOk
  rw [← Array.all_toList, List.all_eq_true]
  intro c hc
  have := h c hc
  exact decide_eq_true (by omega)
theorem pair_shaped {x y : Str} (hx : Low x) (hy : Low y) : SeqAt.shaped (.tuple [.str x, .str y]) = true := by
  simp [SeqAt.shaped, PyData.canLay0, PyData.canLayAll0, PyData.depth, PyData.depthAll, low_ok hx, low_ok hy]
theorem tup_notp {p : Addr} {H : Hp} {B : Nat} {t : Addr} {xs : List V} (h : H t = some (.tup xs)) (hp : Pot H p B) : t ≠ p := by
  rintro rfl
  obtain ⟨_, _, _, e, _⟩ := hp
  rw [h] at e
  cases e

theorem lks_irr : ∀ k : List Key, ksLt k k = false
  | [] => rfl
  | a :: as => by
    unfold ksLt
    rw [if_pos rfl]
    exact lks_irr as
/-- a net with its routers and links -/
structure NetW (C : Addr) (H : Hp) (n r l : Addr) (zs : List Str) (ls : List (Addr × List Key)) : Prop where
  net : NetO C H n r l
  rt : H r = some (.tup (zs.map V.str))
  ok : RtOk zs
  pw : zs.Pairwise tLt
  lk : Lks H zs l ls
  m : ls.length ≤ 16
section
variable {C : Addr} {H H' : Hp} {n r l : Addr} {zs : List Str} {ls : List (Addr × List Key)}
theorem NetW.same (h : NetW C H n r l zs ls) (s : Same H H') : NetW C H' n r l zs ls := ⟨h.net.same s, s _ _ h.rt, h.ok, h.pw, h.lk.same s, h.m⟩
theorem NetW.low (h : NetW C H n r l zs ls) {a : Str} (ha : a ∈ zs) : Low a := (h.ok.2.2 a ha).2.2
theorem Lks.nd (h : Lks H zs l ls) : (ls.map fun q => q.2.take 2).Nodup := by
  refine List.pairwise_map.mpr (h.up.imp fun {x y} e z => ?_)
  have e2 : ksLt (x.2.take 2) (y.2.take 2) = true := e
  rw [z, lks_irr] at e2
  cases e2
theorem nd_same {α β : Type} {f : α → β} {l : List α} (nd : (l.map f).Nodup) {i j : Nat} {x y : α} (hx : l[i]? = some x) (hy : l[j]? = some y) (e : f x = f y) : i = j := by
  obtain ⟨h1, rfl⟩ := List.getElem?_eq_some_iff.mp hx
  obtain ⟨h2, rfl⟩ := List.getElem?_eq_some_iff.mp hy
  have l1 : i < (l.map f).length := by rw [List.length_map]; exact h1
  have l2 : j < (l.map f).length := by rw [List.length_map]; exact h2
  exact (List.getElem_inj (h₀ := l1) (h₁ := l2) nd).mp (by rw [List.getElem_map, List.getElem_map]; exact e)
end
/-- net.length(a, b) of a link -/
def spLen (C : Addr) : Sp := fun vs H Q _ => ∃ (n r l : Addr) (zs : List Str) (ls : List (Addr × List Key)) (a b u v : Str) (x y : Int) (q : Addr × List Key), vs = [.ref n, .str a, .str b] ∧ NetW C H n r l zs ls ∧ q ∈ ls ∧ q.2 = linkK u v x y ∧
  ((a = u ∧ b = v ∧ ∀ H', Same H H' → Q (.int x) H') ∨ (a = v ∧ b = u ∧ ∀ H', Same H H' → Q (.int y) H'))
/-- the links but that of a and b -/
def woL (a b : Str) (ls : List (Addr × List Key)) : List (Addr × List Key) := ls.filter fun q => !decide (q.2.take 2 = pairK a b)
def spWo (C : Addr) : Sp := fun vs H Q _ => ∃ (n r l : Addr) (zs : List Str) (ls : List (Addr × List Key)) (a b : Str), vs = [.ref n, .str a, .str b] ∧ NetW C H n r l zs ls ∧ Low a ∧ Low b ∧
  ∀ D H', Same H H' → H D = none → H' D = some (.lst ((woL a b ls).map fun q => V.ref q.1)) → Q (.ref D) H'
section
variable {P : Program} {w : World} {K : PySem.W.Frag} {mg : Str → Option Value} {base : Heap} {ca ia fa : Nat → Addr} {fd fi : Nat → FuncData}
theorem dp_pair {H : Hp} {t : Addr} {a b : Str} (h : H t = some (.tup [.str a, .str b])) : Dp K H (.ref t) (.tuple [.str a, .str b]) := .tup (SqT.of h) (.cons (.str a) (.cons (.str b) .nil))
theorem ok_m_length (T : Txt K mg ca ia fa fd fi) : FnOk P w K mg base CX0 5 (ia 104) (fi 104) ["self", "a", "b"] (spLen (ca 18)) := by
  have G_need_routers := ok_need_routers (P := P) (w := w) (base := base) T
  have G_m_links := ok_m_links (P := P) (w := w) (base := base) T
  obtain ⟨pl, hp_links⟩ := T.P_links
  refine T.F_m_length.ok sc_m_length (fun vs H Q E h => ?_) (fun cdv A outer s H vs Q E hr h => ?_)
  · obtain ⟨n, r, l, zs, ls, a, b, u, v, x, y, q, rfl, _⟩ := h
    rfl
  · obtain ⟨n, r, l, zs, ls, a, b, u, v, x, y, q, rfl, hw, mq, eq, k⟩ := h
    refine ⟨_, (pss_cons (ps_expr (pe_call G_need_routers (hr.mono (by decide)) rfl T.g_need_routers T.k_need_routers T.b_need_routers .nil pass0 (pa_cons (pv 0) (pa_cons (pv 1) (pa_cons (pv 2) pa_nil)))))
      (pss_cons (ps_for PassesOwn.never rfl (pi_tup (pe_prop (pv 0) T.cl_Net hp_links G_m_links (hr.mono (by decide)) T.b_m_links .nil pass0 rfl)) (pg_tup rfl (pgs_cons (pg_name (i := 3) sc_m_length.nd rfl (Or.inl rfl)) (pgs_cons (pg_name (i := 4) sc_m_length.nd rfl (Or.inl rfl)) (pgs_cons (pg_name (i := 5) sc_m_length.nd rfl (Or.inl rfl)) (pgs_cons (pg_name (i := 6) sc_m_length.nd rfl (Or.inl rfl)) pgs_nil))))) (pss_cons (ps_if (pt_cmpR (op_eqD hr.units) (pe_tup (pa_cons (pv 1) (pa_cons (pv 2) pa_nil))) (pe_tup (pa_cons (pv 3) (pa_cons (pv 4) pa_nil))) (nomark _)) (pss_one (ps_ret (pv 5))) pss_nil)
      (pss_one (ps_if (pt_cmpR (op_eqD hr.units) (pe_tup (pa_cons (pv 2) (pa_cons (pv 1) pa_nil))) (pe_tup (pa_cons (pv 3) (pa_cons (pv 4) pa_nil))) (nomark _)) (pss_one (ps_ret (pv 6))) pss_nil))))
      (pss_one (ps_ret pe_non)))), ?_⟩
    obtain ⟨_, u', v', x', y', e2, hu, hv, uv, hx, hy⟩ := hw.lk.el q mq
    rw [eq] at e2
    cases e2
    have ha : a ∈ zs := by rcases k with ⟨rfl, _⟩ | ⟨rfl, _⟩ <;> assumption
    have hb : b ∈ zs := by rcases k with ⟨_, rfl, _⟩ | ⟨_, rfl, _⟩ <;> assumption
    obtain ⟨j, hj⟩ := List.mem_iff_getElem?.mp mq
    obtain ⟨dx, hn⟩ := hw.net
    refine ⟨_, rfl, _, rfl, _, rfl, n, r, l, zs, a, b, rfl, hw.net, hw.rt, ha, hb, ?_⟩
    refine nxt ?_
    refine ⟨_, rfl, n, dx, _, rfl, hn, n, dx, _, _, rfl, hn, rfl, l, rfl, ⟨_, SqT.of hw.lk.at_⟩, ?_⟩
    refine for_it (walk_tup (xs := ls.map fun q => V.ref q.1)) (fun i σ H' => i ≤ j ∧ Same H H' ∧ ∃ x3 x4 x5 x6 : Option V, σ = [some (.ref n), some (.str a), some (.str b), x3, x4, x5, x6]) ⟨Nat.zero_le _, Same.refl H, none, none, none, none, rfl⟩ (fun i σ H' _ z => SqT.of (z.2.1 _ _ hw.lk.at_)) ?_ ?_
    · rintro i x σ H1 H2 hi ⟨ij, s1, x3, x4, x5, x6, rfl⟩ ⟨rfl, hx⟩
      obtain ⟨p, hp, rfl⟩ := at_map hx
      obtain ⟨ep, c, d, cx, cy, e3, hc, hd, cd, _⟩ := hw.lk.el p (List.mem_of_getElem? hp)
      rw [e3] at ep
      refine ⟨p.1, _, rfl, SqT.of (s1 _ _ ep), rfl, _, _, rfl, _, _, rfl, _, _, rfl, _, _, rfl, rfl, ?_⟩
      refine ⟨_, rfl, _, rfl, (by show 2 ≤ sizeLine; decide), fun t1 n1 => ⟨_, rfl, _, rfl, (by show 2 ≤ sizeLine; decide), fun t2 n2 => ?_⟩⟩
      have la := hw.low ha
      have lb := hw.low hb
      have lc := hw.low hc
      have ld := hw.low hd
      have s3 : Same H (upd (upd H2 t1 (.tup [.str a, .str b])) t2 (.tup [.str c, .str d])) := (s1.trans (same_new n1)).trans (same_new n2)
      refine ⟨_, _, dp_pair (same_new n2 _ _ upd_same), dp_pair upd_same, pair_shaped la lb, pair_shaped lc ld, _, rfl, ite2 (fun e1 => ?_) fun e1 => ?_⟩
      · have e2 := of_decide_eq_true ((pair_eqv a b c d).symm.trans e1)
        cases e2
        refine ⟨_, rfl, ?_⟩
        rcases k with ⟨rfl, rfl, k⟩ | ⟨rfl, rfl, k⟩
        · have z := nd_same hw.lk.nd hj hp (by rw [eq, e3]; rfl)
          subst z
          rw [hj] at hp
          cases hp
          rw [eq] at e3
          cases e3
          exact k _ s3
        · exact absurd cd (List.lt_asymm uv)
      · refine nxt ?_
        refine stepH (fun H3 => Same H H3) s3 fun H3 s3 => ?_
        refine ⟨_, rfl, _, rfl, (by show 2 ≤ sizeLine; decide), fun t3 n3 => ⟨_, rfl, _, rfl, (by show 2 ≤ sizeLine; decide), fun t4 n4 => ?_⟩⟩
        have s4 : Same H (upd (upd H3 t3 (.tup [.str b, .str a])) t4 (.tup [.str c, .str d])) := (s3.trans (same_new n3)).trans (same_new n4)
        refine ⟨_, _, dp_pair (same_new n4 _ _ upd_same), dp_pair upd_same, pair_shaped lb la, pair_shaped lc ld, _, rfl, ite2 (fun e2 => ?_) fun e2 => ?_⟩
        · have e2 := of_decide_eq_true ((pair_eqv b a c d).symm.trans e2)
          cases e2
          refine ⟨_, rfl, ?_⟩
          rcases k with ⟨rfl, rfl, k⟩ | ⟨rfl, rfl, k⟩
          · exact absurd cd (List.lt_asymm uv)
          · have z := nd_same hw.lk.nd hj hp (by rw [eq, e3]; rfl)
            subst z
            rw [hj] at hp
            cases hp
            rw [eq] at e3
            cases e3
            exact k _ s4
        · refine nxt ⟨?_, s4, _, _, _, _, rfl⟩
          refine Nat.lt_of_le_of_ne ij fun z => ?_
          subst z
          rw [hj] at hp
          cases hp
          rw [eq] at e3
          cases e3
          rcases k with ⟨rfl, rfl, _⟩ | ⟨rfl, rfl, _⟩
          · exact e1 ((pair_eqv a b a b).trans (decide_eq_true rfl))
          · exact e2 ((pair_eqv b a b a).trans (decide_eq_true rfl))
    · rintro σ H1 ⟨ij, _⟩
      have := (List.getElem?_eq_some_iff.mp hj).1
      rw [List.length_map] at ij
      omega
theorem ok_m_wo (T : Txt K mg ca ia fa fd fi) : FnOk P w K mg base CX0 3 (ia 107) (fi 107) ["self", "a", "b"] (spWo (ca 18)) := by
  have G_m_links := ok_m_links (P := P) (w := w) (base := base) T
  obtain ⟨pl, hp_links⟩ := T.P_links
  refine T.F_m_u_links_without.ok sc_m_u_links_without (fun vs H Q E h => ?_) (fun cdv A outer s H vs Q E hr h => ?_)
  · obtain ⟨n, r, l, zs, ls, a, b, rfl, _⟩ := h
    rfl
  · obtain ⟨n, r, l, zs, ls, a, b, rfl, hw, la, lb, k⟩ := h
    refine ⟨_, (pss_one (ps_ret (pe_lc (own := [("link", 3)]) (g := (gName 3)) (tt := (tTest (tOp (rNeD K) (tSl (rSlA K) (tVar 3) tNoPart (tPart (tC (.int 2)))) (tTup (tCons (tVar 1) (tCons (tVar 2) tNil)))))) rfl sc_m_u_links_without.nd (pi_tup (pe_prop (pv 0) T.cl_Net hp_links G_m_links (hr.mono (by decide)) T.b_m_links .nil pass0 rfl)) (blkOk_by (own := [("link", 3)]) (N := N_m_u_links_without) (sc := defScope s_m_u_links_without) (by decide +kernel)) (fun _ _ _ _ _ => (pg_name (i := 3) sc_m_u_links_without.nd rfl (Or.inl rfl))) (fun _ _ _ _ _ => (pts_one (pt_cmpR (op_neD hr.units) (pe_slice sl_tupA (pv 3) po_none (po_some pe_int)) (pe_tup (pa_cons (pv 1) (pa_cons (pv 2) pa_nil))) (nomark _)))) (fun _ _ _ _ _ => by exact (pv 3))))), ?_⟩
    obtain ⟨dx, hn⟩ := hw.net
    have ll : (ls.map fun q => V.ref q.1).length = ls.length := List.length_map ..
    refine ⟨_, rfl, n, dx, _, rfl, hn, n, dx, _, _, rfl, hn, rfl, l, rfl, ⟨_, SqT.of hw.lk.at_⟩, fun D hD => ?_⟩
    refine lc_it (walk_tup (xs := ls.map fun q => V.ref q.1)) (fun i H' => H' D = some (.lst ((woL a b (ls.take i)).map fun q => V.ref q.1)) ∧ Same H H') ⟨upd_same, same_new hD⟩ (fun i H' _ q => SqT.of (q.2 _ _ hw.lk.at_)) ?_ ?_
    · rintro i x H1 H2 hi ⟨h1, s1⟩ ⟨rfl, hx⟩
      obtain ⟨p, hp, rfl⟩ := at_map hx
      obtain ⟨ep, c, d, cx, cy, e3, hc, hd, cd, _⟩ := hw.lk.el p (List.mem_of_getElem? hp)
      refine ⟨rfl, ?_⟩
      refine ⟨_, rfl, _, rfl, slT (s1 _ _ ep) fun t H3 s3 ht => ?_⟩
      rw [show cutV (p.2.map kV) none (some 2) = (p.2.take 2).map kV from by rw [List.map_take]; exact cut_take _ 2, e3] at ht
      refine ⟨_, rfl, _, rfl, (by show 2 ≤ sizeLine; decide), fun t2 n2 => ?_⟩
      have s4 : Same H (upd H3 t2 (.tup [.str a, .str b])) := (s1.trans s3).trans (same_new n2)
      refine ⟨_, _, dp_pair (same_new n2 _ _ ht), dp_pair upd_same, pair_shaped (hw.low hc) (hw.low hd), pair_shaped la lb, ?_⟩
      have e4 : PyData.eqv (.tuple [.str c, .str d]) (.tuple [.str a, .str b]) = decide (pairK c d = pairK a b) := pair_eqv c d a b
      rw [e4]
      have h4 : upd H3 t2 (.tup [.str a, .str b]) D = some (.lst ((woL a b (ls.take i)).map fun q => V.ref q.1)) := same_new n2 _ _ (s3 _ _ h1)
      have lw : (woL a b (ls.take i)).length ≤ 16 := by
        unfold woL
        have z1 := List.length_filter_le (fun q : Addr × List Key => !decide (q.2.take 2 = pairK a b)) (ls.take i)
        have z2 := hw.m
        rw [List.length_take] at z1
        omega
      have tk : ls.take (i + 1) = ls.take i ++ [p] := by
        rw [List.take_add_one (l := ls), show ls[i]? = some p from hp]
        rfl
      refine ⟨_, rfl, ite2 (fun c1 => ?_) fun c1 => ?_⟩
      · refine ⟨_, rfl, _, h4, ?_, ?_, fun b' o e => ?_⟩
        · rw [List.length_map, sizeLine_eq]
          omega
        · rw [upd_same, tk]
          unfold woL
          rw [List.filter_append, List.map_append, List.filter_cons_of_pos (by rw [e3]; exact c1)]
          rfl
        · rw [upd_ne (ne_of_none e hD)]
          exact s4 _ _ e
      · refine ⟨?_, s4⟩
        rw [h4, tk]
        unfold woL
        rw [List.filter_append, List.filter_cons_of_neg (by rw [e3]; exact c1)]
        simp
    · rintro H1 ⟨h1, s1⟩
      rw [ll, List.take_length] at h1
      exact k D H1 s1 hD h1
end
end Toy
set_option Elab.async false
set_option linter.all false
set_option maxRecDepth 100000
set_option maxHeartbeats 4000000
namespace Toy
open PySem L2 Q RZ
theorem roomU3 {k : Nat} {A : Around} (h : Room k A) : A.units + 3 < cLine := by
  have q := h.units
  omega
theorem Lks.wo {H : Hp} {zs : List Str} {l l' : Addr} {ls : List (Addr × List Key)} {a b : Str} (h : Lks H zs l ls) (e : H l' = some (.tup ((woL a b ls).map fun q => V.ref q.1))) : Lks H zs l' (woL a b ls) :=
  ⟨e, fun q hq => h.el q (List.mem_filter.mp hq).1, h.up.filter _, Nat.le_trans (List.length_filter_le _ _) h.few⟩
theorem wo_lt {a b : Str} {ls : List (Addr × List Key)} (h : ∃ q ∈ ls, q.2.take 2 = pairK a b) : (woL a b ls).length < ls.length := by
  obtain ⟨q, hq, e⟩ := h
  exact List.length_filter_lt_length_iff_exists.mpr ⟨q, hq, by rw [decide_eq_true e]; exact Bool.false_ne_true⟩
theorem wo_le {a b : Str} {ls : List (Addr × List Key)} : (woL a b ls).length ≤ ls.length := List.length_filter_le _ _
theorem name_big {zs : List Str} (h : RtOk zs) : ∀ z ∈ zs, z.length ≤ 1000000 := fun z hz => by have := (h.2.2 z hz).2.1; omega
theorem link_pLt {a b c d : Str} {x y u v : Int} (h : ksLt (linkK a b x y) (linkK c d u v) = true) (ne : pairK a b ≠ pairK c d) : ksLt (pairK a b) (pairK c d) = true := by
  by_cases e1 : a = c
  · subst e1
    by_cases e2 : b = d
    · subst e2
      exact absurd rfl ne
    · have n2 : ¬ (Sum.inr b : Key) = Sum.inr d := fun z => e2 (by injection z)
      unfold ksLt at h ⊢
      rw [if_pos rfl] at h ⊢
      unfold ksLt at h ⊢
      rw [if_neg n2] at h ⊢
      exact h
  · have n1 : ¬ (Sum.inr a : Key) = Sum.inr c := fun z => e1 (by injection z)
    unfold ksLt at h ⊢
    rw [if_neg n1] at h ⊢
    exact h
/-- net.without(a, b) of a link -/
def spWithout (C : Addr) : Sp := fun vs H Q _ => ∃ (n r l : Addr) (zs : List Str) (ls : List (Addr × List Key)) (a b : Str), vs = [.ref n, .str a, .str b] ∧ NetW C H n r l zs ls ∧ Low a ∧ Low b ∧ (∃ q ∈ ls, q.2.take 2 = pairK a b) ∧
  ∀ n' l' H', Same H H' → NetW C H' n' r l' zs (woL a b ls) → Q (.ref n') H'
/-- net.with_link(a, b, x, y) of two routers and two lengths -/
def spWith (C TM : Addr) : Sp := fun vs H Q E => ∃ (n r l : Addr) (zs : List Str) (ls : List (Addr × List Key)) (a b : Str) (x y : Int), vs = [.ref n, .str a, .str b, .int x, .int y] ∧ NetW C H n r l zs ls ∧ a ∈ zs ∧ b ∈ zs ∧ tLt a b ∧ 1 ≤ x ∧ 1 ≤ y ∧
  ((woL a b ls).length = 16 → ∀ H', Same H H' → E (.ref TM) none H') ∧
  ((woL a b ls).length ≠ 16 → ∀ n' l' t ls' H', Same H H' → NetW C H' n' r l' zs ls' → ls'.Perm ((t, linkK a b x y) :: woL a b ls) → Q (.ref n') H')
section
variable {P : Program} {w : World} {K : PySem.W.Frag} {mg : Str → Option Value} {base : Heap} {ca ia fa : Nat → Addr} {fd fi : Nat → FuncData}
theorem ok_m_without (T : Txt K mg ca ia fa fd fi) : FnOk P w K mg base CX0 8 (ia 106) (fi 106) ["self", "a", "b"] (spWithout (ca 18)) := by
  have G_m_links := ok_m_links (P := P) (w := w) (base := base) T
  have G_m_routers := ok_m_routers (P := P) (w := w) (base := base) T
  have G_m_u_links_without := ok_m_wo (P := P) (w := w) (base := base) T
  have G_m_init := ok_init (P := P) (w := w) (base := base) T
  obtain ⟨pl, hp_links⟩ := T.P_links
  obtain ⟨pr, hp_routers⟩ := T.P_routers
  refine T.F_m_without.ok sc_m_without (fun vs H Q E h => ?_) (fun cdv A outer s H vs Q E hr h => ?_)
  · obtain ⟨n, r, l, zs, ls, a, b, rfl, _⟩ := h
    rfl
  · obtain ⟨n, r, l, zs, ls, a, b, rfl, hw, la, lb, some1, k⟩ := h
    refine ⟨_, (pss_cons (ps_set (i := 3) sc_m_without.nd rfl (Or.inl rfl) (pe_meth (pv 0) T.cl_Net T.Me_m_u_links_without G_m_u_links_without (hr.mono (by decide)) T.b_m_u_links_without .nil pass0 (pa_cons (pv 1) (pa_cons (pv 2) pa_nil)) (by rfl)))
      (pss_cons (ps_if (pt_cmpR op_eq (pe_callB call_len (by rfl) T.n_len (by decide +kernel) (pa_cons (pv 3) pa_nil)) (pe_callB call_len (by rfl) T.n_len (by decide +kernel) (pa_cons (pe_prop (pv 0) T.cl_Net hp_links G_m_links (hr.mono (by decide)) T.b_m_links .nil pass0 rfl) pa_nil)) (nomark _)) (pss_one (ps_raise rfl takes0 (pmk_oex T.c_NoLink.oex T.iC_NoLink T.tI_NoLink (in_NoLink T) (hr.mono (by decide)) T.bi_NoLink .nil pass0 rfl T.c_NoLink.g (pa_cons (pe_tup (pa_cons (pv 1) (pa_cons (pv 2) pa_nil))) pa_nil)))) pss_nil)
      (pss_one (ps_ret (pe_make T.M_Net G_m_init (hr.mono (by decide)) rfl T.g_Net T.b_m_init .nil passL (pa_cons (pe_prop (pv 0) T.cl_Net hp_routers G_m_routers (hr.mono (by decide)) T.b_m_routers .nil pass0 rfl) (pa_cons (pe_callTy call_tuple_of (by rfl) T.n_tuple (by decide +kernel) (pa_cons (pv 3) pa_nil)) pa_nil))))))), ?_⟩
    refine seqS (fun v H' => ∃ D, v = .ref D ∧ Same H H' ∧ H' D = some (.lst ((woL a b ls).map fun q => V.ref q.1))) (fun Q k' => ?_) ?_
    · obtain ⟨dx, hn⟩ := hw.net
      refine ⟨_, rfl, n, dx, _, rfl, hn, rfl, _, rfl, _, rfl, ?_⟩
      exact ⟨n, r, l, zs, ls, a, b, rfl, hw, la, lb, fun D H' s nD e => k' _ _ ⟨D, rfl, s, e⟩⟩
    rintro _ H1 ⟨D, rfl, s1, hD⟩
    have hw1 := hw.same s1
    obtain ⟨dx, hn⟩ := hw1.net
    have lt := wo_lt some1
    refine ⟨_, rfl, _, _, rfl, .inl ⟨_, SqL.of hD, rfl⟩, _, rfl, n, dx, _, rfl, hn, n, dx, _, _, rfl, hn, rfl, _, _, rfl, .inr ⟨_, SqT.of hw1.lk.at_, rfl⟩, rfl, _, rfl, ite2 (fun c => ?_) fun _ => ?_⟩
    · have c1 := of_decide_eq_true c
      injection c1 with c1
      rw [List.length_map, List.length_map] at c1
      omega
    refine nxt ?_
    refine ⟨_, rfl, n, dx, _, rfl, hn, n, dx, _, _, rfl, hn, rfl, _, rfl, D, _, rfl, .inl ⟨SqL.of hD, fun l' nl => ?_⟩⟩
    have hw2 := hw1.same (same_new (o := .tup ((woL a b ls).map fun q => V.ref q.1)) nl)
    have s2 := s1.trans (same_new (o := .tup ((woL a b ls).map fun q => V.ref q.1)) nl)
    have hl2 := hw2.lk.wo (a := a) (b := b) upd_same
    refine mk_net hw2.rt (name_big hw2.ok) (by have := hw2.ok.2.1; omega) hw2.pw hl2 (fun h n' H' _ s3 nn => ?_) (fun h => absurd ⟨hw2.ok, Nat.le_trans wo_le hw2.m⟩ h)
    exact k n' l' H' (s2.trans s3) ⟨nn, s3 _ _ hw2.rt, hw2.ok, hw2.pw, hl2.same s3, Nat.le_trans wo_le hw2.m⟩
theorem ok_m_with (T : Txt K mg ca ia fa fd fi) : FnOk P w K mg base (L2.CX P w) 8 (ia 105) (fi 105) ["self", "a", "b", "there", "back"] (spWith (ca 18) (ca 6)) := by
  have G_m_routers := ok_m_routers (P := P) (w := w) (base := base) T
  have G_m_u_links_without := ok_m_wo (P := P) (w := w) (base := base) T
  have G_m_init := ok_init (P := P) (w := w) (base := base) T
  have G_need_routers := ok_need_routers (P := P) (w := w) (base := base) T
  have G_is_length := ok_length (P := P) (w := w) (base := base) T
  obtain ⟨pr, hp_routers⟩ := T.P_routers
  obtain ⟨t1, hv_MOST_LINKS⟩ := T.v_MOST_LINKS
  refine T.F_m_with_link.okX sc_m_with_link (fun vs H Q E h => ?_) (fun cdv A outer s H vs Q E hr h => ?_)
  · obtain ⟨n, r, l, zs, ls, a, b, x, y, rfl, _⟩ := h
    rfl
  · obtain ⟨n, r, l, zs, ls, a, b, x, y, rfl, hw, ha, hb, ab, hx, hy, no, k⟩ := h
    refine ⟨_, (pss_cons (ps_expr (pe_call G_need_routers (hr.mono (by decide)) rfl T.g_need_routers T.k_need_routers T.b_need_routers .nil pass0 (pa_cons (pv 0) (pa_cons (pv 1) (pa_cons (pv 2) pa_nil)))))
      (pss_cons (ps_if (pt_cmpR op_ge_str (pv 1) (pv 2) (nomark _)) (pss_one (ps_raise rfl (takes_of rfl rfl rfl rfl) (pmk_oex T.c_BadLink.oex T.iC_BadLink T.tI_BadLink (in_BadLink T) (hr.mono (by decide)) T.bi_BadLink .nil pass0 rfl T.c_BadLink.g (pa_cons (pe_tup (pa_cons (pv 1) (pa_cons (pv 2) pa_nil))) pa_nil)))) pss_nil)
      (pss_cons (ps_for (passes_of rfl) rfl (pi_tup (pe_tup (pa_cons (pv 3) (pa_cons (pv 4) pa_nil)))) (pg_name (i := 5) sc_m_with_link.nd rfl (Or.inl rfl)) (pss_one (ps_if (pt_not (pt_val (pe_call G_is_length (hr.mono (by decide)) rfl T.g_is_length T.k_is_length T.b_is_length .nil pass0 (pa_cons (pv 5) pa_nil)))) (pss_one (ps_raise rfl (takes_of rfl rfl rfl rfl) (pmk_oex T.c_BadLength.oex T.iC_BadLength T.tI_BadLength (in_BadLength T) (hr.mono (by decide)) T.bi_BadLength .nil pass0 rfl T.c_BadLength.g (pa_cons (pv 5) pa_nil)))) pss_nil)))
      (pss_cons (ps_set (i := 6) sc_m_with_link.nd rfl (Or.inl rfl) (pe_meth (pv 0) T.cl_Net T.Me_m_u_links_without G_m_u_links_without (hr.mono (by decide)) T.b_m_u_links_without .nil pass0 (pa_cons (pv 1) (pa_cons (pv 2) pa_nil)) (by rfl)))
      (pss_cons (ps_if (pt_cmpR op_eq (pe_callB call_len (by rfl) T.n_len (by decide +kernel) (pa_cons (pv 6) pa_nil)) (pe_glob rfl hv_MOST_LINKS (v := .int 16) ⟨_, rfl⟩) (nomark _)) (pss_one (ps_raise rfl (takes_of rfl rfl rfl rfl) (pmk_own0 PySem.F.excBase_ValueError T.x_TooMany T.c_TooMany.g T.c_TooMany.kC (raises_TooMany T rfl) rfl))) pss_nil)
      (pss_one (ps_ret (pe_make T.M_Net G_m_init (hr.mono (by decide)) rfl T.g_Net T.b_m_init .nil passL (pa_cons (pe_prop (pv 0) T.cl_Net hp_routers G_m_routers (hr.mono (by decide)) T.b_m_routers .nil pass0 rfl) (pa_cons (pe_callTy call_tuple_of (by rfl) T.n_tuple (by decide +kernel) (pa_cons (pe_callB (cr_sortTuL (roomU3 hr)) (by rfl) T.n_sorted (by decide +kernel) (pa_cons (pe_op op_cat (pv 6) (pe_lst (pa_cons (pe_tup (pa_cons (pv 1) (pa_cons (pv 2) (pa_cons (pv 3) (pa_cons (pv 4) pa_nil))))) pa_nil))) pa_nil)) pa_nil)) pa_nil)))))))))), ?_⟩
    have la := hw.low ha
    have lb := hw.low hb
    refine ⟨_, rfl, _, rfl, _, rfl, n, r, l, zs, a, b, rfl, hw.net, hw.rt, ha, hb, nxt ?_⟩
    refine ⟨_, rfl, _, rfl, _, _, rfl, rfl, _, rfl, ite2 (fun c => ?_) fun _ => ?_⟩
    · rw [decide_eq_true ab] at c
      cases c
    refine nxt ?_
    refine ⟨_, rfl, _, rfl, (by show 2 ≤ sizeLine; decide), fun tp ntp => ⟨tp, rfl, ⟨_, SqT.of upd_same⟩, ?_⟩⟩
    refine for_it (walk_tup (xs := [V.int x, V.int y])) (fun i σ H' => Same H H' ∧ H' tp = some (.tup [V.int x, V.int y]) ∧ ∃ x5 : Option V, σ = [some (.ref n), some (.str a), some (.str b), some (.int x), some (.int y), x5, none]) ⟨same_new ntp, upd_same, none, rfl⟩ (fun i σ H' _ z => SqT.of z.2.1) ?_ ?_
    · rintro i v σ H1 H2 hi ⟨s1, ht, x5, rfl⟩ ⟨rfl, hv⟩
      obtain ⟨i5, rfl, h5⟩ : ∃ i5 : Int, v = .int i5 ∧ 1 ≤ i5 := by
        match i, hv with
        | 0, hv => cases hv; exact ⟨x, rfl, hx⟩
        | 1, hv => cases hv; exact ⟨y, rfl, hy⟩
        | i + 2, hv => cases hv
      refine ⟨_, rfl, i5, rfl, _, rfl, ?_⟩
      rw [decide_eq_true h5]
      exact nxt ⟨s1, ht, _, rfl⟩
    · rintro σ H1 ⟨s1, _, x5, rfl⟩
      refine nxt ?_
      have hw1 := hw.same s1
      refine seqS (fun v H' => ∃ D, v = .ref D ∧ Same H1 H' ∧ H' D = some (.lst ((woL a b ls).map fun q => V.ref q.1))) (fun Q k' => ?_) ?_
      · obtain ⟨dx, hn⟩ := hw1.net
        refine ⟨_, rfl, n, dx, _, rfl, hn, rfl, _, rfl, _, rfl, ?_⟩
        exact ⟨n, r, l, zs, ls, a, b, rfl, hw1, la, lb, fun D H' s nD e => k' _ _ ⟨D, rfl, s, e⟩⟩
      rintro _ H2 ⟨D, rfl, s2, hD⟩
      have hw2 := hw1.same s2
      have s02 := s1.trans s2
      obtain ⟨dx, hn⟩ := hw2.net
      refine ⟨_, rfl, _, _, rfl, .inl ⟨_, SqL.of hD, rfl⟩, rfl, _, rfl, ite2 (fun c => ?_) fun c => ?_⟩
      · have c1 := of_decide_eq_true c
        injection c1 with c1
        rw [List.length_map] at c1
        exact no (by omega) H2 s02
      have c1 : (woL a b ls).length ≠ 16 := fun z => c (decide_eq_true (by rw [List.length_map, z]; rfl))
      refine nxt ?_
      refine ⟨_, rfl, n, dx, _, rfl, hn, n, dx, _, _, rfl, hn, rfl, ?_⟩
      refine ⟨_, rfl, _, rfl, _, rfl, _, rfl, _, rfl, (by show 4 ≤ sizeLine; decide), fun t nt => ⟨(by show 1 ≤ sizeLine; decide), fun L nL => ?_⟩⟩
      have sL : Same H2 (upd (upd H2 t (.tup [.str a, .str b, .int x, .int y])) L (.lst [.ref t])) := (same_new nt).trans (same_new nL)
      have lw : (woL a b ls).length ≤ 16 := Nat.le_trans wo_le hw.m
      refine ⟨D, L, _, _, rfl, rfl, sL _ _ hD, upd_same, ?_, fun M nM => ?_⟩
      · rw [List.length_map, sizeLine_eq]
        show _ + 1 ≤ _
        omega
      have sM : Same H2 (upd (upd (upd H2 t (.tup [.str a, .str b, .int x, .int y])) L (.lst [.ref t])) M (.lst (((woL a b ls).map fun q => V.ref q.1) ++ [.ref t]))) := sL.trans (same_new nM)
      have ht : (upd (upd (upd H2 t (.tup [.str a, .str b, .int x, .int y])) L (.lst [.ref t])) M (.lst (((woL a b ls).map fun q => V.ref q.1) ++ [.ref t]))) t = some (.tup [.str a, .str b, .int x, .int y]) := same_new nM _ _ (same_new nL _ _ upd_same)
      have hM : (upd (upd (upd H2 t (.tup [.str a, .str b, .int x, .int y])) L (.lst [.ref t])) M (.lst (((woL a b ls).map fun q => V.ref q.1) ++ [.ref t]))) M = some (.lst ((woL a b ls ++ [(t, linkK a b x y)]).map fun q => V.ref q.1)) := by
        rw [upd_same, List.map_append]
        rfl
      generalize (upd (upd (upd H2 t (.tup [.str a, .str b, .int x, .int y])) L (.lst [.ref t])) M (.lst (((woL a b ls).map fun q => V.ref q.1) ++ [.ref t]))) = H3 at sM ht hM ⊢
      have hw3 := hw2.same sM
      have el : ∀ q ∈ woL a b ls ++ [(t, linkK a b x y)], H3 q.1 = some (.tup (q.2.map kV)) ∧ LkOk zs q.2 := fun q hq => by
        rcases List.mem_append.mp hq with z | z
        · exact hw3.lk.el q (List.mem_filter.mp z).1
        · rw [List.mem_singleton.mp z]
          exact ⟨ht, a, b, x, y, rfl, ha, hb, ab, hx, hy⟩
      have ndp : ((woL a b ls ++ [(t, linkK a b x y)]).map fun q => q.2.take 2).Nodup := by
        rw [List.map_append]
        refine List.nodup_append.mpr ⟨(hw.lk.nd).sublist ((List.filter_sublist ..).map _), by simp, ?_⟩
        intro k1 h1 k2 h2 e
        obtain ⟨q, hq, rfl⟩ := List.mem_map.mp h1
        have e2 : k2 = pairK a b := by simpa using h2
        have e3 := (List.mem_filter.mp hq).2
        rw [e, e2, decide_eq_true rfl] at e3
        cases e3
      have nd4 : ((woL a b ls ++ [(t, linkK a b x y)]).map (·.2)).Nodup := by
        refine List.pairwise_map.mpr ((List.pairwise_map.mp ndp).imp fun {p q} z e => z ?_)
        rw [e]
      refine ⟨M, woL a b ls ++ [(t, linkK a b x y)], [false, false, true, true], rfl, SqL.of hM, fun q hq => SqT.of (el q hq).1, fun q hq => ?_, by decide, nd4, ?_, fun S zz pz pw nS => ?_⟩
      · obtain ⟨_, a', b', x', y', e, _⟩ := el q hq
        rw [e]
        rfl
      · rw [List.length_append]
        show _ + 1 < _
        omega
      refine ⟨S, _, rfl, .inl ⟨SqL.of upd_same, fun l' nl => ?_⟩⟩
      have s5 : Same H3 (upd (upd H3 S (.lst (zz.map fun q => V.ref q.1))) l' (.tup (zz.map fun q => V.ref q.1))) := (same_new nS).trans (same_new nl)
      have hl5 : (upd (upd H3 S (.lst (zz.map fun q => V.ref q.1))) l' (.tup (zz.map fun q => V.ref q.1))) l' = some (.tup (zz.map fun q => V.ref q.1)) := upd_same
      generalize upd (upd H3 S (.lst (zz.map fun q => V.ref q.1))) l' (.tup (zz.map fun q => V.ref q.1)) = H5 at s5 hl5 ⊢
      have hw5 := hw3.same s5
      have lz : zz.length ≤ 16 := by
        rw [pz.length_eq, List.length_append]
        show _ + 1 ≤ _
        omega
      have hlz : Lks H5 zs l' zz := by
        refine ⟨hl5, fun q hq => ?_, ?_, by omega⟩
        · obtain ⟨e1, e2⟩ := el q (pz.mem_iff.mp hq)
          exact ⟨s5 _ _ e1, e2⟩
        · have nz : (zz.map fun q => q.2.take 2).Nodup := (pz.map fun q : Addr × List Key => q.2.take 2).nodup_iff.mpr ndp
          refine List.Pairwise.imp_of_mem (fun {p q} hp hq z => ?_) (List.Pairwise.and pw (List.pairwise_map.mp nz))
          obtain ⟨_, a1, b1, x1, y1, e1, _⟩ := el p (pz.mem_iff.mp hp)
          obtain ⟨_, a2, b2, x2, y2, e2, _⟩ := el q (pz.mem_iff.mp hq)
          obtain ⟨z1, z2⟩ := z
          show ksLt (p.2.take 2) (q.2.take 2) = true
          rw [e1, e2] at z1 z2 ⊢
          exact link_pLt z1 z2
      refine mk_net hw5.rt (name_big hw5.ok) (by have := hw5.ok.2.1; omega) hw5.pw hlz (fun h n' H' _ s6 nn => ?_) (fun h => absurd ⟨hw5.ok, lz⟩ h)
      exact k c1 n' l' t zz H' (((s02.trans sM).trans s5).trans s6) ⟨nn, s6 _ _ hw5.rt, hw5.ok, hw5.pw, hlz.same s6, lz⟩ (pz.trans List.perm_append_comm)
end
end Toy
set_option Elab.async false
set_option linter.all false
set_option maxRecDepth 100000
set_option maxHeartbeats 4000000
namespace Toy
open PySem L2 Q RZ LamX
/-! ### small data -/
structure Sm (n k : Nat) (d : PyData) : Prop where
  ok : d.showable = true
  len : d.shown.length ≤ n
  dp : d.depth ≤ k
theorem Sm.mono {n k n' k' : Nat} {d : PyData} (h : Sm n k d) (a : n ≤ n') (b : k ≤ k') : Sm n' k' d :=
  ⟨h.ok, Nat.le_trans h.len a, Nat.le_trans h.dp b⟩
theorem Sm.shows {n k : Nat} {d : PyData} (h : Sm n k d) (a : n ≤ 100000) (b : k ≤ 100) : Shows d :=
  ⟨h.ok, Nat.le_trans h.len (Nat.le_trans a (by decide)), Nat.le_trans h.dp b⟩
theorem sm_all {n k : Nat} : ∀ {xs : List PyData}, (∀ x ∈ xs, Sm n k x) →
    PyData.showableAll xs = true ∧ piled (PyData.shownAll xs) ≤ xs.length * (n + 2) ∧ PyData.depthAll xs ≤ k
  | [], _ => ⟨rfl, Nat.zero_le _, Nat.zero_le _⟩
  | x :: xs, h => by
    obtain ⟨h1, h2, h3⟩ := sm_all (xs := xs) fun y m => h y (List.mem_cons_of_mem _ m)
    obtain ⟨q1, q2, q3⟩ := h x (List.mem_cons_self ..)
    refine ⟨?_, ?_, ?_⟩
    · simp only [PyData.showableAll, q1, h1, Bool.and_self]
    · simp only [PyData.shownAll, piled_cons, List.length_cons, Nat.succ_mul]
      omega
    · simp only [PyData.depthAll]
      omega
theorem sm_tuple {n k : Nat} {xs : List PyData} (h : ∀ x ∈ xs, Sm n k x) : Sm (xs.length * (n + 2) + 2) (k + 1) (.tuple xs) := by
  obtain ⟨h1, h2, h3⟩ := sm_all h
  refine ⟨?_, ?_, ?_⟩
  · simp only [PyData.showable, h1]
  · simp only [PyData.shown]
    exact Nat.le_trans (fmt_text _) (by omega)
  · simp only [PyData.depth]
    omega
theorem sm_int {n : Nat} (h : n < 99) : Sm 20 2 (.int (n : Int)) := by
  have q : ∀ m : _root_.Fin 99, (PyData.int (m.val : Int)).showable = true ∧ (PyData.int (m.val : Int)).shown.length ≤ 20 ∧ (PyData.int (m.val : Int)).depth ≤ 2 := by decide +kernel
  have z := q ⟨n, h⟩
  exact ⟨z.1, z.2.1, z.2.2⟩
theorem sm_big : Sm 20 2 (.int 999999999) := ⟨by decide +kernel, by decide +kernel, by decide +kernel⟩
theorem sm_low {z : Str} (h : Low z) (l : z.length ≤ 9) : Sm 100 0 (.str z) := by
  refine ⟨?_, ?_, ?_⟩
  · simp only [PyData.showable, low_ok h]
  · have q := PySem.StrLaws.reprText_len z fun c hc => by have := (h c hc).2; omega
    simp only [PyData.shown]
    omega
  · simp only [PyData.depth]
    exact Nat.le_refl _
/-! ### what is caught -/
theorem takes_len {X : Cx} {W W' : WX} (t : Takes X W) (h : ∀ c d (σ : L2.St) H, σ.length = X.N.length → W' c d σ H → W c d σ H) : Takes X W' :=
  fun u s' ⟨a, B, sI, pins, σ, H, cls, d, e, I, nb, up, sky, na, os, ag, w⟩ =>
    t u s' ⟨a, B, sI, pins, σ, H, cls, d, e, I, nb, up, sky, na, os, ag, h _ _ _ _ I.len w⟩
/-- a call that is tried: nothing, or the error that came -/
def TCaught (K : PySem.W.Frag) (CS : Addr) : (XK → Hp → VK → Prop) → Hp → VK → Prop := fun tl H Q =>
  tl (fun cls d H' => ∃ b, PySem.W.exmOne K cls (.ref CS) = some b ∧ (b = true → ∃ C, cls = .ref C ∧ ∀ a, H' a = none → Q (.ref a) (upd H' a (exv a C d))) ∧ (b = false → False)) H (fun _ H' => ∃ v, (some (some V.non) : Option (Option V)) = some (some v) ∧ Q v H')
section
variable {P : Program} {w : World} {K : PySem.W.Frag} {mg : Str → Option Value} {base : Heap} {ca ia fa : Nat → Addr} {fd fi : Nat → FuncData}
theorem caught_gives (T : Txt K mg ca ia fa fd fi) {X : Cx} (eK : X.K = K) (em : X.mg = mg) {g : Addr} {cdg : Value} {q : Str} :
    GivesTo X N_l_caught "_law_caught" (defScope s_l_caught) g cdg (defBody s_l_caught) "_law_look" q (TCaught X.K (ca 1)) := by
  subst eK
  subst em
  intro f c' s H Q tl act hc h
  refine ⟨_, pss_cons (ps_set (i := 1) sc_l_caught.nd rfl (Or.inl rfl) pe_non)
    (pss_cons (ps_try_keep (i := 2) (ts := _) (tb := fun W D σ H => ∃ Ech : XK, (∀ cls d (σ' : L2.St) H', σ'.length = 3 → Ech cls d H' → W cls d σ' H') ∧ σ[0]? = some (some (.ref f)) ∧ H c' = some (CodeO c' q) ∧ tl Ech H fun _ H' => D.nx σ H') (Wout := fun _ _ _ _ => False)
      rfl rfl rfl sc_l_caught.nd rfl rfl ⟨rfl, by decide, Or.inl T.cN.g⟩ L2.takes0 (fun W pn xe tk _ => ?_) (fun a oe cls d pn hz hf => pss_one (ps_set (i := 1) sc_l_caught.nd rfl (Or.inl rfl) (pv 2))))
    (pss_one (ps_ret (pv 1)))), ?_⟩
  · refine ⟨fun pins s' σ H' D I h' => ?_⟩
    obtain ⟨Ech, hW, h1, h2, h3⟩ := h'
    exact (pss_one (ps_expr (act (fun cls d _ H' => Ech cls d H') pn xe Ech _ _ (takes_len tk fun c d σ H l z => hW c d σ H l z) (fun _ _ _ _ z => z)))).run pins s' σ H' D I ⟨h1, h2, h3⟩
  · refine ⟨_, fun cls d σ' H' l z => ?_, rfl, hc, h⟩
    obtain ⟨b, e1, e2, e3⟩ := z
    refine ⟨b, e1, fun hb => ?_, fun hb => e3 hb⟩
    obtain ⟨C, rfl, k⟩ := e2 hb
    refine ⟨C, rfl, fun a na => ?_⟩
    match σ', l with
    | [x0, x1, x2], _ => exact ⟨_, rfl, _, rfl, k a na⟩
end
end Toy
set_option Elab.async false
set_option linter.all false
set_option maxRecDepth 100000
set_option maxHeartbeats 4000000
namespace Toy
open PySem L2 Q RZ LamX
/-- a def whose code object is at c -/
structure FunC (K : PySem.W.Frag) (x : Str) (st : Stmt) (f : Addr) (fd : FuncData) (c : Addr) : Prop where
  ex : ∃ (oc : Value) (od : Option Addr) (kV doc pm : Value) (an : Option Addr) (ct : Value) (osl : Array (Option Value)),
    fd = PySem.W.fnOf x x (defArgs st) (defBody st) (defScope st) .none kV doc pm an (.ref c) ct ∧ K.lookup f = some ⟨oc, od, .func fd, osl⟩ ∧ PySem.W.codeIn K (.ref c) x = true
@[irreducible] def qR : Str := ("_law_is_refused" : Str) ++ (".<locals>." : Str) ++ ("<lambda>" : Str)
@[irreducible] def qF : Str := ("_law_fine" : Str) ++ (".<locals>." : Str) ++ ("<lambda>" : Str)
theorem qR_eq : qR = ("_law_is_refused" : Str) ++ (".<locals>." : Str) ++ ("<lambda>" : Str) := by unfold qR; rfl
theorem qF_eq : qF = ("_law_fine" : Str) ++ (".<locals>." : Str) ++ ("<lambda>" : Str) := by unfold qF; rfl
abbrev TL (P1 P2 : Addr) : List (Addr × Str) := [(P1, qR), (P2, qF)]
/-- the two defs that make lambdas: their code objects and tables -/
structure Tb (base : Heap) (mg : Str → Option Value) (c1 P1 c2 P2 : Addr) : Prop where
  t1 : TabB base mg c1 P1
  t2 : TabB base mg c2 P2
  ne : P1 ≠ P2
section
variable {base : Heap} {mg : Str → Option Value} {c1 P1 c2 P2 : Addr}
theorem Tb.m1 (B : Tb base mg c1 P1 c2 P2) : (P1, qR) ∈ TL P1 P2 := List.mem_cons_self
theorem Tb.m2 (B : Tb base mg c1 P1 c2 P2) : (P2, qF) ∈ TL P1 P2 := List.mem_cons_of_mem _ List.mem_cons_self
theorem Tb.u1 (B : Tb base mg c1 P1 c2 P2) : ∀ p ∈ TL P1 P2, p.1 = P1 → p.2 = qR := fun p hp e => by
  rcases List.mem_cons.mp hp with z | z
  · rw [z]
  · rw [List.mem_singleton.mp z] at e
    exact absurd e.symm B.ne
theorem Tb.u2 (B : Tb base mg c1 P1 c2 P2) : ∀ p ∈ TL P1 P2, p.1 = P2 → p.2 = qF := fun p hp e => by
  rcases List.mem_cons.mp hp with z | z
  · rw [z] at e
    exact absurd e B.ne
  · rw [List.mem_singleton.mp z]
end
theorem cx_qual {CX : CXT} {P : Program} {w : World} {K : PySem.W.Frag} {mg : Str → Option Value} {base : Heap} {N : List Str} {q : Str} {sc : Scope} {f : Addr} {cd : Value} {A : Around} {outer : List Env} {s : Shared} {H : Hp} {E : XK} :
    (cxOf CX P w K mg base N q sc f cd A outer s H E).nox.env.qual = q ++ (".<locals>." : Str) := rfl
theorem cx_code {CX : CXT} {P : Program} {w : World} {K : PySem.W.Frag} {mg : Str → Option Value} {base : Heap} {N : List Str} {q : Str} {sc : Scope} {f : Addr} {cd : Value} {A : Around} {outer : List Env} {s : Shared} {H : Hp} {E : XK} :
    (cxOf CX P w K mg base N q sc f cd A outer s H E).nox.env.code = cd := rfl
theorem extn_of {H H' : Hp} (s : Same H H') : ExtN H H' := ExtN.of s
theorem extn_tup {H H' : Hp} {a : Addr} {xs : List V} (e : ExtN H H') (h : H a = some (.tup xs)) : H' a = some (.tup xs) := e _ _ h fun ps z => by cases z
theorem Lks.extn {H H' : Hp} {zs : List Str} {l : Addr} {ls : List (Addr × List Key)} (h : Lks H zs l ls) (e : ExtN H H') : Lks H' zs l ls :=
  ⟨extn_tup e h.at_, fun q hq => ⟨extn_tup e (h.el q hq).1, (h.el q hq).2⟩, h.up, h.few⟩
/-- the pair of both, as it is shown -/
abbrev pairD (zs : List Str) (ls : List (Addr × List Key)) : PyData := .tuple [.tuple (zs.map PyData.str), .tuple (ls.map fun q => .tuple (q.2.map kD))]
theorem strs_dd {K : PySem.W.Frag} {H : Hp} : ∀ zs : List Str, DdAll K H (zs.map V.str) (zs.map PyData.str)
  | [] => .nil
  | z :: zs => .cons (.str z) (strs_dd zs)
theorem keys_dd {K : PySem.W.Frag} {H : Hp} : ∀ ks : List Key, DdAll K H (ks.map kV) (ks.map kD)
  | [] => .nil
  | .inl i :: ks => .cons (.int i) (keys_dd ks)
  | .inr x :: ks => .cons (.str x) (keys_dd ks)
theorem rows_dd {K : PySem.W.Frag} {H : Hp} : ∀ {ls : List (Addr × List Key)}, (∀ q ∈ ls, H q.1 = some (.tup (q.2.map kV))) → DdAll K H (ls.map fun q => V.ref q.1) (ls.map fun q => .tuple (q.2.map kD))
  | [], _ => .nil
  | q :: ls, h => .cons (.tup (SqT.of (h q List.mem_cons_self)) (keys_dd q.2)) (rows_dd fun p hp => h p (List.mem_cons_of_mem _ hp))
theorem pair_dd {K : PySem.W.Frag} {H : Hp} {t r l : Addr} {zs : List Str} {ls : List (Addr × List Key)} (ht : H t = some (.tup [.ref r, .ref l])) (hz : H r = some (.tup (zs.map V.str))) (hl : Lks H zs l ls) : Dd K H (.ref t) (pairD zs ls) :=
  .tup (SqT.of ht) (.cons (.tup (SqT.of hz) (strs_dd zs)) (.cons (.tup (SqT.of hl.at_) (rows_dd fun q hq => (hl.el q hq).1)) .nil))
theorem pair_shows {zs : List Str} {ls : List (Addr × List Key)} (hz : ∀ z ∈ zs, Low z ∧ z.length ≤ 9) (lz : zs.length ≤ 9) (hl : ∀ q ∈ ls, Sm 500 1 (.tuple (q.2.map kD))) (ll : ls.length ≤ 17) : Shows (pairD zs ls) := by
  have s1 : Sm 920 1 (.tuple (zs.map PyData.str)) := by
    refine (sm_tuple (n := 100) (k := 0) fun x hx => ?_).mono ?_ (Nat.le_refl _)
    · obtain ⟨z, m, rfl⟩ := List.mem_map.mp hx
      exact sm_low (hz z m).1 (hz z m).2
    · rw [List.length_map]
      omega
  have s2 : Sm 9000 2 (.tuple (ls.map fun q => .tuple (q.2.map kD))) := by
    refine (sm_tuple (n := 500) (k := 1) fun x hx => ?_).mono ?_ (Nat.le_refl _)
    · obtain ⟨q, m, rfl⟩ := List.mem_map.mp hx
      exact hl q m
    · rw [List.length_map]
      omega
  have s3 : Sm 20000 3 (pairD zs ls) := by
    refine (sm_tuple (n := 9000) (k := 2) fun x hx => ?_).mono (by show 2 * 9002 + 2 ≤ 20000; decide) (Nat.le_refl _)
    rcases List.mem_cons.mp hx with z | z
    · rw [z]
      exact s1.mono (by decide) (by decide)
    · rw [List.mem_singleton.mp z]
      exact s2
  exact s3.shows (by decide) (by decide)
/-- _law_is_refused(routers, links): Net refuses them -/
def spRefused (P1 P2 : Addr) : Sp := fun vs H Q _ => ∃ (r l : Addr) (zs : List Str) (ls : List (Addr × List Key)), vs = [.ref r, .ref l] ∧ H r = some (.tup (zs.map V.str)) ∧ (∀ z ∈ zs, Low z ∧ z.length ≤ 9) ∧ zs.length ≤ 9 ∧ zs.Pairwise tLt ∧
  Lks H zs l ls ∧ (∀ q ∈ ls, Sm 500 1 (.tuple (q.2.map kD))) ∧ ls.length ≤ 17 ∧ ¬ (RtOk zs ∧ ls.length ≤ 16) ∧ Tabs (TL P1 P2) H ∧ ∀ H', ExtN H H' → Tabs (TL P1 P2) H' → Q (.bl true) H'
section
variable {P : Program} {w : World} {K : PySem.W.Frag} {mg : Str → Option Value} {base : Heap} {ca ia fa : Nat → Addr} {fd fi : Nat → FuncData} {c1 P1 c2 P2 : Addr}
theorem ok_refused (T : Txt K mg ca ia fa fd fi) (FC : FunC K "_law_is_refused" s_l_is_refused (fa 34) (fd 34) c1) (B : Tb base mg c1 P1 c2 P2) :
    FnG P w K mg base CX0 10 (fa 34) (fd 34) ["_law_routers", "_law_links"] (spRefused P1 P2) := by
  have G_m_init := ok_init (P := P) (w := w) (base := base) T
  obtain ⟨ocC, odC, kVC, docC, pmC, anC, cdC, ctC, oslC, eC, lkC, hcC⟩ := T.F_l_caught.ex
  have bC := T.b_l_caught
  rw [eC] at lkC bC
  obtain ⟨oc, od, kV, doc, pm, an, ct, osl, e, lk, hcd⟩ := FC.ex
  rw [e] at lk ⊢
  refine fng_of lk hcd sc_l_is_refused (fun vs H Q E h => ?_) fun A outer s H vs Q E hgd hr h => ?_
  · obtain ⟨r, l, zs, ls, rfl, _⟩ := h
    rfl
  · obtain ⟨r, l, zs, ls, rfl, hz, big, lz, pw, hl, sml, ll, no, hT, k⟩ := h
    suffices hh : ∃ t, PSs (cxOf CX0 P w K mg base N_l_is_refused "_law_is_refused" (defScope s_l_is_refused) (fa 34) (.ref c1) A outer s H E).nox (defBody s_l_is_refused) t ∧ t { nx := fun _ H' => Q .non H', rt := Q } (L2.start N_l_is_refused [V.ref r, V.ref l]) H by
      obtain ⟨t, h1, h2⟩ := hh
      exact ⟨t, h1.nox, h2⟩
    have eq : (cxOf CX0 P w K mg base N_l_is_refused "_law_is_refused" (defScope s_l_is_refused) (fa 34) (.ref c1) A outer s H E).nox.env.qual ++ ("<lambda>" : Str) = qR := by rw [cx_qual]; exact qR_eq.symm
    have gv := caught_gives (X := (cxOf CX0 P w K mg base N_l_is_refused "_law_is_refused" (defScope s_l_is_refused) (fa 34) (.ref c1) A outer s H E).nox) T rfl rfl (g := fa 33) (cdg := cdC)
      (q := (cxOf CX0 P w K mg base N_l_is_refused "_law_is_refused" (defScope s_l_is_refused) (fa 34) (.ref c1) A outer s H E).nox.env.qual ++ ("<lambda>" : Str))
    have hm : (P1, (cxOf CX0 P w K mg base N_l_is_refused "_law_is_refused" (defScope s_l_is_refused) (fa 34) (.ref c1) A outer s H E).nox.env.qual ++ ("<lambda>" : Str)) ∈ TL P1 P2 := by rw [eq]; exact B.m1
    have hu : ∀ p ∈ TL P1 P2, p.1 = P1 → p.2 = (cxOf CX0 P w K mg base N_l_is_refused "_law_is_refused" (defScope s_l_is_refused) (fa 34) (.ref c1) A outer s H E).nox.env.qual ++ ("<lambda>" : Str) := by rw [eq]; exact B.u1
    have hcode : (cxOf CX0 P w K mg base N_l_is_refused "_law_is_refused" (defScope s_l_is_refused) (fa 34) (.ref c1) A outer s H E).nox.env.code = .ref c1 := cx_code
    refine ⟨_, (pss_cons (ps_set (i := 2) sc_l_is_refused.nd rfl (Or.inl rfl) (pe_lamcall (T := TL P1 P2) (TT := TCaught K (ca 1)) (k := 7) (Ng := N_l_caught) (a := "_law_look") (t := _) rfl T.g_l_caught T.k_l_caught lkC hcC bC sc_l_caught rfl (Or.inl rfl) gv B.t1 cx_code hm hu (hr.mono (by decide)) (lamS_by (by show lamSB (defScope s_l_is_refused) _ = true; decide +kernel)) rfl (fun _ _ _ _ _ => rfl)
        (fun A outer s H E f c' hr => (pe_make T.M_Net G_m_init (hr.mono (by decide)) rfl T.g_Net T.b_m_init .nil (passes_call (takes_of rfl rfl rfl rfl) fun _ _ _ _ h => h) (pa_cons (pv 0) (pa_cons (pv 1) pa_nil))))))
      (pss_one (ps_ret (pe_and (pe_callB call_isA (by rfl) T.n_isinstance (by decide +kernel) (pa_cons (pv 2) (pa_cons (pe_glob rfl T.c_BadNet.g (v := .ref (ca 2)) rfl) pa_nil))) (pe_one (pe_cmpR op_eq (pe_repr hgd hr T.n_repr (pe_errf (pv 2))) (pe_repr hgd hr T.n_repr (pe_tup (pa_cons (pv 0) (pa_cons (pv 1) pa_nil)))) (nomark _))))))), ?_⟩
    refine seqS (fun v H' => ∃ a t, v = .ref a ∧ ErrAt H' a (ca 2) [("value", .ref t)] ∧ H' t = some (.tup [.ref r, .ref l]) ∧ ExtN H H' ∧ Tabs (TL P1 P2) H') (fun Q k' => ?_) ?_
    · refine ⟨hT, fun H1 e1 t1 => ?_⟩
      refine ⟨_, rfl, _, rfl, ?_⟩
      refine mk_net (Q := fun _ H' => ∃ v, (some (some V.non) : Option (Option V)) = some (some v) ∧ Q v H') (extn_tup e1 hz) (fun z hz => by have := (big z hz).2; omega) (by omega) pw (hl.extn e1) (fun h => absurd h no) (fun _ d t H2 s2 ed et => ?_)
      refine ⟨true, T.exm T.c_BadNet, fun _ => ⟨_, rfl, fun a na => k' _ _ ⟨a, t, rfl, ⟨d, .inr upd_same, .inr (same_new na _ _ ed)⟩, same_new na _ _ et, e1.trans (extn_of (s2.trans (same_new na))), (t1.ext s2).ext (same_new na)⟩⟩, fun z => nomatch z⟩
    rintro _ H1 ⟨a, t, rfl, ee, et, e1, t1⟩
    have exc : ExcC K (ca 2) := T.c_BadNet.exc T.hn T.ht
    have kit := T.c_BadNet.kit (cls_of T.c_BadNet.xL).1 (cls_of T.c_BadNet.xL).2.2
    have sh := pair_shows big lz sml ll
    refine ⟨_, rfl, .inr ⟨a, _, .ref (ca 2), .ref (ca 2), _, rfl, .own _, ee.i, exc, kit, _, rfl, ?_⟩⟩
    rw [if_pos (by simp)]
    refine ⟨_, rfl, a, _, _, .ref t, rfl, ee, exc, T.no_BadNet_value, rfl, .ref t, pairD zs ls, rfl, pair_dd et (extn_tup e1 hz) (hl.extn e1), sh, _, rfl, _, rfl, (by show 2 ≤ sizeLine; decide), fun t2 n2 => ?_⟩
    have s2 := same_new (o := .tup [.ref r, .ref l]) n2
    refine ⟨.ref t2, pairD zs ls, rfl, pair_dd upd_same (s2 _ _ (extn_tup e1 hz)) ((hl.extn e1).same s2), sh, rfl, ?_⟩
    rw [decide_eq_true rfl]
    exact k _ (e1.trans (extn_of s2)) (t1.ext s2)
end
end Toy
set_option Elab.async false
set_option linter.all false
set_option maxRecDepth 100000
set_option maxHeartbeats 4000000
namespace Toy
open PySem L2 Q RZ LamX
theorem noPart {σ : L2.St} {H : Hp} {Q : Option Int → Hp → Prop} (h : Q none H) : tNoPart σ H Q := h
/-- all pairs of a row, in its order -/
def prs : List Str → List (List Key)
  | [] => []
  | a :: t => (t.map fun b => pairK a b) ++ prs t
theorem prs_len : ∀ {zs : List Str}, 7 ≤ zs.length → 17 ≤ (prs zs).length
  | a :: b :: c :: d :: e :: f :: g :: t, _ => by
    simp only [prs, List.length_append, List.length_map, List.length_cons]
    omega
theorem prs_few : ∀ {zs : List Str}, zs.length ≤ 8 → (prs zs).length ≤ 8 * zs.length
  | [], _ => Nat.le_refl _
  | a :: t, h => by
    have h : t.length + 1 ≤ 8 := h
    have q := prs_few (zs := t) (by omega)
    simp only [prs, List.length_append, List.length_map, List.length_cons]
    omega
theorem prs_mem : ∀ {zs : List Str}, zs.Pairwise tLt → ∀ k ∈ prs zs, ∃ a b, k = pairK a b ∧ a ∈ zs ∧ b ∈ zs ∧ tLt a b
  | [], _, _, h => by cases h
  | a :: t, pw, k, h => by
    obtain ⟨p1, p2⟩ := List.pairwise_cons.mp pw
    rcases List.mem_append.mp h with z | z
    · obtain ⟨b, hb, rfl⟩ := List.mem_map.mp z
      exact ⟨a, b, rfl, List.mem_cons_self, List.mem_cons_of_mem _ hb, p1 b hb⟩
    · obtain ⟨c, d, e, hc, hd, lt⟩ := prs_mem p2 k z
      exact ⟨c, d, e, List.mem_cons_of_mem _ hc, List.mem_cons_of_mem _ hd, lt⟩
theorem prs_nd : ∀ {zs : List Str}, zs.Pairwise tLt → (prs zs).Nodup
  | [], _ => List.nodup_nil
  | a :: t, pw => by
    obtain ⟨p1, p2⟩ := List.pairwise_cons.mp pw
    refine List.nodup_append.mpr ⟨?_, prs_nd p2, ?_⟩
    · refine List.pairwise_map.mpr (p2.imp fun {x y} lt e => ?_)
      have e2 : x = y := by
        injection e with _ e
        injection e with e _
        injection e
      rw [e2] at lt
      exact absurd lt (List.lt_irrefl _)
    · intro k hk l hl e
      obtain ⟨b, _, rfl⟩ := List.mem_map.mp hk
      obtain ⟨c, d, e2, hc, _⟩ := prs_mem p2 l hl
      rw [← e] at e2
      injection e2 with e2 _
      injection e2 with e2
      subst e2
      exact absurd (p1 a hc) (List.lt_irrefl _)
/-- a length of some_links -/
abbrev Far1 (x : Int) : Prop := x = 1 ∨ x = 2 ∨ x = 999999999
abbrev SmLink (k : List Key) : Prop := ∃ (a b : Str) (x : Int) (n : Nat), k = linkK a b x (n : Int) ∧ Far1 x ∧ 1 ≤ n ∧ n ≤ 90
/-- _law_some_links(pot, routers, 17) -/
def spSome : Sp := fun vs H Q _ => ∃ (p r : Addr) (zs : List Str) (B : Nat), vs = [.ref p, .ref r, .int 17] ∧ Pot H p B ∧ B < 999000 ∧ H r = some (.tup (zs.map V.str)) ∧ zs.Pairwise tLt ∧ (∀ z ∈ zs, NameOk z) ∧ 7 ≤ zs.length ∧ zs.length ≤ 8 ∧
  ∀ (l : Addr) (ls : List (Addr × List Key)) (H' : Hp), Lks H' zs l ls → ls.length = 17 → (∀ q ∈ ls, SmLink q.2) → But p H H' → Pot H' p (B + 100) → Q (.ref l) H'
/-- the pairs found so far -/
structure Sl (L : Addr) (H0 H : Hp) (zs : List Str) (i : Nat) (rs : List (Addr × List Key)) : Prop where
  kl : H L = some (.lst (rs.map fun q => V.ref q.1))
  el : ∀ q ∈ rs, H q.1 = some (.tup (q.2.map kV))
  ks : rs.map (·.2) ++ prs (zs.drop i) = prs zs
  sa : Same H0 H
theorem Sl.same {L : Addr} {H0 H H' : Hp} {zs : List Str} {i : Nat} {rs : List (Addr × List Key)} (h : Sl L H0 H zs i rs) (s : Same H H') : Sl L H0 H' zs i rs :=
  ⟨s _ _ h.kl, fun q hq => s _ _ (h.el q hq), h.ks, h.sa.trans s⟩
section
variable {P : Program} {w : World} {K : PySem.W.Frag} {mg : Str → Option Value} {base : Heap} {ca ia fa : Nat → Addr} {fd fi : Nat → FuncData}
theorem ok_some (T : Txt K mg ca ia fa fd fi) : FnOk P w K mg base CX0 4 (fa 35) (fd 35) ["_law_pot_here", "_law_routers", "_law_many"] spSome := by
  have G_l_of := ok_of (P := P) (w := w) (base := base) T
  have G_l_far := ok_far (P := P) (w := w) (base := base) T
  have G_l_turned := ok_turned (P := P) (w := w) (base := base) T
  refine T.F_l_some_links.ok sc_l_some_links (fun vs H Q E h => ?_) (fun cdv A outer s H vs Q E hr h => ?_)
  · obtain ⟨p, r, zs, B, rfl, _⟩ := h
    rfl
  · obtain ⟨p, r, zs, B, rfl, hp, hB, hz, pw, nok, l7, l8, k⟩ := h
    refine ⟨_, (pss_cons (ps_set (i := 3) sc_l_some_links.nd rfl (Or.inl rfl) (pe_lst pa_nil))
      (pss_cons (ps_for PassesOwn.never rfl (pi_enumT (by rfl) T.n_enumerate (pa_cons (pv 1) pa_nil)) (pg_tup rfl (pgs_cons (pg_name (i := 4) sc_l_some_links.nd rfl (Or.inl rfl)) (pgs_cons (pg_name (i := 5) sc_l_some_links.nd rfl (Or.inr rfl)) pgs_nil))) (pss_one (ps_expr (pe_bm PySem.F.plainAttrs_list PySem.F.slot_list_extend PySem.F.type_list_extend mt_extend (pv 3) (pa_cons (pe_lc (own := [("_law_b", 6)]) (g := (gName 6)) (tt := tYes) rfl sc_l_some_links.nd (pi_tup (pe_slice sl_tupA (pv 1) (po_some (pe_op op_add (pv 4) pe_int)) po_none)) (blkOk_by (own := [("_law_b", 6)]) (N := N_l_some_links) (sc := defScope s_l_some_links) (by decide +kernel)) (fun _ _ _ _ _ => (pg_name (i := 6) sc_l_some_links.nd rfl (Or.inl rfl))) (fun _ _ _ _ _ => pts_nil) (fun _ _ _ _ _ => by exact (pe_tup (pa_cons (pv 5) (pa_cons (pv 6) pa_nil))))) pa_nil)))))
      (pss_cons (ps_set (i := 3) sc_l_some_links.nd rfl (Or.inl rfl) (pe_callB (cr_sortTu rfl (roomU3 hr)) (by rfl) T.n_sorted (by decide +kernel) (pa_cons (pe_callTy (cr_setTu rfl (roomU3 hr)) (by rfl) T.n_set (by decide +kernel) (pa_cons (pe_slice sl_list (pe_call G_l_turned (hr.mono (by decide)) rfl T.g_l_turned T.k_l_turned T.b_l_turned .nil pass0 (pa_cons (pv 0) (pa_cons (pv 3) pa_nil))) po_none (po_some (pv 2))) pa_nil)) pa_nil)))
      (pss_one (ps_ret (pe_callTy call_tuple_of (by rfl) T.n_tuple (by decide +kernel) (pa_cons (pe_lc (own := [("_law_a", 5), ("_law_b", 6)]) (g := (gTup K 2 (gCons (gName 5) (gCons (gName 6) gNil)))) (tt := tYes) rfl sc_l_some_links.nd (pi_list (pv 3)) (blkOk_by (own := [("_law_a", 5), ("_law_b", 6)]) (N := N_l_some_links) (sc := defScope s_l_some_links) (by decide +kernel)) (fun _ _ _ _ _ => (pg_tup rfl (pgs_cons (pg_name (i := 5) sc_l_some_links.nd rfl (Or.inl rfl)) (pgs_cons (pg_name (i := 6) sc_l_some_links.nd rfl (Or.inl rfl)) pgs_nil)))) (fun _ _ _ _ _ => pts_nil) (fun _ _ _ _ _ => by exact (pe_tup (pa_cons (pv 5) (pa_cons (pv 6) (pa_cons (pe_call G_l_of (hr.mono (by decide)) rfl T.g_l_of T.k_l_of T.b_l_of .nil pass0 (pa_cons (pv 0) (pa_cons (pe_lst (pa_cons pe_int (pa_cons pe_int (pa_cons pe_int pa_nil)))) pa_nil))) (pa_cons (pe_call G_l_far (hr.mono (by decide)) rfl T.g_l_far T.k_l_far T.b_l_far .nil pass0 (pa_cons (pv 0) pa_nil)) pa_nil))))))) pa_nil))))))), ?_⟩
    have lenz : (zs.map V.str).length = zs.length := List.length_map ..
    have hpf : ∀ {H' : Hp} {L : Addr} {xs : List V}, Same H H' → H L = none → L ≠ p := fun {H' L xs} _ n z => by
      rw [z] at n
      obtain ⟨_, _, _, e, _⟩ := hp
      rw [e] at n
      cases n
    refine seqS (fun v H' => ∃ L, v = .ref L ∧ H L = none ∧ Sl L H H' zs 0 []) (fun Q k' => ⟨by show 0 ≤ sizeLine; decide, fun L nL => k' _ _ ⟨L, rfl, nL, upd_same, (fun _ z => by cases z), rfl, same_new nL⟩⟩) ?_
    rintro _ H1 ⟨L, rfl, nL, S1⟩
    have Lp : L ≠ p := fun z => by
      rw [z] at nL
      obtain ⟨_, _, _, e, _⟩ := hp
      rw [e] at nL
      cases nL
    refine ⟨_, rfl, r, zs.map V.str, rfl, SqT.of (S1.sa _ _ hz), ?_⟩
    refine for_enT (fun i σ H' => ∃ (x4 x5 x6 : Option V) (rs : List (Addr × List Key)), σ = [some (.ref p), some (.ref r), some (.int 17), some (.ref L), x4, x5, x6] ∧ Sl L H H' zs i rs) ⟨none, none, none, [], rfl, S1⟩ (fun i σ H' _ z => ?_) ?_ ?_
    · obtain ⟨_, _, _, _, _, S2⟩ := z
      exact SqT.of (S2.sa _ _ hz)
    · rintro i x T2 σ H2 hx ⟨x4, x5, x6, rs, rfl, S2⟩ nT
      obtain ⟨a, gx, rfl⟩ := at_map hx
      have li : i < zs.length := (List.getElem?_eq_some_iff.mp gx).1
      refine ⟨T2, _, rfl, SqT.of upd_same, rfl, _, _, rfl, _, _, rfl, rfl, ?_⟩
      have S3 := S2.same (same_new (o := .tup [.int (i : Nat), .str a]) nT)
      refine ⟨_, rfl, .inl ⟨rfl, _, SqL.of S3.kl⟩, ?_⟩
      refine ⟨_, rfl, _, rfl, _, _, rfl, rfl, _, rfl, noPart (slT (S3.sa _ _ hz) fun sl H4 s4 hsl => ?_)⟩
      rw [show cutV (zs.map V.str) (some ((i : Int) + 1)) none = (zs.drop (i + 1)).map V.str from by rw [List.map_drop]; exact cut_drop (zs.map V.str) (i + 1)] at hsl
      have S4 := S3.same s4
      have ed : zs.drop i = a :: zs.drop (i + 1) := by
        obtain ⟨h1, e1⟩ := List.getElem?_eq_some_iff.mp gx
        rw [List.drop_eq_getElem_cons h1, e1]
      have lk : (rs.map (·.2)).length ≤ 64 := by
        have e := congrArg List.length S4.ks
        rw [List.length_append] at e
        have := prs_few l8
        omega
      rw [List.length_map] at lk
      refine ⟨sl, rfl, ⟨_, SqT.of hsl⟩, fun D hD => ?_⟩
      refine lc_it (walk_tup (xs := (zs.drop (i + 1)).map V.str)) (fun j H' => ∃ ns : List (Addr × List Key), ns.map (·.2) = ((zs.drop (i + 1)).take j).map (fun b => pairK a b) ∧ H' D = some (.lst (ns.map fun q => V.ref q.1)) ∧ (∀ q ∈ ns, H' q.1 = some (.tup (q.2.map kV))) ∧ Same H4 H')
        ⟨[], by rw [List.take_zero]; rfl, upd_same, (fun _ z => by cases z), same_new hD⟩ (fun j H' _ z => ?_) ?_ ?_
      · obtain ⟨_, _, _, _, s5⟩ := z
        exact SqT.of (s5 _ _ hsl)
      · rintro j y H5 H6 hj ⟨ns, en, h5, el, s5⟩ ⟨rfl, hy⟩
        obtain ⟨b, gb, rfl⟩ := at_map hy
        have ln : ns.length = j := by
          have e := congrArg List.length en
          rw [List.length_map, List.length_map, List.length_take] at e
          rw [List.length_map] at hj
          omega
        refine ⟨rfl, ?_⟩
        dsimp only [tYes]
        rw [if_pos rfl]
        refine ⟨_, rfl, _, rfl, (by show 2 ≤ sizeLine; decide), fun t nt => ?_⟩
        have s6 := same_new (o := .tup [.str a, .str b]) nt
        have h6 := s6 _ _ h5
        have ntD : t ≠ D := fun z => by rw [z, h5] at nt; cases nt
        refine ⟨_, h6, ?_, ns ++ [(t, pairK a b)], ?_, ?_, fun q hq => ?_, fun c u e => ?_⟩
        · rw [List.length_map, sizeLine_eq, ln]
          rw [List.length_map, List.length_drop] at hj
          omega
        · rw [List.map_append, en, List.take_add_one (l := zs.drop (i + 1)), gb, List.map_append]
          rfl
        · rw [upd_same, List.map_append]
          rfl
        · rcases List.mem_append.mp hq with z | z
          · rw [upd_ne (fun y => by have e := s6 _ _ (el q z); rw [y, h6] at e; cases e)]
            exact s6 _ _ (el q z)
          · rw [List.mem_singleton.mp z, upd_ne ntD]
            exact upd_same
        · rw [upd_ne (ne_of_none e hD)]
          exact s6 _ _ (s5 _ _ e)
      · rintro H5 ⟨ns, en, h5, el, s5⟩
        rw [List.length_map, List.take_length] at en
        have S5 := S4.same s5
        have ln : ns.length ≤ 8 := by
          have e := congrArg List.length en
          rw [List.length_map, List.length_map, List.length_drop] at e
          omega
        refine ⟨L, D, _, _, rfl, rfl, S5.kl, h5, ?_, _, _, _, rs ++ ns, rfl, ?_⟩
        · rw [List.length_map, List.length_map, sizeLine_eq]
          omega
        have notL : ∀ {c : Addr} {ws : List V}, H5 c = some (.tup ws) → c ≠ L := fun {c ws} e z => by
          rw [z, S5.kl] at e
          cases e
        refine ⟨?_, fun q hq => ?_, ?_, fun c u e => ?_⟩
        · rw [upd_same, List.map_append]
        · rcases List.mem_append.mp hq with z | z
          · rw [upd_ne (notL (S5.el q z))]
            exact S5.el q z
          · rw [upd_ne (notL (el q z))]
            exact el q z
        · have e := S5.ks
          rw [ed] at e
          rw [List.map_append, en, List.append_assoc]
          exact e
        · rw [upd_ne (ne_of_none e nL)]
          exact S5.sa _ _ e
    · rintro σ H2 ⟨x4, x5, x6, rs, rfl, S2⟩
      rw [lenz] at S2
      refine nxt ?_
      have ek := S2.ks
      rw [List.drop_length] at ek
      have ek : rs.map (·.2) = prs zs := by simpa [prs] using ek
      have lr : rs.length = (prs zs).length := by rw [← ek, List.length_map]
      have lr1 := prs_len l7
      have lr2 := prs_few l8
      have p2 := hp.same S2.sa
      refine seqS (fun v H' => ∃ (S : Addr) (zz : List (Addr × List Key)), v = .ref S ∧ S ≠ p ∧ H' S = some (.lst (zz.map fun q => V.ref q.1)) ∧ zz.length = 17 ∧ (∀ q ∈ zz, H' q.1 = some (.tup (q.2.map kV)) ∧ q.2 ∈ prs zs) ∧ zz.Pairwise (fun x y => ksLt x.2 y.2 = true) ∧ But p H2 H' ∧ Pot H' p (B + 2)) (fun Q k' => ?_) ?_
      · refine ⟨_, rfl, _, rfl, p, L, _, B, rfl, p2, by omega, Lp, SqL.of S2.kl, by rw [List.length_map]; omega, by rw [List.length_map]; omega, fun ys q H3 py b3 p3 nq hq => ?_⟩
        obtain ⟨rs', pr, rfl⟩ := perm_map (fun q : Addr × List Key => V.ref q.1) py rfl
        refine noPart ⟨_, rfl, _, rfl, q, _, rfl, SqL.of hq, fun q2 nq2 => ?_⟩
        rw [show cutV (rs'.map fun q => V.ref q.1) none (some 17) = (rs'.take 17).map fun q => V.ref q.1 from by rw [List.map_take]; exact cut_take _ 17]
        have lr' : rs'.length = (prs zs).length := pr.length_eq.trans lr
        have l17 : (rs'.take 17).length = 17 := by
          rw [List.length_take]
          omega
        have s4 : Same H3 (upd H3 q2 (.lst ((rs'.take 17).map fun q => V.ref q.1))) := same_new nq2
        have p4 := p3.same s4
        have h4 : upd H3 q2 (.lst ((rs'.take 17).map fun q => V.ref q.1)) q2 = some (.lst ((rs'.take 17).map fun q => V.ref q.1)) := upd_same
        have tp : ∀ {c : Addr} {ws : List V}, H2 c = some (.tup ws) → c ≠ p := fun {c ws} e z => by
          rw [z] at e
          obtain ⟨_, _, _, e2, _⟩ := p2
          rw [e] at e2
          cases e2
        generalize upd H3 q2 (.lst ((rs'.take 17).map fun q => V.ref q.1)) = H4 at s4 p4 h4 ⊢
        have el : ∀ x ∈ rs'.take 17, H4 x.1 = some (.tup (x.2.map kV)) ∧ x.2 ∈ prs zs := fun x hx => by
          have mx := pr.mem_iff.mp (List.mem_of_mem_take hx)
          have e := S2.el x mx
          refine ⟨s4 _ _ (b3 _ _ (tp e) e), ?_⟩
          rw [← ek]
          exact List.mem_map_of_mem mx
        have nd : ((rs'.take 17).map (·.2)).Nodup := by
          rw [List.map_take]
          refine List.Nodup.sublist (List.take_sublist _ _) ((pr.map fun x : Addr × List Key => x.2).nodup_iff.mpr ?_)
          rw [ek]
          exact prs_nd pw
        refine ⟨q2, rs'.take 17, rfl, SqL.of h4, fun x hx => SqT.of (el x hx).1, nd, by omega, fun S nS => ?_⟩
        have s5 := same_new (o := SetM w S ((rs'.take 17).map fun x => Value.ref x.1)) nS
        refine ⟨S, rs'.take 17, [false, false], rfl, upd_same, fun x hx => SqT.of (s5 _ _ (el x hx).1), fun x hx => ?_, by decide, nd, by omega, fun R zz pz pw2 nR => ?_⟩
        · obtain ⟨a, b, e, _⟩ := prs_mem pw x.2 (el x hx).2
          rw [e]
          rfl
        have s6 := same_new (o := .lst (zz.map fun x => V.ref x.1)) nR
        refine k' _ _ ⟨R, zz, rfl, ?_, upd_same, pz.length_eq.trans l17, fun x hx => ?_, pw2, ((b3.trans (But.of s4)).trans (But.of s5)).trans (But.of s6), ((p4.same s5).same s6)⟩
        · exact pot_none (p4.same s5) nR
        · obtain ⟨e1, e2⟩ := el x (pz.mem_iff.mp hx)
          exact ⟨s6 _ _ (s5 _ _ e1), e2⟩
      rintro _ H3 ⟨S, zz, rfl, Sp, hS, l17, el, pz, b3, p3⟩
      have lz : (zz.map fun q => V.ref q.1).length = zz.length := List.length_map ..
      refine ⟨_, rfl, S, rfl, ⟨_, SqL.of hS⟩, fun D hD => ?_⟩
      refine lc_it (walk_list (xs := zz.map fun q => V.ref q.1)) (fun i H' => ∃ ws : List (Addr × List Key), ws.map (fun q => q.2.take 2) = (zz.take i).map (·.2) ∧ H' D = some (.lst (ws.map fun q => V.ref q.1)) ∧
          (∀ q ∈ ws, H' q.1 = some (.tup (q.2.map kV)) ∧ SmLink q.2) ∧ But p H3 H' ∧ Pot H' p (B + 2 + 4 * i))
        ⟨[], by rw [List.take_zero]; rfl, upd_same, (fun _ z => by cases z), But.of (same_new hD), p3.same (same_new hD)⟩ (fun i H' _ z => ?_) ?_ ?_
      · obtain ⟨_, _, _, _, b4, _⟩ := z
        exact SqL.of (b4 _ _ Sp hS)
      · rintro i x H4 H5 hi ⟨ws, ew, h4, elw, b4, p4⟩ ⟨rfl, hx⟩
        obtain ⟨y, hy, rfl⟩ := at_map hx
        have my := List.mem_of_getElem? hy
        obtain ⟨ey, ky⟩ := el y my
        obtain ⟨a, b, e, ha, hb, ab⟩ := prs_mem pw y.2 ky
        rw [e] at ey
        have hy5 := b4 _ _ (tup_notp ey p3) ey
        have Dp : D ≠ p := pot_none p3 hD
        rw [lz] at hi
        have lw : ws.length = i := by
          have e := congrArg List.length ew
          rw [List.length_map, List.length_map, List.length_take] at e
          omega
        refine ⟨y.1, _, rfl, SqT.of hy5, rfl, _, _, rfl, _, _, rfl, rfl, rfl, ?_⟩
        dsimp only [tYes]
        rw [if_pos rfl]
        refine ⟨_, rfl, _, rfl, _, rfl, by show 3 ≤ sizeLine; decide, fun l nl => ?_⟩
        have s6 := same_new (o := .lst [.int 1, .int 2, .int 999999999]) nl
        refine ⟨p, .ref l, _, B + 2 + 4 * i, rfl, p4.same s6, by omega, .inl ⟨l, rfl, pot_none p4 nl, SqL.of upd_same⟩, by show 0 < 3; decide, by show 3 < 1073741824; decide, fun d v H6 hv b6 p6 => ?_⟩
        obtain ⟨x, rfl, fx⟩ : ∃ x : Int, v = .int x ∧ Far1 x := by
          match d, hv with
          | 0, hv => cases hv; exact ⟨1, rfl, .inl rfl⟩
          | 1, hv => cases hv; exact ⟨2, rfl, .inr (.inl rfl)⟩
          | 2, hv => cases hv; exact ⟨999999999, rfl, .inr (.inr rfl)⟩
          | d + 3, hv => cases hv
        refine ⟨_, rfl, p, B + 2 + 4 * i + 1, rfl, p6, by omega, fun n H7 n1 n2 b7 p7 => ⟨by show 4 ≤ sizeLine; decide, fun t nt => ?_⟩⟩
        have b57 : But p _ (upd H7 t (.tup [.str a, .str b, .int x, .int (n : Int)])) := (((But.of s6).trans b6).trans b7).trans (But.of (same_new nt))
        have h7 := b57 _ _ Dp h4
        have ntD : t ≠ D := fun z => by
          have z2 := (((But.of s6).trans b6).trans b7) _ _ Dp h4
          rw [z, z2] at nt
          cases nt
        refine ⟨_, h7, ?_, ws ++ [(t, linkK a b x (n : Int))], ?_, ?_, fun q hq => ?_, fun c u nc eu => ?_, ?_⟩
        · rw [List.length_map, sizeLine_eq]
          omega
        · rw [List.map_append, ew, List.take_add_one (l := zz), hy, List.map_append]
          show _ ++ [pairK a b] = _ ++ [y.2]
          rw [e]
        · rw [upd_same, List.map_append]
          rfl
        · rcases List.mem_append.mp hq with z | z
          · obtain ⟨z1, z2⟩ := elw q z
            refine ⟨?_, z2⟩
            have z3 := b57 _ _ (tup_notp z1 p4) z1
            rw [upd_ne (fun y => by rw [y, h7] at z3; cases z3)]
            exact z3
          · rw [List.mem_singleton.mp z, upd_ne ntD]
            exact ⟨upd_same, a, b, x, n, rfl, fx, n1, n2⟩
        · rw [upd_ne (fun y => by rw [y, hD] at eu; cases eu)]
          exact b57 _ _ nc (b4 _ _ nc eu)
        · obtain ⟨o1, s1, c1, e1, r1⟩ := (p7.same (same_new (o := .tup [.str a, .str b, .int x, .int (n : Int)]) nt))
          exact ⟨o1, s1, c1, by rw [upd_ne (Ne.symm Dp)]; exact e1, by omega⟩
      · rintro H4 ⟨ws, ew, h4, elw, b4, p4⟩
        rw [lz, List.take_length] at ew
        have lw : ws.length = 17 := by
          have e := congrArg List.length ew
          rw [List.length_map, List.length_map] at e
          omega
        refine ⟨D, _, rfl, .inl ⟨SqL.of h4, fun l nl => ?_⟩⟩
        have s5 := same_new (o := .tup (ws.map fun q => V.ref q.1)) nl
        refine k l ws _ ⟨upd_same, fun q hq => ?_, ?_, by omega⟩ lw (fun q hq => (elw q hq).2) ((((But.of S2.sa).trans b3).trans b4).trans (But.of s5)) ((p4.same s5).mono (by rw [lz]; omega))
        · obtain ⟨z1, a, b, x, n, e, fx, n1, n2⟩ := elw q hq
          refine ⟨s5 _ _ z1, a, b, x, (n : Int), e, ?_⟩
          have m2 : pairK a b ∈ ws.map fun q => q.2.take 2 := List.mem_map.mpr ⟨q, hq, by rw [e]; rfl⟩
          rw [ew] at m2
          obtain ⟨y, my, ey⟩ := List.mem_map.mp m2
          obtain ⟨a', b', e', ha, hb, ab⟩ := prs_mem pw y.2 (el y my).2
          rw [ey] at e'
          cases e'
          refine ⟨ha, hb, ab, ?_, by omega⟩
          rcases fx with rfl | rfl | rfl <;> decide
        · have z1 : (ws.map fun q => q.2.take 2).Pairwise fun k l => ksLt k l = true := by
            rw [ew]
            exact List.pairwise_map.mpr pz
          exact (List.pairwise_map (f := fun q : Addr × List Key => q.2.take 2)).mp z1
end
end Toy
set_option Elab.async false
set_option linter.all false
set_option maxRecDepth 100000
set_option maxHeartbeats 4000000
namespace Toy
open PySem L2 Q RZ LamX
/-- all but the pot and the tables is kept -/
def Go (p : Addr) (H H' : Hp) : Prop := ∀ b o, b ≠ p → H b = some o → (∀ ps, o ≠ .tbl ps) → H' b = some o
theorem Go.refl (p : Addr) (H : Hp) : Go p H H := fun _ _ _ e _ => e
theorem Go.trans {p : Addr} {H H1 H2 : Hp} (a : Go p H H1) (b : Go p H1 H2) : Go p H H2 := fun c o n e t => b c o n (a c o n e t) t
theorem Go.but {p : Addr} {H H' : Hp} (b : But p H H') : Go p H H' := fun c o n e _ => b c o n e
theorem Go.ext {p : Addr} {H H' : Hp} (b : ExtN H H') : Go p H H' := fun c o _ e t => b c o e t
theorem Go.same {p : Addr} {H H' : Hp} (s : Same H H') : Go p H H' := fun c o _ e _ => s c o e
theorem pot_ext {H H' : Hp} {p : Addr} {B : Nat} (h : Pot H p B) (e : ExtN H H') : Pot H' p B := by
  obtain ⟨o, s, c, q, r⟩ := h
  exact ⟨o, s, c, e _ _ q (fun ps z => by cases z), r⟩
theorem tabs_but {H H' : Hp} {p : Addr} {B : Nat} {T : List (Addr × Str)} (h : Tabs T H) (hp : Pot H p B) (b : But p H H') : Tabs T H' := fun x hx => by
  obtain ⟨ps, h1, h2, h3⟩ := h x hx
  obtain ⟨o, s, c, q, _⟩ := hp
  refine ⟨ps, b _ _ (fun z => by rw [z, q] at h1; cases h1) h1, h2, fun pos cv hc => ?_⟩
  obtain ⟨c', e1, e2⟩ := h3 pos cv hc
  refine ⟨c', e1, b _ _ (fun z => ?_) e2⟩
  rw [z, q] at e2
  unfold CodeO at e2
  cases e2
/-- where the run of one pot stands: its pot and the tables -/
structure At (p P1 P2 : Addr) (B : Nat) (H : Hp) : Prop where
  po : Pot H p B
  tb : Tabs (TL P1 P2) H
section
variable {p P1 P2 : Addr} {B B' : Nat} {H H' : Hp}
theorem At.but (h : At p P1 P2 B H) (b : But p H H') (q : Pot H' p B') : At p P1 P2 B' H' := ⟨q, tabs_but h.tb h.po b⟩
theorem At.same (h : At p P1 P2 B H) (s : Same H H') : At p P1 P2 B H' := ⟨h.po.same s, h.tb.ext s⟩
theorem At.ext (h : At p P1 P2 B H) (e : ExtN H H') (t : Tabs (TL P1 P2) H') : At p P1 P2 B H' := ⟨pot_ext h.po e, t⟩
theorem tup_go {t : Addr} {xs : List V} (h : H t = some (.tup xs)) (hp : Pot H p B) (g : Go p H H') : H' t = some (.tup xs) := g _ _ (tup_notp h hp) h fun ps z => by cases z
theorem Lks.go {zs : List Str} {l : Addr} {ls : List (Addr × List Key)} (h : Lks H zs l ls) (hp : Pot H p B) (g : Go p H H') : Lks H' zs l ls :=
  ⟨tup_go h.at_ hp g, fun q hq => ⟨tup_go (h.el q hq).1 hp g, (h.el q hq).2⟩, h.up, h.few⟩
theorem NetO.go {C n r l : Addr} (h : NetO C H n r l) (hp : Pot H p B) (g : Go p H H') : NetO C H' n r l := by
  obtain ⟨dx, e⟩ := h
  refine ⟨dx, g _ _ (fun z => ?_) e fun ps z => by cases z⟩
  obtain ⟨_, _, _, q, _⟩ := hp
  rw [z, q] at e
  cases e
theorem NetW.go {C n r l : Addr} {zs : List Str} {ls : List (Addr × List Key)} (h : NetW C H n r l zs ls) (hp : Pot H p B) (g : Go p H H') : NetW C H' n r l zs ls :=
  ⟨h.net.go hp g, tup_go h.rt hp g, h.ok, h.pw, h.lk.go hp g, h.m⟩
theorem Lks.nil {zs : List Str} {l : Addr} (h : H l = some (.tup [])) : Lks H zs l [] := ⟨h, (fun _ z => by cases z), .nil, Nat.zero_le _⟩
end
/-- a test that does not hold -/
theorem ifNo {t : TT} {a u : TS} {D : Ends} {σ : L2.St} {H : Hp} (P : Hp → Prop) (h : ∀ Q : Bool → Hp → Prop, (∀ H', P H' → Q false H') → t σ H Q) (ku : ∀ H', P H' → u D σ H') : tIfS t a u D σ H := h _ fun H' p => ku H' p
theorem pot_names {zs : List Str} (h : ∀ z ∈ zs, NameOk z) : ∀ z ∈ zs, Low z ∧ z.length ≤ 9 := fun z hz => ⟨(h z hz).2.2, by have := (h z hz).2.1; omega⟩
theorem lks_keys {H : Hp} {zs : List Str} {l : Addr} {ls : List (Addr × List Key)} (h : Lks H zs l ls) : ∀ q ∈ ls, ∃ a b, q.2.take 2 = pairK a b ∧ a ∈ zs ∧ b ∈ zs ∧ tLt a b := fun q hq => by
  obtain ⟨_, a, b, x, y, e, ha, hb, ab, _⟩ := h.el q hq
  exact ⟨a, b, by rw [e]; rfl, ha, hb, ab⟩
theorem strs_dp {K : PySem.W.Frag} {H : Hp} : ∀ zs : List Str, DpAll K H (zs.map V.str) (zs.map PyData.str)
  | [] => .nil
  | z :: zs => .cons (.str z) (strs_dp zs)
theorem strs_shaped {zs : List Str} (h : ∀ z ∈ zs, Low z) : SeqAt.shaped (.tuple (zs.map PyData.str)) = true := by
  have main : PyData.canLayAll0 (zs.map PyData.str) = true ∧ PyData.depthAll (zs.map PyData.str) ≤ 0 := by
    induction zs with
    | nil => simp [PyData.canLayAll0, PyData.depthAll]
    | cons z zs ih =>
      obtain ⟨i1, i2⟩ := ih fun y hy => h y (List.mem_cons_of_mem _ hy)
      rw [List.map_cons, PyData.canLayAll0, PyData.depthAll]
      refine ⟨by rw [i1]; simp [PyData.canLay0, low_ok (h z List.mem_cons_self)], Nat.max_le.mpr ⟨by simp [PyData.depth], i2⟩⟩
  unfold SeqAt.shaped
  rw [PyData.canLay0, main.1, Bool.true_and, PyData.depth]
  exact decide_eq_true (by have := main.2; omega)
theorem keys_dp {K : PySem.W.Frag} {H : Hp} : ∀ ks : List Key, DpAll K H (ks.map kV) (ks.map kD)
  | [] => .nil
  | .inl i :: ks => .cons (.int i) (keys_dp ks)
  | .inr x :: ks => .cons (.str x) (keys_dp ks)
theorem rowsT_dp {K : PySem.W.Frag} {H : Hp} : ∀ {ls : List (Addr × List Key)}, (∀ q ∈ ls, H q.1 = some (.tup (q.2.map kV))) → DpAll K H (ls.map fun q => V.ref q.1) (ls.map fun q => .tuple (q.2.map kD))
  | [], _ => .nil
  | q :: ls, h => .cons (.tup (SqT.of (h q List.mem_cons_self)) (keys_dp q.2)) (rowsT_dp fun p hp => h p (List.mem_cons_of_mem _ hp))
theorem rowsT_shaped {ls : List (Addr × List Key)} (h : ∀ q ∈ ls, ∃ a b x y, q.2 = linkK a b x y ∧ Low a ∧ Low b) : SeqAt.shaped (.tuple (ls.map fun q : Addr × List Key => PyData.tuple (q.2.map kD))) = true := by
  have main : PyData.canLayAll0 (ls.map fun q : Addr × List Key => PyData.tuple (q.2.map kD)) = true ∧ PyData.depthAll (ls.map fun q : Addr × List Key => PyData.tuple (q.2.map kD)) ≤ 1 := by
    induction ls with
    | nil => simp [PyData.canLayAll0, PyData.depthAll]
    | cons q ls ih =>
      obtain ⟨i1, i2⟩ := ih fun y hy => h y (List.mem_cons_of_mem _ hy)
      obtain ⟨a, b, x, y, e, la, lb⟩ := h q List.mem_cons_self
      rw [List.map_cons, PyData.canLayAll0, PyData.depthAll, e]
      refine ⟨by rw [i1]; simp [PyData.canLay0, PyData.canLayAll0, kD, low_ok la, low_ok lb], Nat.max_le.mpr ⟨by simp [PyData.depth, PyData.depthAll, kD], i2⟩⟩
  unfold SeqAt.shaped
  rw [PyData.canLay0, main.1, Bool.true_and, PyData.depth]
  exact decide_eq_true (by have := main.2; omega)
/-- is_refused, called with a tuple of names and a new empty tuple -/
theorem refu0 {p P1 P2 n l : Addr} {Bn : Nat} {H : Hp} {zs : List Str} {Q : VK} {E : XK} (a : At p P1 P2 Bn H) (hn : H n = some (.tup (zs.map V.str))) (z9 : ∀ z ∈ zs, Low z ∧ z.length ≤ 9) (l9 : zs.length ≤ 9) (pw : zs.Pairwise tLt) (no : ¬ RtOk zs) (nl : H l = none)
    (k : ∀ H', Go p H H' → At p P1 P2 Bn H' → Q (.bl true) H') : spRefused P1 P2 [.ref n, .ref l] (upd H l (.tup [])) Q E :=
  ⟨n, l, zs, [], rfl, same_new nl _ _ hn, z9, l9, pw, Lks.nil upd_same, (fun _ z => by cases z), Nat.zero_le _, fun q => no q.1, (a.same (same_new nl)).tb, fun H' e t => k H' ((Go.same (same_new nl)).trans (Go.ext e)) ((a.same (same_new nl)).ext e t)⟩
theorem sm_link {k : List Key} (h : SmLink k) (lo : ∀ a b x y, k = linkK a b x y → (Low a ∧ a.length ≤ 9) ∧ Low b ∧ b.length ≤ 9) : Sm 500 1 (.tuple (k.map kD)) := by
  obtain ⟨a, b, x, n, rfl, fx, n1, n2⟩ := h
  obtain ⟨la, lb⟩ := lo a b x n rfl
  refine (sm_tuple (n := 100) (k := 0) fun d hd => ?_).mono (by show 4 * 102 + 2 ≤ 500; decide) (Nat.le_refl _)
  have i0 : ∀ {i : Int}, Sm 20 2 (.int i) → Sm 100 0 (.int i) := fun h => ⟨h.ok, Nat.le_trans h.len (by decide), by simp [PyData.depth]⟩
  have hd : d = .str a ∨ d = .str b ∨ d = .int x ∨ d = .int (n : Int) := by simpa [linkK, kD] using hd
  rcases hd with rfl | rfl | rfl | rfl
  · exact sm_low la.1 la.2
  · exact sm_low lb.1 lb.2
  · rcases fx with rfl | rfl | rfl
    · exact i0 (sm_int (n := 1) (by decide))
    · exact i0 (sm_int (n := 2) (by decide))
    · exact i0 sm_big
  · exact i0 (sm_int (by omega))
theorem made_same {H : Hp} {x dx C : Addr} (nx : H x = none) (nd : H dx = none) : Same H (upd (upd H dx (.own x)) x (.ins C dx [])) := fun b o e => by
  rw [upd_ne (ne_of_none e nx), upd_ne (ne_of_none e nd)]
  exact e
theorem made_but {H H' : Hp} {x dx C : Addr} (nx : H x = none) (nd : H dx = none) (b : But x (upd (upd H dx (.own x)) x (.ins C dx [])) H') : Same H H' := fun c o e => b c o (ne_of_none e nx) (made_same nx nd _ _ e)
/-- two tuples put together -/
theorem catT {K : PySem.W.Frag} {H : Hp} {a b : Addr} {xs ys : List V} {Q : VK} (ha : H a = some (.tup xs)) (hb : H b = some (.tup ys)) (sz : xs.length + ys.length ≤ sizeLine)
    (q : ∀ t H', Same H H' → H' t = some (.tup (xs ++ ys)) → Q (.ref t) H') : rCatA K (.ref a) (.ref b) H Q := by
  refine ⟨a, b, xs, ys, rfl, rfl, SqT.of ha, SqT.of hb, sz, fun e => ?_, fun _ e => ?_, fun _ _ p np => q p _ (same_new np) upd_same⟩
  · subst e
    exact q b H (Same.refl H) hb
  · subst e
    exact q a H (Same.refl H) (by rw [List.append_nil]; exact ha)
/-- the links but the d-th -/
abbrev butAt (ls : List (Addr × List Key)) (d : Nat) : List (Addr × List Key) := ls.take d ++ ls.drop (d + 1)
theorem butAt_sub (ls : List (Addr × List Key)) (d : Nat) : (butAt ls d).Sublist ls := by
  have e : butAt ls d = ls.eraseIdx d := by rw [List.eraseIdx_eq_take_drop_succ]
  rw [e]
  exact List.eraseIdx_sublist ls d
theorem Lks.sub {H : Hp} {zs : List Str} {l f : Addr} {ls fs : List (Addr × List Key)} (h : Lks H zs l ls) (s : fs.Sublist ls) (e : H f = some (.tup (fs.map fun q => V.ref q.1))) : Lks H zs f fs :=
  ⟨e, fun q hq => h.el q (s.subset hq), h.up.sublist s, Nat.le_trans s.length_le h.few⟩
theorem but_pair {ls : List (Addr × List Key)} {d : Nat} {q0 : Addr × List Key} (nd : (ls.map fun q => q.2.take 2).Nodup) (h : ls[d]? = some q0) : ∀ q ∈ butAt ls d, q.2.take 2 ≠ q0.2.take 2 := by
  obtain ⟨hd, rfl⟩ := List.getElem?_eq_some_iff.mp h
  have e : ls = ls.take d ++ ls[d] :: ls.drop (d + 1) := by rw [← List.drop_eq_getElem_cons hd, List.take_append_drop]
  have p : (ls[d] :: butAt ls d).Perm ls := (List.perm_middle.symm).trans (List.Perm.of_eq e.symm)
  have nd2 := (p.map fun q : Addr × List Key => q.2.take 2).nodup_iff.mpr nd
  rw [List.map_cons, List.nodup_cons] at nd2
  intro q hq e2
  exact nd2.1 (e2 ▸ List.mem_map_of_mem hq)
theorem wo_all {ls : List (Addr × List Key)} {a b : Str} (h : ∀ q ∈ ls, q.2.take 2 ≠ pairK a b) : woL a b ls = ls := List.filter_eq_self.mpr fun q hq => by rw [decide_eq_false (h q hq)]; rfl
theorem Lks.shaped {H : Hp} {zs : List Str} {l : Addr} {ls : List (Addr × List Key)} (h : Lks H zs l ls) (nok : ∀ z ∈ zs, NameOk z) : SeqAt.shaped (.tuple (ls.map fun q : Addr × List Key => PyData.tuple (q.2.map kD))) = true :=
  rowsT_shaped fun q hq => by
    obtain ⟨_, a, b, x, y, e, ha, hb, _⟩ := h.el q hq
    exact ⟨a, b, x, y, e, (nok a ha).2.2, (nok b hb).2.2⟩
theorem Lks.dp {K : PySem.W.Frag} {H : Hp} {zs : List Str} {l : Addr} {ls : List (Addr × List Key)} (h : Lks H zs l ls) : Dp K H (.ref l) (.tuple (ls.map fun q : Addr × List Key => PyData.tuple (q.2.map kD))) :=
  .tup (SqT.of h.at_) (rowsT_dp fun q hq => (h.el q hq).1)
theorem wo_len {ls : List (Addr × List Key)} {a b : Str} {q1 : Addr × List Key} (nd : (ls.map fun q => q.2.take 2).Nodup) (h : q1 ∈ ls) (e : q1.2.take 2 = pairK a b) : (woL a b ls).length + 1 = ls.length := by
  obtain ⟨j, hj⟩ := List.mem_iff_getElem?.mp h
  have bp := but_pair nd hj
  obtain ⟨hd, rfl⟩ := List.getElem?_eq_some_iff.mp hj
  have e2 : ls = ls.take j ++ ls[j] :: ls.drop (j + 1) := by rw [← List.drop_eq_getElem_cons hd, List.take_append_drop]
  have p : (ls[j] :: butAt ls j).Perm ls := (List.perm_middle.symm).trans (List.Perm.of_eq e2.symm)
  have l1 : (woL a b ls).length = (woL a b (ls[j] :: butAt ls j)).length := ((p.filter _).length_eq).symm
  have l2 : woL a b (ls[j] :: butAt ls j) = butAt ls j := by
    unfold woL
    rw [List.filter_cons_of_neg (by rw [decide_eq_true e]; exact Bool.false_ne_true)]
    exact wo_all fun q hq => by rw [← e]; exact bp q hq
  have l3 := p.length_eq
  rw [List.length_cons] at l3
  rw [l1, l2]
  exact l3
theorem shaped_refl {d : PyData} (h : SeqAt.shaped d = true) : PyData.eqv d d = true := SeqAt.eqv_refl d (SeqAt.canLay_of_shaped h)
end Toy
set_option Elab.async false
set_option linter.all false
set_option maxRecDepth 100000
set_option maxHeartbeats 8000000
namespace Toy
open PySem L2 Q RZ LamX
/-- _law_fine(pot) -/
def spFine (P1 P2 : Addr) : Sp := fun vs H Q _ => ∃ (p : Addr), vs = [.ref p] ∧ At p P1 P2 0 H ∧ ∀ B H', Go p H H' → At p P1 P2 B H' → Q (.bl true) H'
section
variable {P : Program} {w : World} {K : PySem.W.Frag} {mg : Str → Option Value} {base : Heap} {ca ia fa : Nat → Addr} {fd fi : Nat → FuncData} {c1 P1 c2 P2 : Addr}
theorem ok_fine (T : Txt K mg ca ia fa fd fi) (FC1 : FunC K "_law_is_refused" s_l_is_refused (fa 34) (fd 34) c1) (FC : FunC K "_law_fine" s_l_fine (fa 36) (fd 36) c2) (B : Tb base mg c1 P1 c2 P2) :
    FnG P w K mg base CX0 11 (fa 36) (fd 36) ["_law_pot_here"] (spFine P1 P2) := by
  have G_m_init := ok_init (P := P) (w := w) (base := base) T
  have G_m_links := ok_m_links (P := P) (w := w) (base := base) T
  have G_m_routers := ok_m_routers (P := P) (w := w) (base := base) T
  have G_m_length := ok_m_length (P := P) (w := w) (base := base) T
  have G_m_with_link := ok_m_with (P := P) (w := w) (base := base) T
  have G_m_without := ok_m_without (P := P) (w := w) (base := base) T
  have G_l_take := ok_take (P := P) (w := w) (base := base) T
  have G_l_of := ok_of (P := P) (w := w) (base := base) T
  have G_l_names := ok_names (P := P) (w := w) (base := base) T
  have G_l_some_links := ok_some (P := P) (w := w) (base := base) T
  have G_l_is_refused := ok_refused (P := P) (w := w) (base := base) T FC1 B
  obtain ⟨pl, hp_links⟩ := T.P_links
  obtain ⟨pr, hp_routers⟩ := T.P_routers
  obtain ⟨ocC, odC, kVC, docC, pmC, anC, cdC, ctC, oslC, eC, lkC, hcC⟩ := T.F_l_caught.ex
  have bC := T.b_l_caught
  rw [eC] at lkC bC
  obtain ⟨oc, od, kV, doc, pm, an, ct, osl, e, lk, hcd⟩ := FC.ex
  rw [e] at lk ⊢
  refine fng_of lk hcd sc_l_fine (fun vs H Q E h => ?_) fun A outer s H vs Q E hgd hr h => ?_
  · obtain ⟨p, rfl, _⟩ := h
    rfl
  · obtain ⟨p, rfl, at0, k⟩ := h
    suffices hh : ∃ t, PSs (cxOf CX0 P w K mg base N_l_fine "_law_fine" (defScope s_l_fine) (fa 36) (.ref c2) A outer s H E).nox (defBody s_l_fine) t ∧ t { nx := fun _ H' => Q .non H', rt := Q } (L2.start N_l_fine [V.ref p]) H by
      obtain ⟨t, h1, h2⟩ := hh
      exact ⟨t, h1.nox, h2⟩
    have eq : (cxOf CX0 P w K mg base N_l_fine "_law_fine" (defScope s_l_fine) (fa 36) (.ref c2) A outer s H E).nox.env.qual ++ ("<lambda>" : Str) = qF := by rw [cx_qual]; exact qF_eq.symm
    have gv := caught_gives (X := (cxOf CX0 P w K mg base N_l_fine "_law_fine" (defScope s_l_fine) (fa 36) (.ref c2) A outer s H E).nox) T rfl rfl (g := fa 33) (cdg := cdC)
      (q := (cxOf CX0 P w K mg base N_l_fine "_law_fine" (defScope s_l_fine) (fa 36) (.ref c2) A outer s H E).nox.env.qual ++ ("<lambda>" : Str))
    have hm : (P2, (cxOf CX0 P w K mg base N_l_fine "_law_fine" (defScope s_l_fine) (fa 36) (.ref c2) A outer s H E).nox.env.qual ++ ("<lambda>" : Str)) ∈ TL P1 P2 := by rw [eq]; exact B.m2
    have hu : ∀ p ∈ TL P1 P2, p.1 = P2 → p.2 = (cxOf CX0 P w K mg base N_l_fine "_law_fine" (defScope s_l_fine) (fa 36) (.ref c2) A outer s H E).nox.env.qual ++ ("<lambda>" : Str) := by rw [eq]; exact B.u2
    refine ⟨_, (pss_cons (ps_set (i := 1) sc_l_fine.nd rfl (Or.inl rfl) (pe_callTy call_tuple_of (by rfl) T.n_tuple (by decide +kernel) (pa_cons (pe_call G_l_names (hr.mono (by decide)) rfl T.g_l_names T.k_l_names T.b_l_names .nil pass0 (pa_cons (pv 0) (pa_cons pe_int pa_nil))) pa_nil)))
      (pss_cons (ps_if (PW.pt (pw_or (pt_not (pt_val (pe_callG G_l_is_refused hgd (hr.mono (by decide)) rfl T.g_l_is_refused T.k_l_is_refused T.b_l_is_refused .nil pass0 (pa_cons (pv 1) (pa_cons (pe_tup pa_nil) pa_nil))))) (pw_or (pt_not (pt_val (pe_callG G_l_is_refused hgd (hr.mono (by decide)) rfl T.g_l_is_refused T.k_l_is_refused T.b_l_is_refused .nil pass0 (pa_cons (pe_slice sl_tupA (pv 1) po_none (po_some pe_int)) (pa_cons (pe_tup pa_nil) pa_nil))))) (pw_or1 (pt_not (pt_val (pe_callG G_l_is_refused hgd (hr.mono (by decide)) rfl T.g_l_is_refused T.k_l_is_refused T.b_l_is_refused .nil pass0 (pa_cons (pe_tup pa_nil) (pa_cons (pe_tup pa_nil) pa_nil))))))))) (pss_one (ps_ret pe_bl)) pss_nil)
      (pss_cons (ps_for PassesOwn.never rfl (pi_tup (pe_tup (pa_cons pe_int (pa_cons pe_int pa_nil)))) (pg_name (i := 2) sc_l_fine.nd rfl (Or.inl rfl)) (pss_one (ps_if (pt_cmpR (op_neD hr.units) (pe_prop (pe_make T.M_Net G_m_init (hr.mono (by decide)) rfl T.g_Net T.b_m_init .nil passL (pa_cons (pe_slice sl_tupA (pv 1) po_none (po_some (pv 2))) (pa_cons (pe_tup pa_nil) pa_nil))) T.cl_Net hp_routers G_m_routers (hr.mono (by decide)) T.b_m_routers .nil pass0 rfl) (pe_slice sl_tupA (pv 1) po_none (po_some (pv 2))) (nomark _)) (pss_one (ps_ret pe_bl)) pss_nil)))
      (pss_cons (ps_set (i := 3) sc_l_fine.nd rfl (Or.inl rfl) (pe_slice sl_tupA (pv 1) po_none (po_some (pe_call G_l_of (hr.mono (by decide)) rfl T.g_l_of T.k_l_of T.b_l_of .nil pass0 (pa_cons (pv 0) (pa_cons (pe_lst (pa_cons pe_int (pa_cons pe_int pa_nil))) pa_nil))))))
      (pss_cons (ps_set (i := 4) sc_l_fine.nd rfl (Or.inl rfl) (pe_call G_l_some_links (hr.mono (by decide)) rfl T.g_l_some_links T.k_l_some_links T.b_l_some_links .nil pass0 (pa_cons (pv 0) (pa_cons (pv 3) (pa_cons pe_int pa_nil)))))
      (pss_cons (ps_if (PW.pt (pw_or (pt_cmpR op_ne (pe_callB call_len (by rfl) T.n_len (by decide +kernel) (pa_cons (pv 4) pa_nil)) pe_int (nomark _)) (pw_or1 (pt_not (pt_val (pe_callG G_l_is_refused hgd (hr.mono (by decide)) rfl T.g_l_is_refused T.k_l_is_refused T.b_l_is_refused .nil pass0 (pa_cons (pv 3) (pa_cons (pv 4) pa_nil)))))))) (pss_one (ps_ret pe_bl)) pss_nil)
      (pss_cons (ps_set (i := 5) sc_l_fine.nd rfl (Or.inl rfl) (pe_call G_l_take (hr.mono (by decide)) rfl T.g_l_take T.k_l_take T.b_l_take .nil pass0 (pa_cons (pv 0) (pa_cons pe_int pa_nil))))
      (pss_cons (ps_asg (pe_tup (pa_cons (pe_ix ix_seq (pv 4) (pv 5) (fun _ _ => rfl)) (pa_cons (pe_op op_catA (pe_slice sl_tupA (pv 4) po_none (po_some (pv 5))) (pe_slice sl_tupA (pv 4) (po_some (pe_op op_add (pv 5) pe_int)) po_none)) pa_nil))) (pg_tup rfl (pgs_cons (pg_name (i := 6) sc_l_fine.nd rfl (Or.inr rfl)) (pgs_cons (pg_name (i := 7) sc_l_fine.nd rfl (Or.inl rfl)) pgs_nil))))
      (pss_cons (ps_set (i := 8) sc_l_fine.nd rfl (Or.inr rfl) (pe_make T.M_Net G_m_init (hr.mono (by decide)) rfl T.g_Net T.b_m_init .nil passL (pa_cons (pv 3) (pa_cons (pv 7) pa_nil))))
      (pss_cons (ps_if (PW.pt (pw_or (pt_cmpR (op_neD hr.units) (pe_prop (pv 8) T.cl_Net hp_links G_m_links (hr.mono (by decide)) T.b_m_links .nil pass0 rfl) (pv 7) (nomark _)) (pw_or1 (pt_not (pt_val (pe_callB call_isA (by rfl) T.n_isinstance (by decide +kernel) (pa_cons (pe_lamcall (T := TL P1 P2) (TT := TCaught K (ca 1)) (k := 8) (Ng := N_l_caught) (a := "_law_look") (t := fun E => tMeth (ca 18) "with_link" (spWith (ca 18) (ca 6)) [] E (tVar 8) (tCons (tOp (rIx K) (tVar 6) (tC (.int 0))) (tCons (tOp (rIx K) (tVar 6) (tC (.int 1))) (tCons (tC (.int 1)) (tCons (tC (.int 1)) tNil))))) rfl T.g_l_caught T.k_l_caught lkC hcC bC sc_l_caught rfl (Or.inl rfl) gv B.t2 cx_code hm hu (hr.mono (by decide)) (lamS_by (by show lamSB (defScope s_l_fine) _ = true; decide +kernel)) rfl (fun _ _ _ _ _ => rfl)
        (fun A outer s H E f c' hr => (pe_meth (pv 8) T.cl_Net T.Me_m_with_link G_m_with_link (hr.mono (by decide)) T.b_m_with_link .nil (passes_call (takes_of rfl rfl rfl rfl) fun _ _ _ _ h => h) (pa_cons (pe_ix ix_seq (pv 6) pe_int (fun _ _ => rfl)) (pa_cons (pe_ix ix_seq (pv 6) pe_int (fun _ _ => rfl)) (pa_cons pe_int (pa_cons pe_int pa_nil)))) (by rfl)))) (pa_cons (pe_glob rfl T.c_TooMany.g (v := .ref (ca 6)) rfl) pa_nil)))))))) (pss_one (ps_ret pe_bl)) pss_nil)
      (pss_cons (ps_asg (pe_slice sl_tupA (pe_call G_l_of (hr.mono (by decide)) rfl T.g_l_of T.k_l_of T.b_l_of .nil pass0 (pa_cons (pv 0) (pa_cons (pv 7) pa_nil))) po_none (po_some pe_int)) (pg_tup rfl (pgs_cons (pg_name (i := 9) sc_l_fine.nd rfl (Or.inl rfl)) (pgs_cons (pg_name (i := 10) sc_l_fine.nd rfl (Or.inl rfl)) pgs_nil))))
      (pss_cons (ps_set (i := 11) sc_l_fine.nd rfl (Or.inl rfl) (pe_meth (pv 8) T.cl_Net T.Me_m_with_link G_m_with_link (hr.mono (by decide)) T.b_m_with_link .nil passL (pa_cons (pv 9) (pa_cons (pv 10) (pa_cons pe_int (pa_cons pe_int pa_nil)))) (by rfl)))
      (pss_cons (ps_if (PW.pt (pw_or (pt_cmpR op_ne (pe_callB call_len (by rfl) T.n_len (by decide +kernel) (pa_cons (pe_prop (pv 11) T.cl_Net hp_links G_m_links (hr.mono (by decide)) T.b_m_links .nil pass0 rfl) pa_nil)) pe_int (nomark _)) (pw_or1 (pt_cmpR (op_neD hr.units) (pe_tup (pa_cons (pe_meth (pv 11) T.cl_Net T.Me_m_length G_m_length (hr.mono (by decide)) T.b_m_length .nil pass0 (pa_cons (pv 9) (pa_cons (pv 10) pa_nil)) (by rfl)) (pa_cons (pe_meth (pv 11) T.cl_Net T.Me_m_length G_m_length (hr.mono (by decide)) T.b_m_length .nil pass0 (pa_cons (pv 10) (pa_cons (pv 9) pa_nil)) (by rfl)) pa_nil))) (pe_tup (pa_cons pe_int (pa_cons pe_int pa_nil))) (nomark _))))) (pss_one (ps_ret pe_bl)) pss_nil)
      (pss_cons (ps_if (pt_cmpR op_ne (pe_callB call_len (by rfl) T.n_len (by decide +kernel) (pa_cons (pe_prop (pe_meth (pe_meth (pv 8) T.cl_Net T.Me_m_without G_m_without (hr.mono (by decide)) T.b_m_without .nil pass0 (pa_cons (pv 9) (pa_cons (pv 10) pa_nil)) (by rfl)) T.cl_Net T.Me_m_with_link G_m_with_link (hr.mono (by decide)) T.b_m_with_link .nil passL (pa_cons (pe_ix ix_seq (pv 6) pe_int (fun _ _ => rfl)) (pa_cons (pe_ix ix_seq (pv 6) pe_int (fun _ _ => rfl)) (pa_cons pe_int (pa_cons pe_int pa_nil)))) (by rfl)) T.cl_Net hp_links G_m_links (hr.mono (by decide)) T.b_m_links .nil pass0 rfl) pa_nil)) pe_int (nomark _)) (pss_one (ps_ret pe_bl)) pss_nil)
      (pss_cons (ps_set (i := 12) sc_l_fine.nd rfl (Or.inl rfl) (pe_tup (pa_cons pe_str (pa_cons pe_str pa_nil))))
      (pss_one (ps_ret (pe_and (pe_callG G_l_is_refused hgd (hr.mono (by decide)) rfl T.g_l_is_refused T.k_l_is_refused T.b_l_is_refused .nil pass0 (pa_cons (pv 12) (pa_cons (pe_tup pa_nil) pa_nil))) (pe_one (pe_cmpR (op_eqD hr.units) (pe_prop (pe_make T.M_Net G_m_init (hr.mono (by decide)) rfl T.g_Net T.b_m_init .nil passL (pa_cons (pe_tup (pa_cons pe_str (pa_cons pe_str pa_nil))) (pa_cons (pe_tup pa_nil) pa_nil))) T.cl_Net hp_routers G_m_routers (hr.mono (by decide)) T.b_m_routers .nil pass0 rfl) (pe_tup (pa_cons pe_str (pa_cons pe_str pa_nil))) (nomark _))))))))))))))))))))), ?_⟩
    -- nine names
    refine seqS (fun v H' => ∃ (zs : List Str) (n : Addr), v = .ref n ∧ zs.length = 9 ∧ zs.Pairwise tLt ∧ (∀ z ∈ zs, NameOk z) ∧ H' n = some (.tup (zs.map V.str)) ∧ Go p H H' ∧ At p P1 P2 20 H') (fun Q k' => ?_) ?_
    · refine ⟨_, rfl, p, 9, 0, rfl, at0.po, by decide, by decide, fun zs q H1 l9 pw nok b1 p1 nq hq => ?_⟩
      refine ⟨q, _, rfl, .inl ⟨SqL.of hq, fun l nl => k' _ _ ⟨zs, l, rfl, l9, pw, nok, upd_same, (Go.but b1).trans (Go.same (same_new nl)), (at0.but b1 p1).same (same_new nl)⟩⟩⟩
    rintro _ H1 ⟨zs, n, rfl, l9, pw, nok, hn, g1, a1⟩
    have nok9 := pot_names nok
    refine ifNo (fun H' => H' n = some (.tup (zs.map V.str)) ∧ Go p H H' ∧ At p P1 P2 20 H') (fun Q k' => ?_) ?_
    · refine ⟨_, rfl, by show 0 ≤ sizeLine; decide, fun l nl => ?_⟩
      unfold tNil
      show spRefused P1 P2 ([V.ref n, V.ref l] ++ []) _ _ _
      refine refu0 a1 hn nok9 (by omega) pw (fun q => by have := q.2.1; omega) nl fun H2 g2 a2 => ⟨_, rfl, ?_⟩
      have hn2 := tup_go hn a1.po g2
      refine ⟨_, rfl, _, rfl, slT hn2 fun t H3 s3 ht => ?_⟩
      rw [show cutV (zs.map V.str) none (some 1) = (zs.take 1).map V.str from by rw [List.map_take]; exact cut_take _ 1] at ht
      have a3 := a2.same s3
      refine ⟨by show 0 ≤ sizeLine; decide, fun l2 nl2 => ?_⟩
      show spRefused P1 P2 [V.ref t, V.ref l2] _ _ _
      refine refu0 a3 ht (fun z hz => nok9 z (List.mem_of_mem_take hz)) (by rw [List.length_take]; omega) (pw.sublist (List.take_sublist _ _)) (fun q => by have := q.1; rw [List.length_take] at this; omega) nl2 fun H4 g4 a4 => ⟨_, rfl, ?_⟩
      refine ⟨by show 0 ≤ sizeLine; decide, fun e1 ne1 => ⟨by show 0 ≤ sizeLine; decide, fun e2 ne2 => ?_⟩⟩
      have a5 := a4.same (same_new (o := .tup []) ne1)
      show spRefused P1 P2 [V.ref e1, V.ref e2] _ _ _
      refine refu0 (zs := []) a5 upd_same (fun _ z => by cases z) (by decide) .nil (fun q => by have := q.1; simp at this) ne2 fun H5 g5 a6 => ⟨_, rfl, ?_⟩
      have g15 := (((g2.trans (Go.same s3)).trans g4).trans (Go.same (same_new (o := .tup []) ne1))).trans g5
      exact k' H5 ⟨tup_go hn a1.po g15, g1.trans g15, a6⟩
    rintro H2 ⟨hn2, g2, a2⟩
    refine nxt ?_
    refine ⟨by show 2 ≤ sizeLine; decide, fun tp ntp => ⟨tp, rfl, ⟨_, SqT.of upd_same⟩, ?_⟩⟩
    have a3 := a2.same (same_new (o := .tup [.int 2, .int 8]) ntp)
    have g3 := g2.trans (Go.same (same_new (o := .tup [.int 2, .int 8]) ntp))
    refine for_it (walk_tup (xs := [V.int 2, V.int 8])) (fun i σ H' => (∃ x2 : Option V, σ = [some (.ref p), some (.ref n), x2, none, none, none, none, none, none, none, none, none, none]) ∧ H' tp = some (.tup [.int 2, .int 8]) ∧ H' n = some (.tup (zs.map V.str)) ∧ Go p H H' ∧ At p P1 P2 20 H') ⟨⟨none, rfl⟩, upd_same, tup_go hn2 a2.po (Go.same (same_new ntp)), g3, a3⟩ (fun i σ H' _ z => SqT.of z.2.1) ?_ ?_
    · rintro i x σ H3 H4 hi ⟨⟨x2, rfl⟩, htp, hn3, g3, a3⟩ ⟨rfl, hx⟩
      obtain ⟨m, rfl, m2, m8⟩ : ∃ m : Nat, x = .int (m : Int) ∧ 2 ≤ m ∧ m ≤ 8 := by
        match i, hx with
        | 0, hv => cases hv; exact ⟨2, rfl, by decide, by decide⟩
        | 1, hv => cases hv; exact ⟨8, rfl, by decide, by decide⟩
        | i + 2, hv => cases hv
      have hcut : cutV (zs.map V.str) none (some (m : Int)) = (zs.take m).map V.str := by rw [List.map_take]; exact cut_take _ m
      have okm : RtOk (zs.take m) := ⟨by rw [List.length_take]; omega, by rw [List.length_take]; omega, fun z hz => nok z (List.mem_of_mem_take hz)⟩
      have pwm : (zs.take m).Pairwise tLt := pw.sublist (List.take_sublist _ _)
      refine ⟨_, rfl, _, rfl, _, rfl, slT hn3 fun t H5 s5 ht => ?_⟩
      rw [hcut] at ht
      refine ⟨by show 0 ≤ sizeLine; decide, fun l nl => ?_⟩
      have s6 := same_new (o := .tup []) nl
      have ht6 := s6 _ _ ht
      have hl6 : upd H5 l (.tup []) l = some (.tup []) := upd_same
      unfold tNil
      intro x dx nx nd ne
      show spInit _ _ (V.ref x :: ([V.ref t, V.ref l] ++ [])) _ _ _
      refine ⟨x, t, l, zs.take m, [], rfl, ⟨dx, upd_same⟩, made_same nx nd _ _ ht6, fun z hz => by have := (nok z (List.mem_of_mem_take hz)).2.1; omega, by have := okm.2.1; omega, pwm, Lks.nil (made_same nx nd _ _ hl6), fun h H7 b7 n7 => ⟨rfl, ?_⟩, fun h => absurd ⟨okm, Nat.zero_le _⟩ h⟩
      have s7 := made_but nx nd b7
      have ht7 := s7 _ _ ht6
      have s47 := (s5.trans s6).trans s7
      obtain ⟨dx7, hN⟩ := n7
      refine ⟨x, dx7, _, rfl, hN, x, dx7, _, .ref t, rfl, hN, rfl, ?_⟩
      refine ⟨_, rfl, _, rfl, _, rfl, slT (s47 _ _ hn3) fun t2 H8 s8 ht2 => ?_⟩
      rw [hcut] at ht2
      have sh := strs_shaped (zs := zs.take m) fun z hz => (nok z (List.mem_of_mem_take hz)).2.2
      refine ⟨_, _, .tup (SqT.of (s8 _ _ ht7)) (strs_dp _), .tup (SqT.of ht2) (strs_dp _), sh, sh, _, rfl, ?_⟩
      rw [shaped_refl sh]
      have s48 := s47.trans s8
      exact nxt ⟨⟨_, rfl⟩, s48 _ _ htp, s48 _ _ hn3, g3.trans (Go.same s48), a3.same s48⟩
    rintro σ H4 ⟨⟨x2, rfl⟩, _, hn4, g4, a4⟩
    refine nxt ?_
    -- seven or eight of them
    refine seqS (fun v H' => ∃ (ys : List Str) (r : Addr), v = .ref r ∧ 7 ≤ ys.length ∧ ys.length ≤ 8 ∧ ys.Pairwise tLt ∧ (∀ z ∈ ys, NameOk z) ∧ H' r = some (.tup (ys.map V.str)) ∧ Go p H H' ∧ At p P1 P2 21 H') (fun Q k' => ?_) ?_
    · refine ⟨_, rfl, ?_⟩
      refine noPart ⟨_, rfl, by show 2 ≤ sizeLine; decide, fun l nl => ?_⟩
      refine ⟨p, .ref l, _, 20, rfl, a4.po.same (same_new nl), by decide, .inl ⟨l, rfl, pot_none a4.po nl, SqL.of upd_same⟩, by show 0 < 2; decide, by show 2 < 1073741824; decide, fun d v H5 hv b5 p5 => ?_⟩
      obtain ⟨m, rfl, m7, m8⟩ : ∃ m : Nat, v = .int (m : Int) ∧ 7 ≤ m ∧ m ≤ 8 := by
        match d, hv with
        | 0, hv => cases hv; exact ⟨7, rfl, by decide, by decide⟩
        | 1, hv => cases hv; exact ⟨8, rfl, by decide, by decide⟩
        | d + 2, hv => cases hv
      have b45 := (But.of (same_new (o := .lst [.int 7, .int 8]) nl)).trans b5
      refine ⟨_, rfl, slT (tup_go hn4 a4.po (Go.but b45)) fun t H6 s6 ht => ?_⟩
      rw [show cutV (zs.map V.str) none (some (m : Int)) = (zs.take m).map V.str from by rw [List.map_take]; exact cut_take _ m] at ht
      exact k' _ _ ⟨zs.take m, t, rfl, by rw [List.length_take]; omega, by rw [List.length_take]; omega, pw.sublist (List.take_sublist _ _), fun z hz => nok z (List.mem_of_mem_take hz), ht, g4.trans ((Go.but b45).trans (Go.same s6)), (a4.but b45 p5).same s6⟩
    rintro _ H5 ⟨ys, r, rfl, y7, y8, pwy, noky, hr5, g5, a5⟩
    refine seqS (fun v H' => ∃ (l : Addr) (ls : List (Addr × List Key)), v = .ref l ∧ Lks H' ys l ls ∧ ls.length = 17 ∧ (∀ q ∈ ls, SmLink q.2) ∧ H' r = some (.tup (ys.map V.str)) ∧ Go p H H' ∧ At p P1 P2 121 H') (fun Q k' => ?_) ?_
    · refine ⟨_, rfl, _, rfl, p, r, ys, 21, rfl, a5.po, by decide, hr5, pwy, noky, y7, y8, fun l ls H6 hl l17 sm b6 p6 => ?_⟩
      exact k' _ _ ⟨l, ls, rfl, hl, l17, sm, tup_go hr5 a5.po (Go.but b6), g5.trans (Go.but b6), a5.but b6 p6⟩
    rintro _ H6 ⟨l, ls, rfl, hl, l17, sm, hr6, g6, a6⟩
    have smL : ∀ q ∈ ls, Sm 500 1 (.tuple (q.2.map kD)) := fun q hq => by
      refine sm_link (sm q hq) fun a b x y e => ?_
      obtain ⟨_, a', b', x', y', e2, ha, hb, _⟩ := hl.el q hq
      rw [e] at e2
      cases e2
      exact ⟨pot_names noky a ha, pot_names noky b hb⟩
    have ll : (ls.map fun q => V.ref q.1).length = 17 := by rw [List.length_map, l17]
    refine ifNo (fun H' => Lks H' ys l ls ∧ H' r = some (.tup (ys.map V.str)) ∧ Go p H H' ∧ At p P1 P2 121 H') (fun Q k' => ?_) ?_
    · refine ⟨_, rfl, _, _, rfl, .inr ⟨_, SqT.of hl.at_, rfl⟩, rfl, _, rfl, ite2 (fun c => ?_) fun _ => ?_⟩
      · rw [ll] at c
        exact absurd c (by decide)
      refine ⟨_, rfl, _, rfl, r, l, ys, ls, rfl, hr6, pot_names noky, by omega, pwy, hl, smL, by omega, fun q => by have := q.2; omega, a6.tb, fun H7 e7 t7 => ⟨_, rfl, ?_⟩⟩
      exact k' H7 ⟨hl.extn e7, extn_tup e7 hr6, g6.trans (Go.ext e7), a6.ext e7 t7⟩
    rintro H7 ⟨hl7, hr7, g7, a7⟩
    refine nxt ?_
    refine seqS (fun v H' => ∃ d : Nat, v = .int (d : Int) ∧ d < 17 ∧ Lks H' ys l ls ∧ H' r = some (.tup (ys.map V.str)) ∧ Go p H H' ∧ At p P1 P2 122 H') (fun Q k' => ?_) ?_
    · exact ⟨_, rfl, p, 17, 121, rfl, a7.po, by decide, by decide, by decide, fun d H8 hd b8 p8 => k' _ _ ⟨d, rfl, by omega, hl7.go a7.po (Go.but b8), tup_go hr7 a7.po (Go.but b8), g7.trans (Go.but b8), a7.but b8 p8⟩⟩
    rintro _ H8 ⟨d, rfl, d17, hl8, hr8, g8, a8⟩
    obtain ⟨q0, hq0⟩ : ∃ q0, ls[d]? = some q0 := ⟨_, List.getElem?_eq_getElem (by omega)⟩
    have lf : (butAt ls d).length = 16 := by
      rw [List.length_append, List.length_take, List.length_drop]
      omega
    refine seqA (fun v H' => ∃ tq f : Addr, v = .ref tq ∧ H' tq = some (.tup [.ref q0.1, .ref f]) ∧ Lks H' ys f (butAt ls d) ∧ Lks H' ys l ls ∧ H' r = some (.tup (ys.map V.str)) ∧ Go p H H' ∧ At p P1 P2 122 H') (fun Q k' => ?_) ?_
    · refine ⟨_, rfl, _, rfl, .inr (.inl ⟨l, _, (d : Int), .ref q0.1, rfl, rfl, SqT.of hl8.at_, atI_nat (by rw [List.getElem?_map, hq0]; rfl), ?_⟩)⟩
      refine ⟨_, rfl, _, rfl, _, rfl, slT hl8.at_ fun t1 H9 s9 ht1 => ?_⟩
      rw [show cutV (ls.map fun q => V.ref q.1) none (some (d : Int)) = (ls.take d).map fun q => V.ref q.1 from by rw [List.map_take]; exact cut_take _ d] at ht1
      refine ⟨_, rfl, _, rfl, _, _, rfl, rfl, _, rfl, noPart (slT (s9 _ _ hl8.at_) fun t2 H10 s10 ht2 => ?_)⟩
      rw [show cutV (ls.map fun q => V.ref q.1) (some ((d : Int) + 1)) none = (ls.drop (d + 1)).map fun q => V.ref q.1 from by rw [List.map_drop]; exact cut_drop _ (d + 1)] at ht2
      refine catT (s10 _ _ ht1) ht2 (by rw [List.length_map, List.length_map, List.length_take, List.length_drop, sizeLine_eq]; omega) fun f H11 s11 hf => ?_
      refine ⟨by show 2 ≤ sizeLine; decide, fun tq ntq => ?_⟩
      have s12 := same_new (o := .tup [.ref q0.1, .ref f]) ntq
      have s8 := ((s9.trans s10).trans s11).trans s12
      have hl12 := hl8.same s8
      rw [← List.map_append] at hf
      exact k' _ _ ⟨tq, f, rfl, upd_same, hl12.sub (butAt_sub ls d) (s12 _ _ hf), hl12, s8 _ _ hr8, g8.trans (Go.same s8), a8.same s8⟩
    rintro _ H9 ⟨tq, f, rfl, htq, hf9, hl9, hr9, g9, a9⟩
    refine ⟨tq, _, rfl, SqT.of htq, rfl, _, _, rfl, _, _, rfl, rfl, ?_⟩
    -- the net of sixteen links
    refine seqS (fun v H' => ∃ nn : Addr, v = .ref nn ∧ NetW (ca 18) H' nn r f ys (butAt ls d) ∧ Lks H' ys l ls ∧ Go p H H' ∧ At p P1 P2 122 H') (fun Q k' => ?_) ?_
    · refine ⟨_, rfl, _, rfl, ?_⟩
      unfold tNil
      intro x dx nx nd ne
      show spInit _ _ (V.ref x :: ([V.ref r, V.ref f] ++ [])) _ _ _
      have oky : RtOk ys := ⟨by omega, y8, noky⟩
      refine ⟨x, r, f, ys, butAt ls d, rfl, ⟨dx, upd_same⟩, made_same nx nd _ _ hr9, name_big oky, by omega, pwy, hf9.same (made_same nx nd), fun h H7 b7 n7 => ⟨rfl, ?_⟩, fun h => absurd ⟨oky, by omega⟩ h⟩
      have s7 := made_but nx nd b7
      exact k' _ _ ⟨x, rfl, ⟨n7, s7 _ _ hr9, oky, pwy, hf9.same s7, by omega⟩, hl9.same s7, g9.trans (Go.same s7), a9.same s7⟩
    rintro _ H10 ⟨nn, rfl, w10, hl10, g10, a10⟩
    obtain ⟨_, a0, b0, x0, y0, e0, ha0, hb0, ab0, _⟩ := hl10.el q0 (List.mem_of_getElem? hq0)
    have e02 : q0.2.take 2 = pairK a0 b0 := by rw [e0]; rfl
    have wo0 : woL a0 b0 (butAt ls d) = butAt ls d := wo_all fun q hq => by rw [← e02]; exact but_pair hl10.nd hq0 q hq
    have left : ∀ {H' : Hp}, Lks H' ys l ls → H' q0.1 = some (.tup [.str a0, .str b0, .int x0, .int y0]) := fun {H'} h => by
      have z := (h.el q0 (List.mem_of_getElem? hq0)).1
      rw [e0] at z
      exact z
    refine ifNo (fun H' => NetW (ca 18) H' nn r f ys (butAt ls d) ∧ Lks H' ys l ls ∧ Go p H H' ∧ At p P1 P2 122 H') (fun Q k' => ?_) ?_
    · obtain ⟨dx, hn⟩ := w10.net
      have sh := w10.lk.shaped noky
      refine ⟨_, rfl, nn, dx, _, rfl, hn, nn, dx, _, .ref f, rfl, hn, rfl, _, rfl, _, _, w10.lk.dp, w10.lk.dp, sh, sh, _, rfl, ?_⟩
      rw [shaped_refl sh]
      refine ⟨a10.tb, fun H11 e11 t11 => ?_⟩
      have w11 := w10.go a10.po (Go.ext e11)
      have hl11 := hl10.extn e11
      obtain ⟨dx2, hn2⟩ := w11.net
      refine ⟨_, rfl, nn, dx2, _, rfl, hn2, rfl, _, rfl, .inr (.inl ⟨q0.1, _, 0, .str a0, rfl, rfl, SqT.of (left hl11), rfl, ?_⟩)⟩
      refine ⟨_, rfl, .inr (.inl ⟨q0.1, _, 1, .str b0, rfl, rfl, SqT.of (left hl11), rfl, ?_⟩)⟩
      refine ⟨nn, r, f, ys, butAt ls d, a0, b0, 1, 1, rfl, w11, ha0, hb0, ab0, by decide, by decide, fun _ H12 s12 => ?_, fun h => absurd (by rw [wo0]; exact lf) h⟩
      refine ⟨true, T.exm T.c_TooMany, fun _ => ⟨_, rfl, fun a na => ?_⟩, fun z => nomatch z⟩
      have s13 := same_new (o := exv a (ca 6) none) na
      refine .inr ⟨a, _, .ref (ca 6), .ref (ca 6), _, rfl, .own _, .inl (.inr upd_same), T.c_TooMany.exc T.hn T.ht, T.c_TooMany.kit (cls_of T.c_TooMany.xL).1 (cls_of T.c_TooMany.xL).2.2, _, rfl, ?_⟩
      rw [decide_eq_true (.inl rfl)]
      have s := s12.trans s13
      exact k' _ ⟨w11.same s, hl11.same s, g10.trans ((Go.ext e11).trans (Go.same s)), (a10.ext e11 t11).same s⟩
    rintro H11 ⟨w11, hl11, g11, a11⟩
    refine nxt ?_
    -- another link of it
    refine seqA (fun v H' => ∃ (t : Addr) (q1 : Addr × List Key) (a1 b1 : Str), v = .ref t ∧ q1 ∈ butAt ls d ∧ q1.2.take 2 = pairK a1 b1 ∧ a1 ∈ ys ∧ b1 ∈ ys ∧ tLt a1 b1 ∧ H' t = some (.tup [.str a1, .str b1]) ∧ NetW (ca 18) H' nn r f ys (butAt ls d) ∧ Lks H' ys l ls ∧ Go p H H' ∧ At p P1 P2 123 H') (fun Q k' => ?_) ?_
    · have lfm : ((butAt ls d).map fun q => V.ref q.1).length = 16 := by rw [List.length_map, lf]
      refine ⟨_, rfl, _, rfl, p, .ref f, _, 122, rfl, a11.po, by decide, .inr (.inl ⟨f, rfl, SqT.of w11.lk.at_⟩), by omega, by omega, fun d2 v H12 hv b12 p12 => ?_⟩
      obtain ⟨q1, hq1, rfl⟩ := at_map hv
      have mq1 := List.mem_of_getElem? hq1
      have w12 := w11.go a11.po (Go.but b12)
      obtain ⟨eq1, a1, b1, x1, y1, e1, ha1, hb1, ab1, _⟩ := w12.lk.el q1 mq1
      rw [e1] at eq1
      refine ⟨_, rfl, slT eq1 fun t H13 s13 ht => ?_⟩
      exact k' _ _ ⟨t, q1, a1, b1, rfl, mq1, by rw [e1]; rfl, ha1, hb1, ab1, ht, w12.same s13, (hl11.go a11.po (Go.but b12)).same s13, g11.trans ((Go.but b12).trans (Go.same s13)), (a11.but b12 p12).same s13⟩
    rintro _ H12 ⟨t, q1, a1, b1, rfl, mq1, e1, ha1, hb1, ab1, ht, w12, hl12, g12, a12⟩
    refine ⟨t, _, rfl, SqT.of ht, rfl, _, _, rfl, _, _, rfl, rfl, ?_⟩
    have lw1 : (woL a1 b1 (butAt ls d)).length = 15 := by
      have z := wo_len w12.lk.nd mq1 e1
      omega
    refine seqS (fun v H' => ∃ (n2 l2 t2 : Addr) (ls2 : List (Addr × List Key)), v = .ref n2 ∧ NetW (ca 18) H' n2 r l2 ys ls2 ∧ ls2.Perm ((t2, linkK a1 b1 999999999 1) :: woL a1 b1 (butAt ls d)) ∧ NetW (ca 18) H' nn r f ys (butAt ls d) ∧ Lks H' ys l ls ∧ Go p H H' ∧ At p P1 P2 123 H') (fun Q k' => ?_) ?_
    · obtain ⟨dx, hn⟩ := w12.net
      refine ⟨_, rfl, nn, dx, _, rfl, hn, rfl, _, rfl, _, rfl, nn, r, f, ys, butAt ls d, a1, b1, 999999999, 1, rfl, w12, ha1, hb1, ab1, by decide, by decide, fun h => absurd h (by omega), fun _ n2 l2 t2 ls2 H13 s13 w13 pm => ?_⟩
      exact k' _ _ ⟨n2, l2, t2, ls2, rfl, w13, pm, w12.same s13, hl12.same s13, g12.trans (Go.same s13), a12.same s13⟩
    rintro _ H13 ⟨n2, l2, t2, ls2, rfl, w2, pm, w13, hl13, g13, a13⟩
    have l16 : ls2.length = 16 := by
      rw [pm.length_eq, List.length_cons, lw1]
    have hmem : (t2, linkK a1 b1 999999999 1) ∈ ls2 := pm.mem_iff.mpr List.mem_cons_self
    refine ifNo (fun H' => NetW (ca 18) H' nn r f ys (butAt ls d) ∧ Lks H' ys l ls ∧ Go p H H' ∧ At p P1 P2 123 H') (fun Q k' => ?_) ?_
    · obtain ⟨dx, hn⟩ := w2.net
      refine ⟨_, rfl, n2, dx, _, rfl, hn, n2, dx, _, .ref l2, rfl, hn, rfl, _, _, rfl, .inr ⟨_, SqT.of w2.lk.at_, rfl⟩, rfl, _, rfl, ite2 (fun c => ?_) fun _ => ?_⟩
      · rw [List.length_map, l16] at c
        exact absurd c (by decide)
      refine ⟨_, rfl, n2, dx, _, rfl, hn, rfl, _, rfl, _, rfl, n2, r, l2, ys, ls2, a1, b1, a1, b1, 999999999, 1, _, rfl, w2, hmem, rfl, .inl ⟨rfl, rfl, fun H14 s14 => ?_⟩⟩
      have w3 := w2.same s14
      obtain ⟨dx3, hn3⟩ := w3.net
      refine ⟨_, rfl, n2, dx3, _, rfl, hn3, rfl, _, rfl, _, rfl, n2, r, l2, ys, ls2, b1, a1, a1, b1, 999999999, 1, _, rfl, w3, hmem, rfl, .inr ⟨rfl, rfl, fun H15 s15 => ?_⟩⟩
      refine ⟨by show 2 ≤ sizeLine; decide, fun t3 n3 => ⟨by show 2 ≤ sizeLine; decide, fun t4 n4 => ?_⟩⟩
      have s16 := ((s14.trans s15).trans (same_new (o := .tup [.int 999999999, .int 1]) n3)).trans (same_new (o := .tup [.int 999999999, .int 1]) n4)
      refine ⟨.tuple [.int 999999999, .int 1], .tuple [.int 999999999, .int 1], .tup (SqT.of (same_new n4 _ _ upd_same)) (.cons (.int _) (.cons (.int _) .nil)), .tup (SqT.of upd_same) (.cons (.int _) (.cons (.int _) .nil)), by decide +kernel, by decide +kernel, _, rfl, ?_⟩
      rw [shaped_refl (d := .tuple [.int 999999999, .int 1]) (by decide +kernel)]
      exact k' _ ⟨w13.same s16, hl13.same s16, g13.trans (Go.same s16), a13.same s16⟩
    rintro H14 ⟨w14, hl14, g14, a14⟩
    refine nxt ?_
    refine ifNo (fun H' => Go p H H' ∧ At p P1 P2 123 H') (fun Q k' => ?_) ?_
    · obtain ⟨dx, hn⟩ := w14.net
      refine ⟨_, rfl, nn, dx, _, rfl, hn, rfl, _, rfl, _, rfl, nn, r, f, ys, butAt ls d, a1, b1, rfl, w14, (noky a1 ha1).2.2, (noky b1 hb1).2.2, ⟨q1, mq1, e1⟩, fun n3 l3 H15 s15 w15 => ?_⟩
      have hl15 := hl14.same s15
      obtain ⟨dx3, hn3⟩ := w15.net
      have lw2 : (woL a0 b0 (woL a1 b1 (butAt ls d))).length = 15 := by
        rw [wo_all fun q hq => ?_, lw1]
        rw [← e02]
        exact but_pair hl10.nd hq0 q (List.mem_filter.mp hq).1
      refine ⟨n3, dx3, _, rfl, hn3, rfl, ?_⟩
      refine ⟨_, rfl, .inr (.inl ⟨q0.1, _, 0, .str a0, rfl, rfl, SqT.of (left hl15), rfl, ?_⟩)⟩
      refine ⟨_, rfl, .inr (.inl ⟨q0.1, _, 1, .str b0, rfl, rfl, SqT.of (left hl15), rfl, ?_⟩)⟩
      refine ⟨n3, r, l3, ys, _, a0, b0, 1, 1, rfl, w15, ha0, hb0, ab0, by decide, by decide, fun h => absurd h (by omega), fun _ n4 l4 t4 ls4 H16 s16 w16 pm4 => ?_⟩
      have l4 : ls4.length = 16 := by rw [pm4.length_eq, List.length_cons, lw2]
      obtain ⟨dx4, hn4⟩ := w16.net
      refine ⟨n4, dx4, _, rfl, hn4, n4, dx4, _, .ref _, rfl, hn4, rfl, _, _, rfl, .inr ⟨_, SqT.of w16.lk.at_, rfl⟩, rfl, _, rfl, ?_⟩
      rw [List.length_map, l4]
      have s := s15.trans s16
      exact k' _ ⟨g14.trans (Go.same s), a14.same s⟩
    rintro H15 ⟨g15, a15⟩
    refine nxt ?_
    refine seqS (fun v H' => ∃ t, v = .ref t ∧ H' t = some (.tup [.str "abcdefgh", .str "abcdefghi"]) ∧ Go p H H' ∧ At p P1 P2 123 H') (fun Q k' => ⟨by show 2 ≤ sizeLine; decide, fun t nt => k' _ _ ⟨t, rfl, upd_same, g15.trans (Go.same (same_new nt)), a15.same (same_new nt)⟩⟩) ?_
    rintro _ H16 ⟨t, rfl, ht16, g16, a16⟩
    refine ⟨_, rfl, by show 0 ≤ sizeLine; decide, fun e1 ne1 => ?_⟩
    unfold tNil
    show spRefused P1 P2 ([V.ref t, V.ref e1] ++ []) _ _ _
    refine refu0 (zs := ["abcdefgh", "abcdefghi"]) a16 ht16 (by decide +kernel) (by decide) (by decide +kernel) (fun q => absurd (q.2.2 "abcdefghi" (by simp)).2.1 (by decide +kernel)) ne1 fun H17 g17 a17 => ?_
    refine ⟨_, rfl, ?_⟩
    rw [if_pos rfl]
    refine ⟨by show 2 ≤ sizeLine; decide, fun t3 n3 => ⟨by show 0 ≤ sizeLine; decide, fun e2 ne2 => ?_⟩⟩
    have s3 := same_new (o := .tup [.str "abcdefgh", .str "z"]) n3
    have s4 := same_new (o := .tup []) ne2
    have ht3 : upd (upd H17 t3 (.tup [.str "abcdefgh", .str "z"])) e2 (.tup []) t3 = some (.tup ((["abcdefgh", "z"] : List Str).map V.str)) := s4 _ _ upd_same
    have ok2 : RtOk ["abcdefgh", "z"] := by decide +kernel
    intro x dx nx nd ne
    show spInit _ _ (V.ref x :: ([V.ref t3, V.ref e2] ++ [])) _ _ _
    refine ⟨x, t3, e2, ["abcdefgh", "z"], [], rfl, ⟨dx, upd_same⟩, made_same nx nd _ _ ht3, name_big ok2, by decide, by decide +kernel, Lks.nil (made_same nx nd _ _ upd_same), fun h H18 b18 n18 => ⟨rfl, ?_⟩, fun h => absurd ⟨ok2, Nat.zero_le _⟩ h⟩
    have s18 := made_but nx nd b18
    obtain ⟨dx8, hn8⟩ := n18
    refine ⟨x, dx8, _, rfl, hn8, x, dx8, _, .ref t3, rfl, hn8, rfl, ?_⟩
    refine ⟨by show 2 ≤ sizeLine; decide, fun t5 n5 => ?_⟩
    have s5 := same_new (o := .tup [.str "abcdefgh", .str "z"]) n5
    have sh := strs_shaped (zs := ["abcdefgh", "z"]) fun z hz => (ok2.2.2 z hz).2.2
    refine ⟨_, _, .tup (SqT.of (s5 _ _ (s18 _ _ ht3))) (strs_dp _), .tup (SqT.of upd_same) (strs_dp ["abcdefgh", "z"]), sh, sh, ?_⟩
    rw [shaped_refl sh]
    have s := ((s3.trans s4).trans s18).trans s5
    exact k 123 _ (g16.trans (g17.trans (Go.same s))) (a17.same s)
end
end Toy
set_option Elab.async false
set_option linter.all false
set_option maxRecDepth 100000
set_option maxHeartbeats 8000000
namespace Toy
open PySem L2 Q RZ LamX
def spLaw (P1 P2 : Addr) (K : PySem.W.Frag) : Sp := fun vs H Q _ => ∃ (a : Addr) (ns : List Int), vs = [.ref a] ∧ SqL K H a (ns.map V.int) ∧ ns.length ≤ 63 ∧ Tabs (TL P1 P2) H ∧ ∀ H', Q (.bl true) H'
section
variable {P : Program} {w : World} {K : PySem.W.Frag} {mg : Str → Option Value} {base : Heap} {ca ia fa : Nat → Addr} {fd fi : Nat → FuncData} {c1 P1 c2 P2 : Addr}
theorem ok_law (T : Txt K mg ca ia fa fd fi) (FC1 : FunC K "_law_is_refused" s_l_is_refused (fa 34) (fd 34) c1) (FC : FunC K "_law_fine" s_l_fine (fa 36) (fd 36) c2) (B : Tb base mg c1 P1 c2 P2) :
    FnG P w K mg base CX0 12 (fa 37) (fd 37) ["_law_script"] (spLaw P1 P2 K) := by
  have G_l_pots := ok_pots (P := P) (w := w) (base := base) T
  have G_l_fine := ok_fine (P := P) (w := w) (base := base) T FC1 FC B
  refine okG T.F_law sc_law (fun vs H Q E h => ?_) (fun cdv A outer s H vs Q E hgd hr h => ?_)
  · obtain ⟨a, ns, rfl, _⟩ := h
    rfl
  · obtain ⟨a, ns, rfl, hs, hl, hT, k⟩ := h
    refine ⟨_, (pss_one (ps_ret (pe_callB (cr_all rfl) (by rfl) T.n_all (by decide +kernel) (pa_cons (pe_lc (own := [("_law_pot_here", 1)]) (g := (gName 1)) (tt := tYes) rfl sc_law.nd (pi_list (pe_call G_l_pots (hr.mono (by decide)) rfl T.g_l_pots T.k_l_pots T.b_l_pots .nil pass0 (pa_cons (pv 0) (pa_cons pe_int pa_nil)))) (blkOk_by (own := [("_law_pot_here", 1)]) (N := N_law) (sc := defScope s_law) (by decide +kernel)) (fun _ _ _ _ _ => (pg_name (i := 1) sc_law.nd rfl (Or.inl rfl))) (fun _ _ _ _ _ => pts_nil) (fun _ _ _ _ _ => by exact (pe_callG G_l_fine hgd (hr.mono (by decide)) rfl T.g_l_fine T.k_l_fine T.b_l_fine .nil pass0 (pa_cons (pv 1) pa_nil)))) pa_nil)))), ?_⟩
    refine ⟨_, rfl, a, ns, 3, rfl, hs, by decide, hl, fun L ps H1 s1 hL few nd nL hp => ?_⟩
    have ll : (ps.map V.ref).length = ps.length := List.length_map ..
    refine ⟨L, rfl, ⟨_, SqL.of hL⟩, fun D hD => ?_⟩
    have potD : ∀ {p : Addr}, p ∈ ps → p ≠ D := fun {p} m z => by
      obtain ⟨_, _, _, e, _⟩ := hp p m
      rw [z, hD] at e
      cases e
    have LD : L ≠ D := fun z => by rw [z, hD] at hL; cases hL
    have Lp : ∀ {p : Addr}, p ∈ ps → L ≠ p := fun {p} m z => nL (z ▸ m)
    refine lc_it (walk_list (xs := ps.map V.ref)) (fun i H' => H' D = some (.lst (List.replicate i (V.bl true))) ∧ H' L = some (.lst (ps.map V.ref)) ∧ (∀ (j : Nat) (p : Addr), i ≤ j → ps[j]? = some p → Pot H' p 0) ∧ Tabs (TL P1 P2) H')
      ⟨upd_same, by rw [upd_ne LD]; exact hL, fun j p _ hj => (hp p (List.mem_of_getElem? hj)).same (same_new hD), (hT.ext s1).ext (same_new hD)⟩ (fun i H' _ z => SqL.of z.2.1) ?_ ?_
    · rintro i x H2 H3 hi ⟨h2, hL2, hp2, t2⟩ ⟨rfl, hx⟩
      obtain ⟨p, hpi, rfl⟩ := at_map hx
      have mp := List.mem_of_getElem? hpi
      refine ⟨rfl, ?_⟩
      dsimp only [tYes]
      rw [if_pos rfl]
      refine ⟨_, rfl, p, rfl, ⟨hp2 i p (Nat.le_refl _) hpi, t2⟩, fun B' H4 g4 a4 => ?_⟩
      have keep : ∀ {b : Addr} {xs : List V}, b ≠ p → H3 b = some (.lst xs) → H4 b = some (.lst xs) := fun {b xs} n e => g4 _ _ n e fun ps z => by cases z
      have h4 := keep (potD mp).symm h2
      refine ⟨_, h4, ?_, ?_, ?_, fun j q hj hq => ?_, ?_⟩
      · rw [List.length_replicate, sizeLine_eq]
        rw [ll] at hi
        omega
      · rw [upd_same, rep_succ]
      · rw [upd_ne LD]
        exact keep (Lp mp) hL2
      · have mq := List.mem_of_getElem? hq
        have ne : q ≠ p := fun z => by
          subst z
          obtain ⟨x1, y1⟩ := List.getElem?_eq_some_iff.mp hpi
          obtain ⟨x2, y2⟩ := List.getElem?_eq_some_iff.mp hq
          exact List.pairwise_iff_getElem.mp nd i j x1 x2 (by omega) (by rw [y1, y2])
        obtain ⟨o, sd, c, e, r⟩ := hp2 j q (by omega) hq
        exact ⟨o, sd, c, by rw [upd_ne (potD mq)]; exact keep ne e, r⟩
      · have tD : Tabs (TL P1 P2) (upd H4 D (.lst (List.replicate i (V.bl true) ++ [V.bl true]))) := fun z hz => by
          obtain ⟨qs, z1, z2, z3⟩ := a4.tb z hz
          refine ⟨qs, by rw [upd_ne (fun y => by rw [y, h4] at z1; cases z1)]; exact z1, z2, fun pos cv hc => ?_⟩
          obtain ⟨c', e1, e2⟩ := z3 pos cv hc
          refine ⟨c', e1, ?_⟩
          rw [upd_ne]
          · exact e2
          · intro y
            rw [y, h4] at e2
            unfold CodeO at e2
            cases e2
        exact tD
    · rintro H2 ⟨h2, _⟩
      refine ⟨D, List.replicate _ true, rfl, SqL.of (by rw [List.map_replicate]; exact h2), ?_⟩
      rw [all_rep]
      exact k H2
end
end Toy
set_option Elab.async false
set_option linter.all false
set_option maxRecDepth 100000
set_option maxHeartbeats 8000000
namespace Toy
open PySem L2 Q RZ LamX
theorem all_mk {P : Program} {w : World} {K : PySem.W.Frag} {h : Heap} {mg : Str → Option Value} {fl : Addr} (X : K.In h) (G : h.Ns mainGlobals mg) (hfl : mg "law" = some (.ref fl))
    {f10 : Addr} {od10 an10 : Option Addr} {sl10 : Array (Option Value)} {oc10 kV10 dc10 pm10 ct10 : Value} {cd10 : Value}
    {f11 : Addr} {od11 an11 : Option Addr} {sl11 : Array (Option Value)} {oc11 kV11 dc11 pm11 ct11 : Value} {cd11 : Value}
    {f12 : Addr} {od12 an12 : Option Addr} {sl12 : Array (Option Value)} {oc12 kV12 dc12 pm12 ct12 : Value} {cd12 : Value}
    {f13 : Addr} {od13 an13 : Option Addr} {sl13 : Array (Option Value)} {oc13 kV13 dc13 pm13 ct13 : Value} {cd13 : Value}
    {f19 : Addr} {od19 an19 : Option Addr} {sl19 : Array (Option Value)} {oc19 kV19 dc19 pm19 ct19 : Value} {cd19 : Value}
    {f20 : Addr} {od20 an20 : Option Addr} {sl20 : Array (Option Value)} {oc20 kV20 dc20 pm20 ct20 : Value} {cd20 : Value}
    {f21 : Addr} {od21 an21 : Option Addr} {sl21 : Array (Option Value)} {oc21 kV21 dc21 pm21 ct21 : Value} {cd21 : Value}
    {f22 : Addr} {od22 an22 : Option Addr} {sl22 : Array (Option Value)} {oc22 kV22 dc22 pm22 ct22 : Value} {cd22 : Value}
    {f23 : Addr} {od23 an23 : Option Addr} {sl23 : Array (Option Value)} {oc23 kV23 dc23 pm23 ct23 : Value} {cd23 : Value}
    {f24 : Addr} {od24 an24 : Option Addr} {sl24 : Array (Option Value)} {oc24 kV24 dc24 pm24 ct24 : Value} {cd24 : Value}
    {f26 : Addr} {od26 an26 : Option Addr} {sl26 : Array (Option Value)} {oc26 kV26 dc26 pm26 ct26 : Value} {cd26 : Value}
    {f27 : Addr} {od27 an27 : Option Addr} {sl27 : Array (Option Value)} {oc27 kV27 dc27 pm27 ct27 : Value} {cd27 : Value}
    {f28 : Addr} {od28 an28 : Option Addr} {sl28 : Array (Option Value)} {oc28 kV28 dc28 pm28 ct28 : Value} {cd28 : Value}
    {f29 : Addr} {od29 an29 : Option Addr} {sl29 : Array (Option Value)} {oc29 kV29 dc29 pm29 ct29 : Value} {cd29 : Value}
    {f30 : Addr} {od30 an30 : Option Addr} {sl30 : Array (Option Value)} {oc30 kV30 dc30 pm30 ct30 : Value} {cd30 : Value}
    {f31 : Addr} {od31 an31 : Option Addr} {sl31 : Array (Option Value)} {oc31 kV31 dc31 pm31 ct31 : Value} {cd31 : Value}
    {f32 : Addr} {od32 an32 : Option Addr} {sl32 : Array (Option Value)} {oc32 kV32 dc32 pm32 ct32 : Value} {cd32 : Value}
    {f33 : Addr} {od33 an33 : Option Addr} {sl33 : Array (Option Value)} {oc33 kV33 dc33 pm33 ct33 : Value} {cd33 : Value}
    {f34 : Addr} {od34 an34 : Option Addr} {sl34 : Array (Option Value)} {oc34 kV34 dc34 pm34 ct34 : Value} {cc34 T34 : Addr} {ec34 : Value} {ed34 : Option Addr} {ev34 : Array Value} {es34 : Array (Option Value)}
    {f35 : Addr} {od35 an35 : Option Addr} {sl35 : Array (Option Value)} {oc35 kV35 dc35 pm35 ct35 : Value} {cd35 : Value}
    {f36 : Addr} {od36 an36 : Option Addr} {sl36 : Array (Option Value)} {oc36 kV36 dc36 pm36 ct36 : Value} {cc36 T36 : Addr} {ec36 : Value} {ed36 : Option Addr} {ev36 : Array Value} {es36 : Array (Option Value)}
    {f37 : Addr} {od37 an37 : Option Addr} {sl37 : Array (Option Value)} {oc37 kV37 dc37 pm37 ct37 : Value} {cd37 : Value}
    {C1 N1 : Addr} {nm1 q1 : Str} {bs1 sub1 : List Value} {sn1 : List Str} {ab1 : Bool} {col1 : Option Bool} {dd1 : Option Addr} {m01 m11 m21 m31 m51 : Option Value}
    {C2 N2 : Addr} {nm2 q2 : Str} {bs2 sub2 : List Value} {sn2 : List Str} {ab2 : Bool} {col2 : Option Bool} {dd2 : Option Addr} {m02 m12 m22 m32 m52 : Option Value}
    {g2 : Addr} {god2 gan2 : Option Addr} {gsl2 : Array (Option Value)} {goc2 gkV2 gdc2 gpm2 gcd2 gct2 : Value}
    {C3 N3 : Addr} {nm3 q3 : Str} {bs3 sub3 : List Value} {sn3 : List Str} {ab3 : Bool} {col3 : Option Bool} {dd3 : Option Addr} {m03 m13 m23 m33 m53 : Option Value}
    {g3 : Addr} {god3 gan3 : Option Addr} {gsl3 : Array (Option Value)} {goc3 gkV3 gdc3 gpm3 gcd3 gct3 : Value}
    {C4 N4 : Addr} {nm4 q4 : Str} {bs4 sub4 : List Value} {sn4 : List Str} {ab4 : Bool} {col4 : Option Bool} {dd4 : Option Addr} {m04 m14 m24 m34 m54 : Option Value}
    {g4 : Addr} {god4 gan4 : Option Addr} {gsl4 : Array (Option Value)} {goc4 gkV4 gdc4 gpm4 gcd4 gct4 : Value}
    {C5 N5 : Addr} {nm5 q5 : Str} {bs5 sub5 : List Value} {sn5 : List Str} {ab5 : Bool} {col5 : Option Bool} {dd5 : Option Addr} {m05 m15 m25 m35 m55 : Option Value}
    {g5 : Addr} {god5 gan5 : Option Addr} {gsl5 : Array (Option Value)} {goc5 gkV5 gdc5 gpm5 gcd5 gct5 : Value}
    {C6 N6 : Addr} {nm6 q6 : Str} {bs6 sub6 : List Value} {sn6 : List Str} {ab6 : Bool} {col6 : Option Bool} {dd6 : Option Addr} {m06 m16 m26 m36 m56 : Option Value}
    {C7 N7 : Addr} {nm7 q7 : Str} {bs7 sub7 : List Value} {sn7 : List Str} {ab7 : Bool} {col7 : Option Bool} {dd7 : Option Addr} {m07 m17 m27 m37 m57 : Option Value}
    {g7 : Addr} {god7 gan7 : Option Addr} {gsl7 : Array (Option Value)} {goc7 gkV7 gdc7 gpm7 gcd7 gct7 : Value}
    {CN : Addr}
    {f100 : Addr} {od100 an100 : Option Addr} {sl100 : Array (Option Value)} {oc100 kV100 dc100 pm100 ct100 cd100 : Value}
    {f101 : Addr} {od101 an101 : Option Addr} {sl101 : Array (Option Value)} {oc101 kV101 dc101 pm101 ct101 cd101 : Value}
    {pp101 : Addr} {pr101 : List Value}
    {f102 : Addr} {od102 an102 : Option Addr} {sl102 : Array (Option Value)} {oc102 kV102 dc102 pm102 ct102 cd102 : Value}
    {pp102 : Addr} {pr102 : List Value}
    {f103 : Addr} {od103 an103 : Option Addr} {sl103 : Array (Option Value)} {oc103 kV103 dc103 pm103 ct103 cd103 : Value}
    {f104 : Addr} {od104 an104 : Option Addr} {sl104 : Array (Option Value)} {oc104 kV104 dc104 pm104 ct104 cd104 : Value}
    {f105 : Addr} {od105 an105 : Option Addr} {sl105 : Array (Option Value)} {oc105 kV105 dc105 pm105 ct105 cd105 : Value}
    {f106 : Addr} {od106 an106 : Option Addr} {sl106 : Array (Option Value)} {oc106 kV106 dc106 pm106 ct106 cd106 : Value}
    {f107 : Addr} {od107 an107 : Option Addr} {sl107 : Array (Option Value)} {oc107 kV107 dc107 pm107 ct107 cd107 : Value}
    {tLONGEST_NAME : Tok}
    {tFEWEST_ROUTERS : Tok}
    {tMOST_ROUTERS : Tok}
    {tMOST_LINKS : Tok}
    (a10 : PySem.W.nsIn K mainGlobals "is_integer" = some (some (.ref f10)))
    (l10 : K.lookup f10 = some ⟨oc10, od10, .func (PySem.W.fnOf "is_integer" "is_integer" (defArgs s_is_integer) (defBody s_is_integer) (defScope s_is_integer) .none kV10 dc10 pm10 an10 cd10 ct10), sl10⟩)
    (c10 : PySem.W.codeIn K cd10 "is_integer" = true)
    (k10 : PySem.W.keepIn K (.ref f10) = true)
    (a11 : PySem.W.nsIn K mainGlobals "is_integer_from" = some (some (.ref f11)))
    (l11 : K.lookup f11 = some ⟨oc11, od11, .func (PySem.W.fnOf "is_integer_from" "is_integer_from" (defArgs s_is_integer_from) (defBody s_is_integer_from) (defScope s_is_integer_from) .none kV11 dc11 pm11 an11 cd11 ct11), sl11⟩)
    (c11 : PySem.W.codeIn K cd11 "is_integer_from" = true)
    (k11 : PySem.W.keepIn K (.ref f11) = true)
    (a12 : PySem.W.nsIn K mainGlobals "is_name" = some (some (.ref f12)))
    (l12 : K.lookup f12 = some ⟨oc12, od12, .func (PySem.W.fnOf "is_name" "is_name" (defArgs s_is_name) (defBody s_is_name) (defScope s_is_name) .none kV12 dc12 pm12 an12 cd12 ct12), sl12⟩)
    (c12 : PySem.W.codeIn K cd12 "is_name" = true)
    (k12 : PySem.W.keepIn K (.ref f12) = true)
    (a13 : PySem.W.nsIn K mainGlobals "is_rising" = some (some (.ref f13)))
    (l13 : K.lookup f13 = some ⟨oc13, od13, .func (PySem.W.fnOf "is_rising" "is_rising" (defArgs s_is_rising) (defBody s_is_rising) (defScope s_is_rising) .none kV13 dc13 pm13 an13 cd13 ct13), sl13⟩)
    (c13 : PySem.W.codeIn K cd13 "is_rising" = true)
    (k13 : PySem.W.keepIn K (.ref f13) = true)
    (a19 : PySem.W.nsIn K mainGlobals "need_routers" = some (some (.ref f19)))
    (l19 : K.lookup f19 = some ⟨oc19, od19, .func (PySem.W.fnOf "need_routers" "need_routers" (defArgs s_need_routers) (defBody s_need_routers) (defScope s_need_routers) .none kV19 dc19 pm19 an19 cd19 ct19), sl19⟩)
    (c19 : PySem.W.codeIn K cd19 "need_routers" = true)
    (k19 : PySem.W.keepIn K (.ref f19) = true)
    (a20 : PySem.W.nsIn K mainGlobals "need_router" = some (some (.ref f20)))
    (l20 : K.lookup f20 = some ⟨oc20, od20, .func (PySem.W.fnOf "need_router" "need_router" (defArgs s_need_router) (defBody s_need_router) (defScope s_need_router) .none kV20 dc20 pm20 an20 cd20 ct20), sl20⟩)
    (c20 : PySem.W.codeIn K cd20 "need_router" = true)
    (k20 : PySem.W.keepIn K (.ref f20) = true)
    (a21 : PySem.W.nsIn K mainGlobals "is_length" = some (some (.ref f21)))
    (l21 : K.lookup f21 = some ⟨oc21, od21, .func (PySem.W.fnOf "is_length" "is_length" (defArgs s_is_length) (defBody s_is_length) (defScope s_is_length) .none kV21 dc21 pm21 an21 cd21 ct21), sl21⟩)
    (c21 : PySem.W.codeIn K cd21 "is_length" = true)
    (k21 : PySem.W.keepIn K (.ref f21) = true)
    (a22 : PySem.W.nsIn K mainGlobals "are_routers" = some (some (.ref f22)))
    (l22 : K.lookup f22 = some ⟨oc22, od22, .func (PySem.W.fnOf "are_routers" "are_routers" (defArgs s_are_routers) (defBody s_are_routers) (defScope s_are_routers) .none kV22 dc22 pm22 an22 cd22 ct22), sl22⟩)
    (c22 : PySem.W.codeIn K cd22 "are_routers" = true)
    (k22 : PySem.W.keepIn K (.ref f22) = true)
    (a23 : PySem.W.nsIn K mainGlobals "are_links" = some (some (.ref f23)))
    (l23 : K.lookup f23 = some ⟨oc23, od23, .func (PySem.W.fnOf "are_links" "are_links" (defArgs s_are_links) (defBody s_are_links) (defScope s_are_links) .none kV23 dc23 pm23 an23 cd23 ct23), sl23⟩)
    (c23 : PySem.W.codeIn K cd23 "are_links" = true)
    (k23 : PySem.W.keepIn K (.ref f23) = true)
    (a24 : PySem.W.nsIn K mainGlobals "is_link" = some (some (.ref f24)))
    (l24 : K.lookup f24 = some ⟨oc24, od24, .func (PySem.W.fnOf "is_link" "is_link" (defArgs s_is_link) (defBody s_is_link) (defScope s_is_link) .none kV24 dc24 pm24 an24 cd24 ct24), sl24⟩)
    (c24 : PySem.W.codeIn K cd24 "is_link" = true)
    (k24 : PySem.W.keepIn K (.ref f24) = true)
    (a26 : PySem.W.nsIn K mainGlobals "_law_pot" = some (some (.ref f26)))
    (l26 : K.lookup f26 = some ⟨oc26, od26, .func (PySem.W.fnOf "_law_pot" "_law_pot" (defArgs s_l_pot) (defBody s_l_pot) (defScope s_l_pot) .none kV26 dc26 pm26 an26 cd26 ct26), sl26⟩)
    (c26 : PySem.W.codeIn K cd26 "_law_pot" = true)
    (k26 : PySem.W.keepIn K (.ref f26) = true)
    (a27 : PySem.W.nsIn K mainGlobals "_law_take" = some (some (.ref f27)))
    (l27 : K.lookup f27 = some ⟨oc27, od27, .func (PySem.W.fnOf "_law_take" "_law_take" (defArgs s_l_take) (defBody s_l_take) (defScope s_l_take) .none kV27 dc27 pm27 an27 cd27 ct27), sl27⟩)
    (c27 : PySem.W.codeIn K cd27 "_law_take" = true)
    (k27 : PySem.W.keepIn K (.ref f27) = true)
    (a28 : PySem.W.nsIn K mainGlobals "_law_pots" = some (some (.ref f28)))
    (l28 : K.lookup f28 = some ⟨oc28, od28, .func (PySem.W.fnOf "_law_pots" "_law_pots" (defArgs s_l_pots) (defBody s_l_pots) (defScope s_l_pots) .none kV28 dc28 pm28 an28 cd28 ct28), sl28⟩)
    (c28 : PySem.W.codeIn K cd28 "_law_pots" = true)
    (k28 : PySem.W.keepIn K (.ref f28) = true)
    (a29 : PySem.W.nsIn K mainGlobals "_law_of" = some (some (.ref f29)))
    (l29 : K.lookup f29 = some ⟨oc29, od29, .func (PySem.W.fnOf "_law_of" "_law_of" (defArgs s_l_of) (defBody s_l_of) (defScope s_l_of) .none kV29 dc29 pm29 an29 cd29 ct29), sl29⟩)
    (c29 : PySem.W.codeIn K cd29 "_law_of" = true)
    (k29 : PySem.W.keepIn K (.ref f29) = true)
    (a30 : PySem.W.nsIn K mainGlobals "_law_turned" = some (some (.ref f30)))
    (l30 : K.lookup f30 = some ⟨oc30, od30, .func (PySem.W.fnOf "_law_turned" "_law_turned" (defArgs s_l_turned) (defBody s_l_turned) (defScope s_l_turned) .none kV30 dc30 pm30 an30 cd30 ct30), sl30⟩)
    (c30 : PySem.W.codeIn K cd30 "_law_turned" = true)
    (k30 : PySem.W.keepIn K (.ref f30) = true)
    (a31 : PySem.W.nsIn K mainGlobals "_law_names" = some (some (.ref f31)))
    (l31 : K.lookup f31 = some ⟨oc31, od31, .func (PySem.W.fnOf "_law_names" "_law_names" (defArgs s_l_names) (defBody s_l_names) (defScope s_l_names) .none kV31 dc31 pm31 an31 cd31 ct31), sl31⟩)
    (c31 : PySem.W.codeIn K cd31 "_law_names" = true)
    (k31 : PySem.W.keepIn K (.ref f31) = true)
    (a32 : PySem.W.nsIn K mainGlobals "_law_far" = some (some (.ref f32)))
    (l32 : K.lookup f32 = some ⟨oc32, od32, .func (PySem.W.fnOf "_law_far" "_law_far" (defArgs s_l_far) (defBody s_l_far) (defScope s_l_far) .none kV32 dc32 pm32 an32 cd32 ct32), sl32⟩)
    (c32 : PySem.W.codeIn K cd32 "_law_far" = true)
    (k32 : PySem.W.keepIn K (.ref f32) = true)
    (a33 : PySem.W.nsIn K mainGlobals "_law_caught" = some (some (.ref f33)))
    (l33 : K.lookup f33 = some ⟨oc33, od33, .func (PySem.W.fnOf "_law_caught" "_law_caught" (defArgs s_l_caught) (defBody s_l_caught) (defScope s_l_caught) .none kV33 dc33 pm33 an33 cd33 ct33), sl33⟩)
    (c33 : PySem.W.codeIn K cd33 "_law_caught" = true)
    (k33 : PySem.W.keepIn K (.ref f33) = true)
    (a34 : PySem.W.nsIn K mainGlobals "_law_is_refused" = some (some (.ref f34)))
    (l34 : K.lookup f34 = some ⟨oc34, od34, .func (PySem.W.fnOf "_law_is_refused" "_law_is_refused" (defArgs s_l_is_refused) (defBody s_l_is_refused) (defScope s_l_is_refused) .none kV34 dc34 pm34 an34 (.ref cc34) ct34), sl34⟩)
    (c34 : PySem.W.codeIn K (.ref cc34) "_law_is_refused" = true)
    (k34 : PySem.W.keepIn K (.ref f34) = true)
    (kc34 : K.lookup cc34 = some ⟨ec34, ed34, .fields ev34, es34⟩)
    (ke34 : ev34[11]? = some (.ref T34))
    (ch34 : PySem.W.codeHdIn K cc34 T34 = true)
    (nt34 : K.lookup T34 = none)
    (a35 : PySem.W.nsIn K mainGlobals "_law_some_links" = some (some (.ref f35)))
    (l35 : K.lookup f35 = some ⟨oc35, od35, .func (PySem.W.fnOf "_law_some_links" "_law_some_links" (defArgs s_l_some_links) (defBody s_l_some_links) (defScope s_l_some_links) .none kV35 dc35 pm35 an35 cd35 ct35), sl35⟩)
    (c35 : PySem.W.codeIn K cd35 "_law_some_links" = true)
    (k35 : PySem.W.keepIn K (.ref f35) = true)
    (a36 : PySem.W.nsIn K mainGlobals "_law_fine" = some (some (.ref f36)))
    (l36 : K.lookup f36 = some ⟨oc36, od36, .func (PySem.W.fnOf "_law_fine" "_law_fine" (defArgs s_l_fine) (defBody s_l_fine) (defScope s_l_fine) .none kV36 dc36 pm36 an36 (.ref cc36) ct36), sl36⟩)
    (c36 : PySem.W.codeIn K (.ref cc36) "_law_fine" = true)
    (k36 : PySem.W.keepIn K (.ref f36) = true)
    (kc36 : K.lookup cc36 = some ⟨ec36, ed36, .fields ev36, es36⟩)
    (ke36 : ev36[11]? = some (.ref T36))
    (ch36 : PySem.W.codeHdIn K cc36 T36 = true)
    (nt36 : K.lookup T36 = none)
    (a37 : PySem.W.nsIn K mainGlobals "law" = some (some (.ref f37)))
    (l37 : K.lookup f37 = some ⟨oc37, od37, .func (PySem.W.fnOf "law" "law" (defArgs s_law) (defBody s_law) (defScope s_law) .none kV37 dc37 pm37 an37 cd37 ct37), sl37⟩)
    (c37 : PySem.W.codeIn K cd37 "law" = true)
    (k37 : PySem.W.keepIn K (.ref f37) = true)
    (aC1 : PySem.W.nsIn K mainGlobals "NetError" = some (some (.ref C1)))
    (xL1 : K.lookup C1 = some (excClassObj nm1 q1 C1 N1 bs1 [.type "ValueError", .type "Exception", .type "BaseException", .type "object"] true sn1 sub1 ab1 col1 dd1 m01 m11 m21 m31 m51 "ValueError.__new__"))
    (aC2 : PySem.W.nsIn K mainGlobals "BadNet" = some (some (.ref C2)))
    (xL2 : K.lookup C2 = some (excClassObj nm2 q2 C2 N2 bs2 [.ref C1, .type "ValueError", .type "Exception", .type "BaseException", .type "object"] true sn2 sub2 ab2 col2 dd2 m02 m12 m22 m32 m52 "ValueError.__new__"))
    (sa2 : PySem.W.findIn K (.ref C2) "__setattr__" = some (some (.builtin "object.__setattr__")))
    (ga2 : PySem.W.findIn K (.ref C2) "__getattribute__" = some (some (.builtin "BaseException.__getattribute__")))
    (gg2 : PySem.W.findIn K (.ref C2) "__getattr__" = some none)
    (hc2 : PySem.W.findIn K (.ref C2) "__class__" = some (some (.builtin "object.__class__")))
    (kC2 : PySem.W.keepIn K (.ref C2) = true)
    (ii2 : PySem.W.findIn K (.ref C2) "__init__" = some (some (.ref g2)))
    (gl2 : K.lookup g2 = some ⟨goc2, god2, .func (PySem.W.fnOf "__init__" "BadNet.__init__" (defArgs (inClass (topS 2) 0)) (defBody (inClass (topS 2) 0)) (defScope (inClass (topS 2) 0)) .none gkV2 gdc2 gpm2 gan2 gcd2 gct2), gsl2⟩)
    (gc2 : PySem.W.codeIn K gcd2 "BadNet.__init__" = true)
    (gk2 : PySem.W.keepIn K (.ref g2) = true)
    (gt2 : PySem.W.typeIn K (.ref g2) = some (.type "function"))
    (no2value : PySem.W.findIn K (.ref C2) "value" = some none)
    (aC3 : PySem.W.nsIn K mainGlobals "NoRouter" = some (some (.ref C3)))
    (xL3 : K.lookup C3 = some (excClassObj nm3 q3 C3 N3 bs3 [.ref C1, .type "ValueError", .type "Exception", .type "BaseException", .type "object"] true sn3 sub3 ab3 col3 dd3 m03 m13 m23 m33 m53 "ValueError.__new__"))
    (sa3 : PySem.W.findIn K (.ref C3) "__setattr__" = some (some (.builtin "object.__setattr__")))
    (ga3 : PySem.W.findIn K (.ref C3) "__getattribute__" = some (some (.builtin "BaseException.__getattribute__")))
    (gg3 : PySem.W.findIn K (.ref C3) "__getattr__" = some none)
    (hc3 : PySem.W.findIn K (.ref C3) "__class__" = some (some (.builtin "object.__class__")))
    (kC3 : PySem.W.keepIn K (.ref C3) = true)
    (ii3 : PySem.W.findIn K (.ref C3) "__init__" = some (some (.ref g3)))
    (gl3 : K.lookup g3 = some ⟨goc3, god3, .func (PySem.W.fnOf "__init__" "NoRouter.__init__" (defArgs (inClass (topS 3) 0)) (defBody (inClass (topS 3) 0)) (defScope (inClass (topS 3) 0)) .none gkV3 gdc3 gpm3 gan3 gcd3 gct3), gsl3⟩)
    (gc3 : PySem.W.codeIn K gcd3 "NoRouter.__init__" = true)
    (gk3 : PySem.W.keepIn K (.ref g3) = true)
    (gt3 : PySem.W.typeIn K (.ref g3) = some (.type "function"))
    (no3value : PySem.W.findIn K (.ref C3) "value" = some none)
    (aC4 : PySem.W.nsIn K mainGlobals "BadLink" = some (some (.ref C4)))
    (xL4 : K.lookup C4 = some (excClassObj nm4 q4 C4 N4 bs4 [.ref C1, .type "ValueError", .type "Exception", .type "BaseException", .type "object"] true sn4 sub4 ab4 col4 dd4 m04 m14 m24 m34 m54 "ValueError.__new__"))
    (sa4 : PySem.W.findIn K (.ref C4) "__setattr__" = some (some (.builtin "object.__setattr__")))
    (ga4 : PySem.W.findIn K (.ref C4) "__getattribute__" = some (some (.builtin "BaseException.__getattribute__")))
    (gg4 : PySem.W.findIn K (.ref C4) "__getattr__" = some none)
    (hc4 : PySem.W.findIn K (.ref C4) "__class__" = some (some (.builtin "object.__class__")))
    (kC4 : PySem.W.keepIn K (.ref C4) = true)
    (ii4 : PySem.W.findIn K (.ref C4) "__init__" = some (some (.ref g4)))
    (gl4 : K.lookup g4 = some ⟨goc4, god4, .func (PySem.W.fnOf "__init__" "BadLink.__init__" (defArgs (inClass (topS 4) 0)) (defBody (inClass (topS 4) 0)) (defScope (inClass (topS 4) 0)) .none gkV4 gdc4 gpm4 gan4 gcd4 gct4), gsl4⟩)
    (gc4 : PySem.W.codeIn K gcd4 "BadLink.__init__" = true)
    (gk4 : PySem.W.keepIn K (.ref g4) = true)
    (gt4 : PySem.W.typeIn K (.ref g4) = some (.type "function"))
    (no4value : PySem.W.findIn K (.ref C4) "value" = some none)
    (aC5 : PySem.W.nsIn K mainGlobals "BadLength" = some (some (.ref C5)))
    (xL5 : K.lookup C5 = some (excClassObj nm5 q5 C5 N5 bs5 [.ref C1, .type "ValueError", .type "Exception", .type "BaseException", .type "object"] true sn5 sub5 ab5 col5 dd5 m05 m15 m25 m35 m55 "ValueError.__new__"))
    (sa5 : PySem.W.findIn K (.ref C5) "__setattr__" = some (some (.builtin "object.__setattr__")))
    (ga5 : PySem.W.findIn K (.ref C5) "__getattribute__" = some (some (.builtin "BaseException.__getattribute__")))
    (gg5 : PySem.W.findIn K (.ref C5) "__getattr__" = some none)
    (hc5 : PySem.W.findIn K (.ref C5) "__class__" = some (some (.builtin "object.__class__")))
    (kC5 : PySem.W.keepIn K (.ref C5) = true)
    (ii5 : PySem.W.findIn K (.ref C5) "__init__" = some (some (.ref g5)))
    (gl5 : K.lookup g5 = some ⟨goc5, god5, .func (PySem.W.fnOf "__init__" "BadLength.__init__" (defArgs (inClass (topS 5) 0)) (defBody (inClass (topS 5) 0)) (defScope (inClass (topS 5) 0)) .none gkV5 gdc5 gpm5 gan5 gcd5 gct5), gsl5⟩)
    (gc5 : PySem.W.codeIn K gcd5 "BadLength.__init__" = true)
    (gk5 : PySem.W.keepIn K (.ref g5) = true)
    (gt5 : PySem.W.typeIn K (.ref g5) = some (.type "function"))
    (no5value : PySem.W.findIn K (.ref C5) "value" = some none)
    (aC6 : PySem.W.nsIn K mainGlobals "TooMany" = some (some (.ref C6)))
    (xL6 : K.lookup C6 = some (excClassObj nm6 q6 C6 N6 bs6 [.ref C1, .type "ValueError", .type "Exception", .type "BaseException", .type "object"] true sn6 sub6 ab6 col6 dd6 m06 m16 m26 m36 m56 "ValueError.__new__"))
    (sa6 : PySem.W.findIn K (.ref C6) "__setattr__" = some (some (.builtin "object.__setattr__")))
    (ga6 : PySem.W.findIn K (.ref C6) "__getattribute__" = some (some (.builtin "BaseException.__getattribute__")))
    (gg6 : PySem.W.findIn K (.ref C6) "__getattr__" = some none)
    (hc6 : PySem.W.findIn K (.ref C6) "__class__" = some (some (.builtin "object.__class__")))
    (kC6 : PySem.W.keepIn K (.ref C6) = true)
    (ex6 : PySem.W.excIn K C6 [.type "ValueError", .type "Exception", .type "BaseException", .type "object"] "ValueError.__new__" = true)
    (ey6 : PySem.W.typeIn K (.ref C6) = some (.type "type"))
    (aC7 : PySem.W.nsIn K mainGlobals "NoLink" = some (some (.ref C7)))
    (xL7 : K.lookup C7 = some (excClassObj nm7 q7 C7 N7 bs7 [.ref C1, .type "ValueError", .type "Exception", .type "BaseException", .type "object"] true sn7 sub7 ab7 col7 dd7 m07 m17 m27 m37 m57 "ValueError.__new__"))
    (sa7 : PySem.W.findIn K (.ref C7) "__setattr__" = some (some (.builtin "object.__setattr__")))
    (ga7 : PySem.W.findIn K (.ref C7) "__getattribute__" = some (some (.builtin "BaseException.__getattribute__")))
    (gg7 : PySem.W.findIn K (.ref C7) "__getattr__" = some none)
    (hc7 : PySem.W.findIn K (.ref C7) "__class__" = some (some (.builtin "object.__class__")))
    (kC7 : PySem.W.keepIn K (.ref C7) = true)
    (ii7 : PySem.W.findIn K (.ref C7) "__init__" = some (some (.ref g7)))
    (gl7 : K.lookup g7 = some ⟨goc7, god7, .func (PySem.W.fnOf "__init__" "NoLink.__init__" (defArgs (inClass (topS 7) 0)) (defBody (inClass (topS 7) 0)) (defScope (inClass (topS 7) 0)) .none gkV7 gdc7 gpm7 gan7 gcd7 gct7), gsl7⟩)
    (gc7 : PySem.W.codeIn K gcd7 "NoLink.__init__" = true)
    (gk7 : PySem.W.keepIn K (.ref g7) = true)
    (gt7 : PySem.W.typeIn K (.ref g7) = some (.type "function"))
    (no7value : PySem.W.findIn K (.ref C7) "value" = some none)
    (aN : PySem.W.nsIn K mainGlobals "Net" = some (some (.ref CN)))
    (pg : PySem.W.plainGet K CN Str.empty = true)
    (hd : PySem.W.hasDictIn K CN = true)
    (po : PySem.W.plainOver K CN = true)
    (sN : PySem.W.findIn K (.ref CN) "__setattr__" = some (some (.builtin "object.__setattr__")))
    (mk : PySem.W.makesIn K CN = true)
    (kN : PySem.W.keepIn K (.ref CN) = true)
    (nf_routers : PySem.W.findIn K (.ref CN) "_routers" = some none)
    (nf_links : PySem.W.findIn K (.ref CN) "_links" = some none)
    (a100 : PySem.W.findIn K (.ref CN) "__init__" = some (some (.ref f100)))
    (i100 : PySem.W.isFn K (.ref f100) = true)
    (l100 : K.lookup f100 = some ⟨oc100, od100, .func (PySem.W.fnOf "__init__" "Net.__init__" (defArgs s_m_init) (defBody s_m_init) (defScope s_m_init) .none kV100 dc100 pm100 an100 cd100 ct100), sl100⟩)
    (c100 : PySem.W.codeIn K cd100 "Net.__init__" = true)
    (k100 : PySem.W.keepIn K (.ref f100) = true)
    (pa101 : PySem.W.findIn K (.ref CN) "routers" = some (some (.ref pp101)))
    (pb101 : PySem.W.specialIn K (.ref pp101) "__get__" = some (some (.builtin "property.__get__")))
    (pc101 : PySem.W.takesIn K (.ref pp101) = some true)
    (pd101 : PySem.W.recIn K pp101 "property" = some (.ref f101 :: pr101))
    (l101 : K.lookup f101 = some ⟨oc101, od101, .func (PySem.W.fnOf "routers" "Net.routers" (defArgs s_m_routers) (defBody s_m_routers) (defScope s_m_routers) .none kV101 dc101 pm101 an101 cd101 ct101), sl101⟩)
    (c101 : PySem.W.codeIn K cd101 "Net.routers" = true)
    (k101 : PySem.W.keepIn K (.ref f101) = true)
    (pa102 : PySem.W.findIn K (.ref CN) "links" = some (some (.ref pp102)))
    (pb102 : PySem.W.specialIn K (.ref pp102) "__get__" = some (some (.builtin "property.__get__")))
    (pc102 : PySem.W.takesIn K (.ref pp102) = some true)
    (pd102 : PySem.W.recIn K pp102 "property" = some (.ref f102 :: pr102))
    (l102 : K.lookup f102 = some ⟨oc102, od102, .func (PySem.W.fnOf "links" "Net.links" (defArgs s_m_links) (defBody s_m_links) (defScope s_m_links) .none kV102 dc102 pm102 an102 cd102 ct102), sl102⟩)
    (c102 : PySem.W.codeIn K cd102 "Net.links" = true)
    (k102 : PySem.W.keepIn K (.ref f102) = true)
    (a103 : PySem.W.findIn K (.ref CN) "__eq__" = some (some (.ref f103)))
    (i103 : PySem.W.isFn K (.ref f103) = true)
    (l103 : K.lookup f103 = some ⟨oc103, od103, .func (PySem.W.fnOf "__eq__" "Net.__eq__" (defArgs s_m_u_eq_) (defBody s_m_u_eq_) (defScope s_m_u_eq_) .none kV103 dc103 pm103 an103 cd103 ct103), sl103⟩)
    (c103 : PySem.W.codeIn K cd103 "Net.__eq__" = true)
    (k103 : PySem.W.keepIn K (.ref f103) = true)
    (a104 : PySem.W.findIn K (.ref CN) "length" = some (some (.ref f104)))
    (i104 : PySem.W.isFn K (.ref f104) = true)
    (l104 : K.lookup f104 = some ⟨oc104, od104, .func (PySem.W.fnOf "length" "Net.length" (defArgs s_m_length) (defBody s_m_length) (defScope s_m_length) .none kV104 dc104 pm104 an104 cd104 ct104), sl104⟩)
    (c104 : PySem.W.codeIn K cd104 "Net.length" = true)
    (k104 : PySem.W.keepIn K (.ref f104) = true)
    (a105 : PySem.W.findIn K (.ref CN) "with_link" = some (some (.ref f105)))
    (i105 : PySem.W.isFn K (.ref f105) = true)
    (l105 : K.lookup f105 = some ⟨oc105, od105, .func (PySem.W.fnOf "with_link" "Net.with_link" (defArgs s_m_with_link) (defBody s_m_with_link) (defScope s_m_with_link) .none kV105 dc105 pm105 an105 cd105 ct105), sl105⟩)
    (c105 : PySem.W.codeIn K cd105 "Net.with_link" = true)
    (k105 : PySem.W.keepIn K (.ref f105) = true)
    (a106 : PySem.W.findIn K (.ref CN) "without" = some (some (.ref f106)))
    (i106 : PySem.W.isFn K (.ref f106) = true)
    (l106 : K.lookup f106 = some ⟨oc106, od106, .func (PySem.W.fnOf "without" "Net.without" (defArgs s_m_without) (defBody s_m_without) (defScope s_m_without) .none kV106 dc106 pm106 an106 cd106 ct106), sl106⟩)
    (c106 : PySem.W.codeIn K cd106 "Net.without" = true)
    (k106 : PySem.W.keepIn K (.ref f106) = true)
    (a107 : PySem.W.findIn K (.ref CN) "_links_without" = some (some (.ref f107)))
    (i107 : PySem.W.isFn K (.ref f107) = true)
    (l107 : K.lookup f107 = some ⟨oc107, od107, .func (PySem.W.fnOf "_links_without" "Net._links_without" (defArgs s_m_u_links_without) (defBody s_m_u_links_without) (defScope s_m_u_links_without) .none kV107 dc107 pm107 an107 cd107 ct107), sl107⟩)
    (c107 : PySem.W.codeIn K cd107 "Net._links_without" = true)
    (k107 : PySem.W.keepIn K (.ref f107) = true)
    (zabs : PySem.W.nsIn K mainGlobals "abs" = some none)
    (zall : PySem.W.nsIn K mainGlobals "all" = some none)
    (zbool : PySem.W.nsIn K mainGlobals "bool" = some none)
    (zenumerate : PySem.W.nsIn K mainGlobals "enumerate" = some none)
    (zint : PySem.W.nsIn K mainGlobals "int" = some none)
    (zisinstance : PySem.W.nsIn K mainGlobals "isinstance" = some none)
    (zlen : PySem.W.nsIn K mainGlobals "len" = some none)
    (zmax : PySem.W.nsIn K mainGlobals "max" = some none)
    (zmin : PySem.W.nsIn K mainGlobals "min" = some none)
    (zrange : PySem.W.nsIn K mainGlobals "range" = some none)
    (zrepr : PySem.W.nsIn K mainGlobals "repr" = some none)
    (zset : PySem.W.nsIn K mainGlobals "set" = some none)
    (zsorted : PySem.W.nsIn K mainGlobals "sorted" = some none)
    (zstr : PySem.W.nsIn K mainGlobals "str" = some none)
    (ztuple : PySem.W.nsIn K mainGlobals "tuple" = some none)
    (zzip : PySem.W.nsIn K mainGlobals "zip" = some none)
    (vLONGEST_NAME : PySem.W.nsIn K mainGlobals "LONGEST_NAME" = some (some (.int 8 tLONGEST_NAME)))
    (vFEWEST_ROUTERS : PySem.W.nsIn K mainGlobals "FEWEST_ROUTERS" = some (some (.int 2 tFEWEST_ROUTERS)))
    (vMOST_ROUTERS : PySem.W.nsIn K mainGlobals "MOST_ROUTERS" = some (some (.int 8 tMOST_ROUTERS)))
    (vMOST_LINKS : PySem.W.nsIn K mainGlobals "MOST_LINKS" = some (some (.int 16 tMOST_LINKS)))
    (hn : PySem.W.specialIn K (.builtin "object.__class__") "__get__" = some (some (.builtin "getset_descriptor.__get__")))
    (ht : PySem.W.takesIn K (.builtin "object.__class__") = some true)
    (ne : T34 ≠ T36) :
    ∃ (fd : FuncData) (c1 P1 c2 P2 : Addr), OneTab K mg "_law_is_refused" c1 P1 ∧ OneTab K mg "_law_fine" c2 P2 ∧ (∀ (s : Shared) (v : Value), BindsTo s fd ⟨[v], []⟩ [("_law_script", v)]) ∧
      ∀ base : Heap, K.In base → base.Ns mainGlobals mg → LamX.TabB base mg c1 P1 → LamX.TabB base mg c2 P2 → FnG P w K mg base CX0 12 fl fd ["_law_script"] (spLaw P1 P2 K) := by
  have e := hfl.symm.trans (PySem.W.mg_of X G a37)
  obtain rfl : f37 = fl := by
    injection e with e
    injection e with e
    exact e.symm
  let dF : FuncData := (PySem.W.fnOf "law" "law" (defArgs s_law) (defBody s_law) (defScope s_law) .none kV37 dc37 pm37 an37 cd37 ct37)
  have T : Txt K mg (fun i => ([0, C1, C2, C3, C4, C5, C6, C7, 0, 0, 0, 0, 0, 0, 0, 0, 0, 0, CN] : List Addr).getD i 0) (fun i => ([0, 0, g2, g3, g4, g5, 0, g7, 0, 0, 0, 0, 0, 0, 0, 0, 0, 0, 0, 0, 0, 0, 0, 0, 0, 0, 0, 0, 0, 0, 0, 0, 0, 0, 0, 0, 0, 0, 0, 0, 0, 0, 0, 0, 0, 0, 0, 0, 0, 0, 0, 0, 0, 0, 0, 0, 0, 0, 0, 0, 0, 0, 0, 0, 0, 0, 0, 0, 0, 0, 0, 0, 0, 0, 0, 0, 0, 0, 0, 0, 0, 0, 0, 0, 0, 0, 0, 0, 0, 0, 0, 0, 0, 0, 0, 0, 0, 0, 0, 0, f100, f101, f102, f103, f104, f105, f106, f107] : List Addr).getD i 0) (fun i => ([0, 0, 0, 0, 0, 0, 0, 0, 0, 0, f10, f11, f12, f13, 0, 0, 0, 0, 0, f19, f20, f21, f22, f23, f24, 0, f26, f27, f28, f29, f30, f31, f32, f33, f34, f35, f36, f37] : List Addr).getD i 0) (fun i => ([(PySem.W.fnOf "law" "law" (defArgs s_law) (defBody s_law) (defScope s_law) .none kV37 dc37 pm37 an37 cd37 ct37), (PySem.W.fnOf "law" "law" (defArgs s_law) (defBody s_law) (defScope s_law) .none kV37 dc37 pm37 an37 cd37 ct37), (PySem.W.fnOf "law" "law" (defArgs s_law) (defBody s_law) (defScope s_law) .none kV37 dc37 pm37 an37 cd37 ct37), (PySem.W.fnOf "law" "law" (defArgs s_law) (defBody s_law) (defScope s_law) .none kV37 dc37 pm37 an37 cd37 ct37), (PySem.W.fnOf "law" "law" (defArgs s_law) (defBody s_law) (defScope s_law) .none kV37 dc37 pm37 an37 cd37 ct37), (PySem.W.fnOf "law" "law" (defArgs s_law) (defBody s_law) (defScope s_law) .none kV37 dc37 pm37 an37 cd37 ct37), (PySem.W.fnOf "law" "law" (defArgs s_law) (defBody s_law) (defScope s_law) .none kV37 dc37 pm37 an37 cd37 ct37), (PySem.W.fnOf "law" "law" (defArgs s_law) (defBody s_law) (defScope s_law) .none kV37 dc37 pm37 an37 cd37 ct37), (PySem.W.fnOf "law" "law" (defArgs s_law) (defBody s_law) (defScope s_law) .none kV37 dc37 pm37 an37 cd37 ct37), (PySem.W.fnOf "law" "law" (defArgs s_law) (defBody s_law) (defScope s_law) .none kV37 dc37 pm37 an37 cd37 ct37), (PySem.W.fnOf "is_integer" "is_integer" (defArgs s_is_integer) (defBody s_is_integer) (defScope s_is_integer) .none kV10 dc10 pm10 an10 cd10 ct10), (PySem.W.fnOf "is_integer_from" "is_integer_from" (defArgs s_is_integer_from) (defBody s_is_integer_from) (defScope s_is_integer_from) .none kV11 dc11 pm11 an11 cd11 ct11), (PySem.W.fnOf "is_name" "is_name" (defArgs s_is_name) (defBody s_is_name) (defScope s_is_name) .none kV12 dc12 pm12 an12 cd12 ct12), (PySem.W.fnOf "is_rising" "is_rising" (defArgs s_is_rising) (defBody s_is_rising) (defScope s_is_rising) .none kV13 dc13 pm13 an13 cd13 ct13), (PySem.W.fnOf "law" "law" (defArgs s_law) (defBody s_law) (defScope s_law) .none kV37 dc37 pm37 an37 cd37 ct37), (PySem.W.fnOf "law" "law" (defArgs s_law) (defBody s_law) (defScope s_law) .none kV37 dc37 pm37 an37 cd37 ct37), (PySem.W.fnOf "law" "law" (defArgs s_law) (defBody s_law) (defScope s_law) .none kV37 dc37 pm37 an37 cd37 ct37), (PySem.W.fnOf "law" "law" (defArgs s_law) (defBody s_law) (defScope s_law) .none kV37 dc37 pm37 an37 cd37 ct37), (PySem.W.fnOf "law" "law" (defArgs s_law) (defBody s_law) (defScope s_law) .none kV37 dc37 pm37 an37 cd37 ct37), (PySem.W.fnOf "need_routers" "need_routers" (defArgs s_need_routers) (defBody s_need_routers) (defScope s_need_routers) .none kV19 dc19 pm19 an19 cd19 ct19), (PySem.W.fnOf "need_router" "need_router" (defArgs s_need_router) (defBody s_need_router) (defScope s_need_router) .none kV20 dc20 pm20 an20 cd20 ct20), (PySem.W.fnOf "is_length" "is_length" (defArgs s_is_length) (defBody s_is_length) (defScope s_is_length) .none kV21 dc21 pm21 an21 cd21 ct21), (PySem.W.fnOf "are_routers" "are_routers" (defArgs s_are_routers) (defBody s_are_routers) (defScope s_are_routers) .none kV22 dc22 pm22 an22 cd22 ct22), (PySem.W.fnOf "are_links" "are_links" (defArgs s_are_links) (defBody s_are_links) (defScope s_are_links) .none kV23 dc23 pm23 an23 cd23 ct23), (PySem.W.fnOf "is_link" "is_link" (defArgs s_is_link) (defBody s_is_link) (defScope s_is_link) .none kV24 dc24 pm24 an24 cd24 ct24), (PySem.W.fnOf "law" "law" (defArgs s_law) (defBody s_law) (defScope s_law) .none kV37 dc37 pm37 an37 cd37 ct37), (PySem.W.fnOf "_law_pot" "_law_pot" (defArgs s_l_pot) (defBody s_l_pot) (defScope s_l_pot) .none kV26 dc26 pm26 an26 cd26 ct26), (PySem.W.fnOf "_law_take" "_law_take" (defArgs s_l_take) (defBody s_l_take) (defScope s_l_take) .none kV27 dc27 pm27 an27 cd27 ct27), (PySem.W.fnOf "_law_pots" "_law_pots" (defArgs s_l_pots) (defBody s_l_pots) (defScope s_l_pots) .none kV28 dc28 pm28 an28 cd28 ct28), (PySem.W.fnOf "_law_of" "_law_of" (defArgs s_l_of) (defBody s_l_of) (defScope s_l_of) .none kV29 dc29 pm29 an29 cd29 ct29), (PySem.W.fnOf "_law_turned" "_law_turned" (defArgs s_l_turned) (defBody s_l_turned) (defScope s_l_turned) .none kV30 dc30 pm30 an30 cd30 ct30), (PySem.W.fnOf "_law_names" "_law_names" (defArgs s_l_names) (defBody s_l_names) (defScope s_l_names) .none kV31 dc31 pm31 an31 cd31 ct31), (PySem.W.fnOf "_law_far" "_law_far" (defArgs s_l_far) (defBody s_l_far) (defScope s_l_far) .none kV32 dc32 pm32 an32 cd32 ct32), (PySem.W.fnOf "_law_caught" "_law_caught" (defArgs s_l_caught) (defBody s_l_caught) (defScope s_l_caught) .none kV33 dc33 pm33 an33 cd33 ct33), (PySem.W.fnOf "_law_is_refused" "_law_is_refused" (defArgs s_l_is_refused) (defBody s_l_is_refused) (defScope s_l_is_refused) .none kV34 dc34 pm34 an34 (.ref cc34) ct34), (PySem.W.fnOf "_law_some_links" "_law_some_links" (defArgs s_l_some_links) (defBody s_l_some_links) (defScope s_l_some_links) .none kV35 dc35 pm35 an35 cd35 ct35), (PySem.W.fnOf "_law_fine" "_law_fine" (defArgs s_l_fine) (defBody s_l_fine) (defScope s_l_fine) .none kV36 dc36 pm36 an36 (.ref cc36) ct36), (PySem.W.fnOf "law" "law" (defArgs s_law) (defBody s_law) (defScope s_law) .none kV37 dc37 pm37 an37 cd37 ct37)] : List FuncData).getD i (PySem.W.fnOf "law" "law" (defArgs s_law) (defBody s_law) (defScope s_law) .none kV37 dc37 pm37 an37 cd37 ct37)) (fun i => ([dF, dF, (PySem.W.fnOf "__init__" "BadNet.__init__" (defArgs (inClass (topS 2) 0)) (defBody (inClass (topS 2) 0)) (defScope (inClass (topS 2) 0)) .none gkV2 gdc2 gpm2 gan2 gcd2 gct2), (PySem.W.fnOf "__init__" "NoRouter.__init__" (defArgs (inClass (topS 3) 0)) (defBody (inClass (topS 3) 0)) (defScope (inClass (topS 3) 0)) .none gkV3 gdc3 gpm3 gan3 gcd3 gct3), (PySem.W.fnOf "__init__" "BadLink.__init__" (defArgs (inClass (topS 4) 0)) (defBody (inClass (topS 4) 0)) (defScope (inClass (topS 4) 0)) .none gkV4 gdc4 gpm4 gan4 gcd4 gct4), (PySem.W.fnOf "__init__" "BadLength.__init__" (defArgs (inClass (topS 5) 0)) (defBody (inClass (topS 5) 0)) (defScope (inClass (topS 5) 0)) .none gkV5 gdc5 gpm5 gan5 gcd5 gct5), dF, (PySem.W.fnOf "__init__" "NoLink.__init__" (defArgs (inClass (topS 7) 0)) (defBody (inClass (topS 7) 0)) (defScope (inClass (topS 7) 0)) .none gkV7 gdc7 gpm7 gan7 gcd7 gct7), dF, dF, dF, dF, dF, dF, dF, dF, dF, dF, dF, dF, dF, dF, dF, dF, dF, dF, dF, dF, dF, dF, dF, dF, dF, dF, dF, dF, dF, dF, dF, dF, dF, dF, dF, dF, dF, dF, dF, dF, dF, dF, dF, dF, dF, dF, dF, dF, dF, dF, dF, dF, dF, dF, dF, dF, dF, dF, dF, dF, dF, dF, dF, dF, dF, dF, dF, dF, dF, dF, dF, dF, dF, dF, dF, dF, dF, dF, dF, dF, dF, dF, dF, dF, dF, dF, dF, dF, dF, dF, dF, dF, (PySem.W.fnOf "__init__" "Net.__init__" (defArgs s_m_init) (defBody s_m_init) (defScope s_m_init) .none kV100 dc100 pm100 an100 cd100 ct100), (PySem.W.fnOf "routers" "Net.routers" (defArgs s_m_routers) (defBody s_m_routers) (defScope s_m_routers) .none kV101 dc101 pm101 an101 cd101 ct101), (PySem.W.fnOf "links" "Net.links" (defArgs s_m_links) (defBody s_m_links) (defScope s_m_links) .none kV102 dc102 pm102 an102 cd102 ct102), (PySem.W.fnOf "__eq__" "Net.__eq__" (defArgs s_m_u_eq_) (defBody s_m_u_eq_) (defScope s_m_u_eq_) .none kV103 dc103 pm103 an103 cd103 ct103), (PySem.W.fnOf "length" "Net.length" (defArgs s_m_length) (defBody s_m_length) (defScope s_m_length) .none kV104 dc104 pm104 an104 cd104 ct104), (PySem.W.fnOf "with_link" "Net.with_link" (defArgs s_m_with_link) (defBody s_m_with_link) (defScope s_m_with_link) .none kV105 dc105 pm105 an105 cd105 ct105), (PySem.W.fnOf "without" "Net.without" (defArgs s_m_without) (defBody s_m_without) (defScope s_m_without) .none kV106 dc106 pm106 an106 cd106 ct106), (PySem.W.fnOf "_links_without" "Net._links_without" (defArgs s_m_u_links_without) (defBody s_m_u_links_without) (defScope s_m_u_links_without) .none kV107 dc107 pm107 an107 cd107 ct107)] : List FuncData).getD i dF) :=
    { F_is_integer := fun_mk (st := s_is_integer) l10 c10 k10
      g_is_integer := PySem.W.mg_of X G a10
      F_is_integer_from := fun_mk (st := s_is_integer_from) l11 c11 k11
      g_is_integer_from := PySem.W.mg_of X G a11
      F_is_name := fun_mk (st := s_is_name) l12 c12 k12
      g_is_name := PySem.W.mg_of X G a12
      F_is_rising := fun_mk (st := s_is_rising) l13 c13 k13
      g_is_rising := PySem.W.mg_of X G a13
      F_need_routers := fun_mk (st := s_need_routers) l19 c19 k19
      g_need_routers := PySem.W.mg_of X G a19
      F_need_router := fun_mk (st := s_need_router) l20 c20 k20
      g_need_router := PySem.W.mg_of X G a20
      F_is_length := fun_mk (st := s_is_length) l21 c21 k21
      g_is_length := PySem.W.mg_of X G a21
      F_are_routers := fun_mk (st := s_are_routers) l22 c22 k22
      g_are_routers := PySem.W.mg_of X G a22
      F_are_links := fun_mk (st := s_are_links) l23 c23 k23
      g_are_links := PySem.W.mg_of X G a23
      F_is_link := fun_mk (st := s_is_link) l24 c24 k24
      g_is_link := PySem.W.mg_of X G a24
      F_l_pot := fun_mk (st := s_l_pot) l26 c26 k26
      g_l_pot := PySem.W.mg_of X G a26
      F_l_take := fun_mk (st := s_l_take) l27 c27 k27
      g_l_take := PySem.W.mg_of X G a27
      F_l_pots := fun_mk (st := s_l_pots) l28 c28 k28
      g_l_pots := PySem.W.mg_of X G a28
      F_l_of := fun_mk (st := s_l_of) l29 c29 k29
      g_l_of := PySem.W.mg_of X G a29
      F_l_turned := fun_mk (st := s_l_turned) l30 c30 k30
      g_l_turned := PySem.W.mg_of X G a30
      F_l_names := fun_mk (st := s_l_names) l31 c31 k31
      g_l_names := PySem.W.mg_of X G a31
      F_l_far := fun_mk (st := s_l_far) l32 c32 k32
      g_l_far := PySem.W.mg_of X G a32
      F_l_caught := fun_mk (st := s_l_caught) l33 c33 k33
      g_l_caught := PySem.W.mg_of X G a33
      F_l_is_refused := fun_mk (st := s_l_is_refused) l34 c34 k34
      g_l_is_refused := PySem.W.mg_of X G a34
      F_l_some_links := fun_mk (st := s_l_some_links) l35 c35 k35
      g_l_some_links := PySem.W.mg_of X G a35
      F_l_fine := fun_mk (st := s_l_fine) l36 c36 k36
      g_l_fine := PySem.W.mg_of X G a36
      F_law := fun_mk (st := s_law) l37 c37 k37
      g_law := PySem.W.mg_of X G a37
      cN := ⟨PySem.W.mg_of X G aC1, ⟨_, _, _, _, _, _, _, _, _, _, _, _, _, _, xL1⟩⟩
      c_BadNet := ⟨PySem.W.mg_of X G aC2, ⟨_, _, _, _, _, _, _, _, _, _, _, _, _, _, xL2⟩, sa2, ga2, gg2, hc2, kC2⟩
      FI_BadNet := fun_mk (st := inClass (topS 2) 0) gl2 gc2 gk2
      iC_BadNet := ii2
      tI_BadNet := gt2
      no_BadNet_value := no2value
      c_NoRouter := ⟨PySem.W.mg_of X G aC3, ⟨_, _, _, _, _, _, _, _, _, _, _, _, _, _, xL3⟩, sa3, ga3, gg3, hc3, kC3⟩
      FI_NoRouter := fun_mk (st := inClass (topS 3) 0) gl3 gc3 gk3
      iC_NoRouter := ii3
      tI_NoRouter := gt3
      no_NoRouter_value := no3value
      c_BadLink := ⟨PySem.W.mg_of X G aC4, ⟨_, _, _, _, _, _, _, _, _, _, _, _, _, _, xL4⟩, sa4, ga4, gg4, hc4, kC4⟩
      FI_BadLink := fun_mk (st := inClass (topS 4) 0) gl4 gc4 gk4
      iC_BadLink := ii4
      tI_BadLink := gt4
      no_BadLink_value := no4value
      c_BadLength := ⟨PySem.W.mg_of X G aC5, ⟨_, _, _, _, _, _, _, _, _, _, _, _, _, _, xL5⟩, sa5, ga5, gg5, hc5, kC5⟩
      FI_BadLength := fun_mk (st := inClass (topS 5) 0) gl5 gc5 gk5
      iC_BadLength := ii5
      tI_BadLength := gt5
      no_BadLength_value := no5value
      c_TooMany := ⟨PySem.W.mg_of X G aC6, ⟨_, _, _, _, _, _, _, _, _, _, _, _, _, _, xL6⟩, sa6, ga6, gg6, hc6, kC6⟩
      x_TooMany := ex6
      y_TooMany := ey6
      c_NoLink := ⟨PySem.W.mg_of X G aC7, ⟨_, _, _, _, _, _, _, _, _, _, _, _, _, _, xL7⟩, sa7, ga7, gg7, hc7, kC7⟩
      FI_NoLink := fun_mk (st := inClass (topS 7) 0) gl7 gc7 gk7
      iC_NoLink := ii7
      tI_NoLink := gt7
      no_NoLink_value := no7value
      g_Net := PySem.W.mg_of X G aN
      cl_Net := ⟨pg, hd, po, sN⟩
      no_Net_routers := nf_routers
      no_Net_links := nf_links
      F_m_init := fun_mk (st := s_m_init) l100 c100 k100
      M_Net := ⟨mk, a100, i100, kN⟩
      P_routers := ⟨pp101, pa101, pb101, pc101, pr101, pd101⟩
      F_m_routers := fun_mk (st := s_m_routers) l101 c101 k101
      P_links := ⟨pp102, pa102, pb102, pc102, pr102, pd102⟩
      F_m_links := fun_mk (st := s_m_links) l102 c102 k102
      F_m_u_eq_ := fun_mk (st := s_m_u_eq_) l103 c103 k103
      F_m_length := fun_mk (st := s_m_length) l104 c104 k104
      Me_m_length := ⟨a104, i104, k104⟩
      F_m_with_link := fun_mk (st := s_m_with_link) l105 c105 k105
      Me_m_with_link := ⟨a105, i105, k105⟩
      F_m_without := fun_mk (st := s_m_without) l106 c106 k106
      Me_m_without := ⟨a106, i106, k106⟩
      F_m_u_links_without := fun_mk (st := s_m_u_links_without) l107 c107 k107
      Me_m_u_links_without := ⟨a107, i107, k107⟩
      n_abs := PySem.W.mg_none_of X G zabs
      n_all := PySem.W.mg_none_of X G zall
      n_bool := PySem.W.mg_none_of X G zbool
      n_enumerate := PySem.W.mg_none_of X G zenumerate
      n_int := PySem.W.mg_none_of X G zint
      n_isinstance := PySem.W.mg_none_of X G zisinstance
      n_len := PySem.W.mg_none_of X G zlen
      n_max := PySem.W.mg_none_of X G zmax
      n_min := PySem.W.mg_none_of X G zmin
      n_range := PySem.W.mg_none_of X G zrange
      n_repr := PySem.W.mg_none_of X G zrepr
      n_set := PySem.W.mg_none_of X G zset
      n_sorted := PySem.W.mg_none_of X G zsorted
      n_str := PySem.W.mg_none_of X G zstr
      n_tuple := PySem.W.mg_none_of X G ztuple
      n_zip := PySem.W.mg_none_of X G zzip
      v_LONGEST_NAME := ⟨tLONGEST_NAME, PySem.W.mg_of X G vLONGEST_NAME⟩
      v_FEWEST_ROUTERS := ⟨tFEWEST_ROUTERS, PySem.W.mg_of X G vFEWEST_ROUTERS⟩
      v_MOST_ROUTERS := ⟨tMOST_ROUTERS, PySem.W.mg_of X G vMOST_ROUTERS⟩
      v_MOST_LINKS := ⟨tMOST_LINKS, PySem.W.mg_of X G vMOST_LINKS⟩
      hn := hn
      ht := ht }
  exact ⟨(PySem.W.fnOf "law" "law" (defArgs s_law) (defBody s_law) (defScope s_law) .none kV37 dc37 pm37 an37 cd37 ct37), cc34, T34, cc36, T36, ⟨f34, _, _, PySem.W.mg_of X G a34, l34, rfl, rfl, ch34, nt34⟩, ⟨f36, _, _, PySem.W.mg_of X G a36, l36, rfl, rfl, ch36, nt36⟩, fun s v => .of_eq rfl,
    fun base _ _ t1 t2 => ok_law T ⟨⟨_, _, _, _, _, _, _, _, rfl, l34, c34⟩⟩ ⟨⟨_, _, _, _, _, _, _, _, rfl, l36, c36⟩⟩ ⟨t1, t2, ne⟩⟩

end Toy
set_option Elab.async false
open PySem PySem.W PyProof.Rows in
set_option maxRecDepth 100000 in
set_option maxHeartbeats 0 in
theorem PySem.Challenge.cw_quietturns_k03_sizes_at_their_limits_holds : PySem.Challenge.rw_quietturns_k03_sizes_at_their_limits.Holds := by
  w_on; o_law; k_head; (case hw => w_witness2)
  k_fill
  refine Q.walkTG (l := PySem.Challenge.rw_quietturns_k03_sizes_at_their_limits) (n := 63) (k := 12) (x := "_law_script") (n1 := "_law_is_refused") (n2 := "_law_fine") (sp := Toy.spLaw) rfl (by decide) rfl ⟨rfl, by decide, by decide⟩ (by decide +kernel) (by decide +kernel) (fun w h Y => PySem.W.km_in_of Y) ?F
    (fun P1 P2 K H a ns hn h1 h2 hS => ⟨a, ns, rfl, hS, hn, fun p hp => ?_, fun _ => rfl⟩)
  case F =>
    intro w mg fa h KX G hmg
    refine' Toy.all_mk KX G hmg ?a10 ?l10 ?c10 ?k10 ?a11 ?l11 ?c11 ?k11 ?a12 ?l12 ?c12 ?k12 ?a13 ?l13 ?c13 ?k13 ?a19 ?l19 ?c19 ?k19 ?a20 ?l20 ?c20 ?k20 ?a21 ?l21 ?c21 ?k21 ?a22 ?l22 ?c22 ?k22 ?a23 ?l23 ?c23 ?k23 ?a24 ?l24 ?c24 ?k24 ?a26 ?l26 ?c26 ?k26 ?a27 ?l27 ?c27 ?k27 ?a28 ?l28 ?c28 ?k28 ?a29 ?l29 ?c29 ?k29 ?a30 ?l30 ?c30 ?k30 ?a31 ?l31 ?c31 ?k31 ?a32 ?l32 ?c32 ?k32 ?a33 ?l33 ?c33 ?k33 ?a34 ?l34 ?c34 ?k34 ?kc34 ?ke34 ?ch34 ?nt34 ?a35 ?l35 ?c35 ?k35 ?a36 ?l36 ?c36 ?k36 ?kc36 ?ke36 ?ch36 ?nt36 ?a37 ?l37 ?c37 ?k37 ?aC1 ?xL1 ?aC2 ?xL2 ?sa2 ?ga2 ?gg2 ?hc2 ?kC2 ?ii2 ?gl2 ?gc2 ?gk2 ?gt2 ?no2value ?aC3 ?xL3 ?sa3 ?ga3 ?gg3 ?hc3 ?kC3 ?ii3 ?gl3 ?gc3 ?gk3 ?gt3 ?no3value ?aC4 ?xL4 ?sa4 ?ga4 ?gg4 ?hc4 ?kC4 ?ii4 ?gl4 ?gc4 ?gk4 ?gt4 ?no4value ?aC5 ?xL5 ?sa5 ?ga5 ?gg5 ?hc5 ?kC5 ?ii5 ?gl5 ?gc5 ?gk5 ?gt5 ?no5value ?aC6 ?xL6 ?sa6 ?ga6 ?gg6 ?hc6 ?kC6 ?ex6 ?ey6 ?aC7 ?xL7 ?sa7 ?ga7 ?gg7 ?hc7 ?kC7 ?ii7 ?gl7 ?gc7 ?gk7 ?gt7 ?no7value ?aN ?pg ?hd ?po ?sN ?mk ?kN ?nf_routers ?nf_links ?a100 ?i100 ?l100 ?c100 ?k100 ?pa101 ?pb101 ?pc101 ?pd101 ?l101 ?c101 ?k101 ?pa102 ?pb102 ?pc102 ?pd102 ?l102 ?c102 ?k102 ?a103 ?i103 ?l103 ?c103 ?k103 ?a104 ?i104 ?l104 ?c104 ?k104 ?a105 ?i105 ?l105 ?c105 ?k105 ?a106 ?i106 ?l106 ?c106 ?k106 ?a107 ?i107 ?l107 ?c107 ?k107 ?zabs ?zall ?zbool ?zenumerate ?zint ?zisinstance ?zlen ?zmax ?zmin ?zrange ?zrepr ?zset ?zsorted ?zstr ?ztuple ?zzip ?vLONGEST_NAME ?vFEWEST_ROUTERS ?vMOST_ROUTERS ?vMOST_LINKS ?hn ?ht ?ne
    (case a10 => k_is)
    (case l10 => k_is)
    (case c10 => k_is)
    (case k10 => k_is)
    (case a11 => k_is)
    (case l11 => k_is)
    (case c11 => k_is)
    (case k11 => k_is)
    (case a12 => k_is)
    (case l12 => k_is)
    (case c12 => k_is)
    (case k12 => k_is)
    (case a13 => k_is)
    (case l13 => k_is)
    (case c13 => k_is)
    (case k13 => k_is)
    (case a19 => k_is)
    (case l19 => k_is)
    (case c19 => k_is)
    (case k19 => k_is)
    (case a20 => k_is)
    (case l20 => k_is)
    (case c20 => k_is)
    (case k20 => k_is)
    (case a21 => k_is)
    (case l21 => k_is)
    (case c21 => k_is)
    (case k21 => k_is)
    (case a22 => k_is)
    (case l22 => k_is)
    (case c22 => k_is)
    (case k22 => k_is)
    (case a23 => k_is)
    (case l23 => k_is)
    (case c23 => k_is)
    (case k23 => k_is)
    (case a24 => k_is)
    (case l24 => k_is)
    (case c24 => k_is)
    (case k24 => k_is)
    (case a26 => k_is)
    (case l26 => k_is)
    (case c26 => k_is)
    (case k26 => k_is)
    (case a27 => k_is)
    (case l27 => k_is)
    (case c27 => k_is)
    (case k27 => k_is)
    (case a28 => k_is)
    (case l28 => k_is)
    (case c28 => k_is)
    (case k28 => k_is)
    (case a29 => k_is)
    (case l29 => k_is)
    (case c29 => k_is)
    (case k29 => k_is)
    (case a30 => k_is)
    (case l30 => k_is)
    (case c30 => k_is)
    (case k30 => k_is)
    (case a31 => k_is)
    (case l31 => k_is)
    (case c31 => k_is)
    (case k31 => k_is)
    (case a32 => k_is)
    (case l32 => k_is)
    (case c32 => k_is)
    (case k32 => k_is)
    (case a33 => k_is)
    (case l33 => k_is)
    (case c33 => k_is)
    (case k33 => k_is)
    (case a34 => k_is)
    (case l34 => k_is)
    (case c34 => k_is)
    (case k34 => k_is)
    (case kc34 => k_is)
    (case ke34 => first | rfl | k_is)
    (case ch34 => first | kernel_rfl | decide +kernel | rfl)
    (case nt34 => first | rfl | k_is)
    (case a35 => k_is)
    (case l35 => k_is)
    (case c35 => k_is)
    (case k35 => k_is)
    (case a36 => k_is)
    (case l36 => k_is)
    (case c36 => k_is)
    (case k36 => k_is)
    (case kc36 => k_is)
    (case ke36 => first | rfl | k_is)
    (case ch36 => first | kernel_rfl | decide +kernel | rfl)
    (case nt36 => first | rfl | k_is)
    (case a37 => k_is)
    (case l37 => k_is)
    (case c37 => k_is)
    (case k37 => k_is)
    (case aC1 => k_is)
    (case xL1 => k_is)
    (case aC2 => k_is)
    (case xL2 => k_is)
    (case sa2 => k_is)
    (case ga2 => k_is)
    (case gg2 => k_is)
    (case hc2 => k_is)
    (case kC2 => k_is)
    (case ii2 => k_is)
    (case gl2 => k_is)
    (case gc2 => k_is)
    (case gk2 => k_is)
    (case gt2 => k_is)
    (case no2value => k_is)
    (case aC3 => k_is)
    (case xL3 => k_is)
    (case sa3 => k_is)
    (case ga3 => k_is)
    (case gg3 => k_is)
    (case hc3 => k_is)
    (case kC3 => k_is)
    (case ii3 => k_is)
    (case gl3 => k_is)
    (case gc3 => k_is)
    (case gk3 => k_is)
    (case gt3 => k_is)
    (case no3value => k_is)
    (case aC4 => k_is)
    (case xL4 => k_is)
    (case sa4 => k_is)
    (case ga4 => k_is)
    (case gg4 => k_is)
    (case hc4 => k_is)
    (case kC4 => k_is)
    (case ii4 => k_is)
    (case gl4 => k_is)
    (case gc4 => k_is)
    (case gk4 => k_is)
    (case gt4 => k_is)
    (case no4value => k_is)
    (case aC5 => k_is)
    (case xL5 => k_is)
    (case sa5 => k_is)
    (case ga5 => k_is)
    (case gg5 => k_is)
    (case hc5 => k_is)
    (case kC5 => k_is)
    (case ii5 => k_is)
    (case gl5 => k_is)
    (case gc5 => k_is)
    (case gk5 => k_is)
    (case gt5 => k_is)
    (case no5value => k_is)
    (case aC6 => k_is)
    (case xL6 => k_is)
    (case sa6 => k_is)
    (case ga6 => k_is)
    (case gg6 => k_is)
    (case hc6 => k_is)
    (case kC6 => k_is)
    (case ex6 => k_exc)
    (case ey6 => k_is)
    (case aC7 => k_is)
    (case xL7 => k_is)
    (case sa7 => k_is)
    (case ga7 => k_is)
    (case gg7 => k_is)
    (case hc7 => k_is)
    (case kC7 => k_is)
    (case ii7 => k_is)
    (case gl7 => k_is)
    (case gc7 => k_is)
    (case gk7 => k_is)
    (case gt7 => k_is)
    (case no7value => k_is)
    (case aN => k_is)
    (case pg => k_is)
    (case hd => k_is)
    (case po => k_is)
    (case sN => k_is)
    (case mk => k_is)
    (case kN => k_is)
    (case nf_routers => k_is)
    (case nf_links => k_is)
    (case a100 => k_is)
    (case i100 => k_is)
    (case l100 => k_is)
    (case c100 => k_is)
    (case k100 => k_is)
    (case pa101 => k_is)
    (case pb101 => k_is)
    (case pc101 => k_is)
    (case pd101 => k_is)
    (case l101 => k_is)
    (case c101 => k_is)
    (case k101 => k_is)
    (case pa102 => k_is)
    (case pb102 => k_is)
    (case pc102 => k_is)
    (case pd102 => k_is)
    (case l102 => k_is)
    (case c102 => k_is)
    (case k102 => k_is)
    (case a103 => k_is)
    (case i103 => k_is)
    (case l103 => k_is)
    (case c103 => k_is)
    (case k103 => k_is)
    (case a104 => k_is)
    (case i104 => k_is)
    (case l104 => k_is)
    (case c104 => k_is)
    (case k104 => k_is)
    (case a105 => k_is)
    (case i105 => k_is)
    (case l105 => k_is)
    (case c105 => k_is)
    (case k105 => k_is)
    (case a106 => k_is)
    (case i106 => k_is)
    (case l106 => k_is)
    (case c106 => k_is)
    (case k106 => k_is)
    (case a107 => k_is)
    (case i107 => k_is)
    (case l107 => k_is)
    (case c107 => k_is)
    (case k107 => k_is)
    (case zabs => k_is)
    (case zall => k_is)
    (case zbool => k_is)
    (case zenumerate => k_is)
    (case zint => k_is)
    (case zisinstance => k_is)
    (case zlen => k_is)
    (case zmax => k_is)
    (case zmin => k_is)
    (case zrange => k_is)
    (case zrepr => k_is)
    (case zset => k_is)
    (case zsorted => k_is)
    (case zstr => k_is)
    (case ztuple => k_is)
    (case zzip => k_is)
    (case vLONGEST_NAME => k_is)
    (case vFEWEST_ROUTERS => k_is)
    (case vMOST_ROUTERS => k_is)
    (case vMOST_LINKS => k_is)
    (case hn => k_is)
    (case ht => k_is)
    (case ne => decide)
  · rcases List.mem_cons.mp hp with z | z
    · rw [z]; exact LamX.TabS.nil h1
    · rw [List.mem_singleton.mp z]; exact LamX.TabS.nil h2
