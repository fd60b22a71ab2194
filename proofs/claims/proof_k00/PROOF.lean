import PyProof.Rows.All
import Wide.All
import OpenK.AllK
import Wide.FinOn
import PyProof.EqAt
import PyProof.EqKinds
import PyProof.TupleCall
import PyProof.ReprRoads
import HandS.ForMost
import HandS.ForExc
import HandS.ExcInit
import HandS.ExcValue
import HandS.ExcIs
import HandS.IsInst
import HandS.Wide
import HandS.Ends
import HandS.FStrTup
import PySem.Challenge.RW_quietturns_k00_errors
set_option Elab.async false
set_option linter.all false
set_option maxRecDepth 100000
set_option maxHeartbeats 4000000
/-! Rules of our own over the hand layer: powers, calls where no display is under way, exceptions as values, repr of data. -/
namespace Q
open PySem PySem.Spec PyProof.Rows L2

/-! ### powers of greater numbers -/
def CPw (i j : Int) : Prop :=
  0 ≤ j ∧ ∃ m : Nat, i.natAbs < 2 ^ m ∧ (m : Int) * j ≤ 134217728
theorem op_pw {X : Cx} : OpR X (binaryOp .Pow) (rI CPw fun i j => .int (i ^ j.toNat)) :=
  opI fun i j _ _ _ _ _ hc q => by
    obtain ⟨h0, m, hm, hj⟩ := hc
    refine pow_int h0 ?_ q
    have b : Builtin.Int.intBits i ≤ m := PyProof.Rows.intBits_le hm
    have c : (Builtin.Int.intBits i : Int) * j ≤ (m : Int) * j :=
      Int.mul_le_mul_of_nonneg_right (by omega) h0
    exact Int.le_trans c hj

/-! ### defs that are called while no display is under way -/
structure FnG (P : Program) (w : World) (K : PySem.W.Frag) (mg : Str → Option Value)
    (base : Heap) (CX : CXT) (k : Nat) (f : Addr) (fd : FuncData) (ps : List Str) (sp : Sp) : Prop where
  len : ∀ vs H Q E, sp vs H Q E → vs.length = ps.length
  go : ∀ (A : Around) (outer : List Env) (s : Shared) (H : Hp) (args : Args) (us : List Value)
    (vs : List V) (Q : VK) (E : XK), A.guards = some [] → Room k A →
    Env0 P w K mg base A outer s H → BindsTo s fd args (ps.zip us) → Vals vs us → sp vs H Q E →
    codeAny (model P w) A (.call (.ref f) args) (CR CX outer P w H s Q E) s
section
variable {P : Program} {w : World} {K : PySem.W.Frag} {mg : Str → Option Value}
  {base : Heap} {CX : CXT} {k : Nat} {f : Addr} {fd : FuncData} {ps : List Str} {sp : Sp}
theorem FnG.of (F : FnOk P w K mg base CX k f fd ps sp) : FnG P w K mg base CX k f fd ps sp :=
  ⟨F.len, fun A o s H a us vs Q E _ => F.run A o s H a us vs Q E⟩
theorem FnG.mono {j : Nat} (F : FnG P w K mg base CX j f fd ps sp) (h : j ≤ k) :
    FnG P w K mg base CX k f fd ps sp :=
  ⟨F.len, fun A o s H a us vs Q E hg hr => F.go A o s H a us vs Q E hg (hr.mono h)⟩

/-- the rule for a def by its body, as fn_of, with the guards known -/
theorem fng_of {name qual : Str} {params : Arguments} {body : List Stmt} {scope : Scope}
    {dV kV doc pm cdv ct oc : Value} {an od : Option Addr} {osl : Array (Option Value)} {N : List Str}
    (lk : K.lookup f = some ⟨oc, od,
      .func (PySem.W.fnOf name qual params body scope dV kV doc pm an cdv ct), osl⟩)
    (hcd : PySem.W.codeIn K cdv qual = true) (S : FnScope N ps scope)
    (len : ∀ vs H Q E, sp vs H Q E → vs.length = ps.length)
    (hbody : ∀ (A : Around) (outer : List Env) (s : Shared) (H : Hp) (vs : List V) (Q : VK) (E : XK),
      A.guards = some [] → Room k (A.deeper (envOfC qual scope s.heap.objs.size f cdv)) → sp vs H Q E →
      ∃ t, PSs (cxOf CX P w K mg base N qual scope f cdv A outer s H E) body t ∧
        t { nx := fun _ H' => Q .non H', rt := Q } (start N vs) H) :
    FnG P w K mg base CX (k + 1) f
      (PySem.W.fnOf name qual params body scope dV kV doc pm an cdv ct) ps sp := by
  refine ⟨len, ?_⟩
  intro A outer s H args us vs Q E hgd hr e0 hb rv hsp
  have hlen := len _ _ _ _ hsp
  have inB : ∀ b o, base.get? b = some o → s.heap.get? b = some o := fun b o e => (e0.bs b o e).1
  have KX : K.In s.heap := e0.mod.kin.keeps inB
  have kinds : ∀ y ∈ ps.zip us, scope.names.lookup y.1 = some .local ∨
      (scope.names.lookup y.1 = some .cell ∧
        ((cellsFrom (s.heap.objs.size + 1) scope.names []).lookup y.1).isSome = true) := by
    rintro ⟨n, v⟩ hy
    cases S.par n (List.of_mem_zip hy).1 with
    | inl q => exact .inl q
    | inr q => exact .inr ⟨q, PySem.W.cellsFrom_some _ _ _ (.inl q)⟩
  refine codeAny_call_function hr.depth (KX _ _ lk) rfl S.co S.gen rfl
    (PySem.W.codeRec_of KX hcd) (hb _ _ _ _ ?_)
  refine wpAny_newFunctionEnv_cells S.kind kinds ?_
  intro env he s1 x
  subst he
  refine ⟨(e0.mod.nolimit.keeps inB).keeps x.toInCall.keep, codeAny_func ?_⟩
  obtain ⟨t, ht, hq⟩ := hbody A outer s H vs Q E hgd (hr.deeper _) hsp
  have I := inv_start (CX := CX) (E := E) S hr.hd e0 hlen rv x
  refine wpAny_mono (ht.run [] s1 (start N vs) H _ I hq) ?_ (fun _ _ z => z)
  intro fl s' hs
  cases fl with
  | ret u =>
    obtain ⟨v, σ', H', J, r', q⟩ := hs
    exact ⟨v, H', J.os, J.bare, J.base, J.hok, r', q⟩
  | next =>
    obtain ⟨σ', H', J, q⟩ := hs
    exact ⟨.non, H', J.os, J.bare, J.base, J.hok, rfl, q⟩
  | brk => exact hs.elim fun _ z => z.elim fun _ z => z.2.elim
  | cont => exact hs.elim fun _ z => z.elim fun _ z => z.2.elim

/-- as Fun.ok -/
theorem okG {x qual : Str} {st : Stmt} {N : List Str} (F : Fun K x qual st f fd)
    (S : FnScope N ps (defScope st)) (len : ∀ vs H Q E, sp vs H Q E → vs.length = ps.length)
    (hbody : ∀ (cdv : Value) (A : Around) (outer : List Env) (s : Shared) (H : Hp) (vs : List V)
      (Q : VK) (E : XK), A.guards = some [] →
      Room k (A.deeper (envOfC qual (defScope st) s.heap.objs.size f cdv)) → sp vs H Q E →
      ∃ t, PSs (cxOf CX0 P w K mg base N qual (defScope st) f cdv A outer s H E).nox (defBody st) t ∧
        t { nx := fun _ H' => Q .non H', rt := Q } (start N vs) H) :
    FnG P w K mg base CX0 (k + 1) f fd ps sp := by
  obtain ⟨oc, od, kV, doc, pm, an, cdv, ct, osl, rfl, lk, hcd⟩ := F.ex
  refine fng_of lk hcd S len ?_
  intro A outer s H vs Q E hgd hr hsp
  obtain ⟨t, h, q⟩ := hbody cdv A outer s H vs Q E hgd hr hsp
  exact ⟨t, h.nox, q⟩
end

section
variable {X : Cx} {CX : CXT} {k : Nat} {f : Addr} {fd : FuncData} {ps : List Str} {sp : Sp}
  {dvs : List V} {ds : List Value} {E : XK} {x : Str} {p pos : Pos} {e : Expr} {es : List Expr} {t : TA}
theorem run_g {pins : List (Addr × Obj)} {σ : L2.St} {H : Hp} {s : Shared} {Q : VK} {us : List Value}
    {vs : List V} (F : FnG X.prog X.w X.K X.mg X.base CX k f fd ps sp) (hgd : X.A.guards = some [])
    (hr : Room k X.A) (hb : Binds X.K fd ps ds) (hd : Vals dvs ds) (hx : Passes CX X E)
    (I : Inv X pins σ H s) (r : Vals vs us) (h : sp (vs ++ dvs) H Q E) :
    wpAny (model X.prog X.w) X.A (call (.ref f) us) (EP X pins σ Q) X.xe s := by
  have r2 := r.append hd
  have hl : (us ++ ds).length = ps.length := r2.length.symm.trans (F.len _ _ _ _ h)
  have c := F.go X.A X.stack s H ⟨us, []⟩ (us ++ ds) (vs ++ dvs) Q E hgd hr I.env0 (hb s us I.kIn hl) r2 h
  refine wpAny_call (codeAny_mono c ?_)
  intro r s' hq
  match r, hq with
  | .error er, hq => exact hx pins σ H s er s' I hq
  | .ok (.ret u), hq => exact I.after hq
/-- f(e, ..) -/
theorem pe_callG (F : FnG X.prog X.w X.K X.mg X.base CX k f fd ps sp) (hgd : X.A.guards = some [])
    (hr : Room k X.A) (hg : Gl X x) (hm : X.mg x = some (.ref f))
    (hk : PySem.W.keepIn X.K (.ref f) = true) (hb : Binds X.K fd ps ds) (hd : Vals dvs ds)
    (hx : Passes CX X E) (ha : PA X (e :: es) t) (hdb : (x == ("__debug__" : Str)) = false := by decide)
    (he : starEach (e :: es) X.env = (false, eval e X.env) :: starEach es X.env := by rfl)
    (hpl : (backTo pos (starEach es X.env)).any (·.1) = false := by rfl) :
    PE X (.Call (.Name x p) (e :: es) [] pos) (tCall sp dvs E t) := by
  constructor
  intro pins s σ H Q I h
  refine wpAny_Call_Name_kw (ld_glob I hg hm ?_ hdb)
  refine PySem.W.callWith_K (h₀ := X.base) I.ok.mod.kin hk ?_ he hpl
  refine thn (ha.run pos pins s σ H _ I h) ?_
  rintro us s1 ⟨vs, H1, I1, r, q⟩
  exact ⟨I1.kIn, run_g F hgd hr hb hd hx I1 r q⟩
end
end Q
set_option Elab.async false
set_option linter.all false
set_option maxRecDepth 100000
set_option maxHeartbeats 4000000
namespace Q
open PySem PySem.Spec PyProof.Rows L2

/-! ### the law's call, its promise under known guards -/
section
variable {P : Program} {w : World} {K : PySem.W.Frag} {mg mb : Str → Option Value} {k : Nat}
  {fa a : Addr} {fd : FuncData} {x : Str} {sp : Sp} {s₁ : Shared} {vs : List Value} {ns : List Int}
abbrev LawEnd (s₁ : Shared) : Result → Shared → Prop := fun r s' =>
  r = .ok (.ret (.bool true)) ∧ OldK s₁.heap s'.heap ∧ s'.os = s₁.os ∧ AllBare s'.gens
theorem law_core (KX : K.In s₁.heap) (hns : s₁.heap.Ns mainGlobals mg) (hb : s₁.heap.Ns builtinsNs mb)
    (hbb : ∀ x : Str, x ≠ "__name__" → mb x = bootBuiltins x) (hlim : s₁.heap.NoLimit)
    (hg : s₁.gens = #[])
    (ha : s₁.heap.get? a = some { cls := .type "list", data := .seq vs.toArray }) (hr : Room k callerA)
    (F : ∀ base : Heap, K.In base → base.Ns mainGlobals mg → FnG P w K mg base CX0 k fa fd [x] sp)
    (hbind : ∀ (s : Shared) (u : Value), BindsTo s fd ⟨[u], []⟩ [(x, u)])
    (H : Hp) (hO : Only H) (hS : sp [.ref a] H (fun v _ => v = .bl true) fun _ _ _ => False)
    (hok : HOk P w H s₁.heap) (hA : ∀ b, H b ≠ none → b = a) (hK : H a ≠ none → K.lookup a = none) :
    codeAny (model P w) callerA (.call (.ref fa) ⟨[.ref a], []⟩) (LawEnd s₁) s₁ := by
  have only_a : ∀ {b : Addr}, b ≠ a → H b = none := fun {b} ne => by
    cases q : H b with
    | none => rfl
    | some u => exact absurd (hA b (by rw [q]; exact nofun)) ne
  have dict_free : ∀ {b o es ep}, s₁.heap.get? b = some o → o.data = Data.dict es ep → H b = none := by
    intro b o es ep e d
    refine only_a ?_
    rintro rfl
    rw [ha] at e
    cases e
    cases d
  have ns_free : ∀ {b m}, s₁.heap.Ns b m → (hidT s₁.heap H).Ns b m := by
    rintro b m ⟨o, es, ep, e, d, r⟩
    exact ⟨o, es, ep, hidT_get e (dict_free e d), d, r⟩
  have k_free : ∀ {b o}, K.lookup b = some o → H b = none := by
    intro b o e
    cases q : H b with
    | none => rfl
    | some u =>
      have nn : H b ≠ none := by rw [q]; exact nofun
      cases hA b nn
      rw [hK nn] at e
      cases e
  have kin : K.In (hidT s₁.heap H) := fun b o e => hidT_get (KX b o e) (k_free e)
  obtain ⟨mc, l1, l2⟩ := hlim
  have md : Mod K mg (hidT s₁.heap H) :=
    { kin := kin, glob := ns_free hns, blt := ⟨mb, ns_free hb, hbb⟩, nolimit := ⟨mc, ns_free l1, l2⟩ }
  have e0 : Env0 P w K mg (hidT s₁.heap H) callerA [] s₁ H :=
    ⟨rfl, md, fun b o e => of_hidT e, Nat.le_of_eq (hidT_size _ _), trivial,
      fun b z => absurd (show b ∈ ([] : List Addr) from z) List.not_mem_nil, hok, .of_eq hg⟩
  have run := (F _ kin (ns_free hns)).go callerA [] s₁ H ⟨[.ref a], []⟩ [.ref a] [.ref a] _ _ rfl hr e0
    (hbind s₁ (.ref a)) (.cons rfl .nil) hS
  refine codeAny_mono run ?_
  intro r s' h
  match r, h with
  | .error e, h => exact False.elim h
  | .ok (.ret u), ⟨v, H', os, bare, un, hok', r', q⟩ =>
    subst q
    obtain rfl : u = Value.bool true := r'
    refine ⟨rfl, OldK.of_keep ?_, os, bare⟩
    intro b o e
    cases q : H b with
    | none =>
      refine un.keep b o e q (fun z => ?_) List.not_mem_nil
      exact absurd (show b ∈ ([] : List Addr) from z) List.not_mem_nil
    | some u =>
      cases hO b with
      | inl z => rw [q] at z; cases z
      | inr z =>
        obtain ⟨ob, xs, z⟩ := z
        have e2 := (hok' b _ (un.frzs b ob _ z)).1
        have e1 := (hok b _ z).1
        rw [e] at e1
        cases e1
        exact e2

theorem law_callG (KX : K.In s₁.heap) (hns : s₁.heap.Ns mainGlobals mg) (hb : s₁.heap.Ns builtinsNs mb)
    (hbb : ∀ x : Str, x ≠ "__name__" → mb x = bootBuiltins x) (hlim : s₁.heap.NoLimit)
    (hg : s₁.gens = #[])
    (ha : s₁.heap.get? a = some { cls := .type "list", data := .seq vs.toArray }) (hi : IntsAre vs ns)
    (hl : ns.length ≤ sizeLine) (hr : Room k callerA)
    (F : ∀ base : Heap, K.In base → base.Ns mainGlobals mg → FnG P w K mg base CX0 k fa fd [x] sp)
    (hbind : ∀ (s : Shared) (u : Value), BindsTo s fd ⟨[u], []⟩ [(x, u)])
    (hsp : ∀ H : Hp, Only H → SqL K H a (ns.map V.int) →
      sp [.ref a] H (fun v _ => v = .bl true) fun _ _ _ => False) :
    codeAny (model P w) callerA (.call (.ref fa) ⟨[.ref a], []⟩) (LawEnd s₁) s₁ := by
  have rv := vals_ints hi
  have lenV := hi.length
  cases hk : K.lookup a with
  | some o =>
    have e := KX a o hk
    rw [ha] at e
    cases e
    have hN : Only (fun _ => none) := fun _ => .inl rfl
    have hS : SqL K (fun _ => none) a (ns.map V.int) := by
      refine .inr ⟨_, vs.toArray, _, hk, rfl, rfl, rfl, ?_, by simpa using rv⟩
      rw [List.size_toArray, lenV]
      exact hl
    exact law_core KX hns hb hbb hlim hg ha hr F hbind _ hN (hsp _ hN hS) (fun _ _ z => nomatch z)
      (fun _ z => absurd rfl z) (fun z => absurd rfl z)
  | none =>
    let ob : Obj := { cls := .type "list", data := .seq vs.toArray }
    let H : Hp := fun b => if b = a then some (.frz ob (.lst (ns.map V.int))) else none
    have at_a : H a = some (.frz ob (.lst (ns.map V.int))) := if_pos rfl
    have off : ∀ b, b ≠ a → H b = none := fun b z => if_neg z
    have hN : Only H := fun b => by
      by_cases z : b = a
      · rw [z]; exact .inr ⟨_, _, at_a⟩
      · exact .inl (off b z)
    have hok : HOk P w H s₁.heap := fun b u e => by
      by_cases z : b = a
      · rw [z, at_a] at e
        cases e
        rw [z]
        exact ⟨ha, by rw [List.length_map]; exact hl, vs, _, rv, ha⟩
      · rw [off b z] at e
        cases e
    refine law_core KX hns hb hbb hlim hg ha hr F hbind H hN (hsp H hN (.inl (.inr ⟨ob, at_a⟩))) hok ?_ ?_
    · intro b z
      by_cases q : b = a
      · exact q
      · exact absurd (off b q) z
    · exact fun _ => hk
end

/-- the goal that the head leaves, from the law's promise -/
theorem walkG {l : PySem.W.OpenLaw} {n k : Nat} {q : Program} {loose : List Str}
    {XP : (Str → Option Value) → Heap → Prop} {YP : World → Heap → Prop} {d : DefRec}
    {K : Params → PySem.W.Frag} {sp : PySem.W.Frag → Sp} {x : Str} (hn : l.most = some n)
    (hn2 : n ≤ sizeLine) (hdf : d.params.defaults = []) (hr : Room k callerA)
    (hY : ∀ (w : World) (h : Heap), YP w h → (K w.params).In h)
    (F : ∀ (w : World) (mg : Str → Option Value) (fa : Addr) (h : Heap), (K w.params).In h →
      h.Ns mainGlobals mg → mg d.name = some (.ref fa) →
      ∃ fd : FuncData, (∀ (s : Shared) (u : Value), BindsTo s fd ⟨[u], []⟩ [(x, u)]) ∧
        ∀ base : Heap, (K w.params).In base → base.Ns mainGlobals mg →
          FnG l.prog w (K w.params) mg base CX0 k fa fd [x] (sp (K w.params)))
    (hsp : ∀ (K : PySem.W.Frag) (H : Hp) (a : Addr) (ns : List Int), ns.length ≤ n → Only H →
      SqL K H a (ns.map V.int) → sp K [.ref a] H (fun v _ => v = .bl true) fun _ _ _ => False) :
    PySem.W.WalkO q loose XP YP l.row.toRowW d [] (fun f vs => PySem.call f vs) := by
  refine Att.attach_call hn hdf ?_
  intro w s₀ s₁ mg mb fa o pm cd doc a vs ns G Y ho hd hcd hmg hobj hints hlen hg
  have KX := hY w _ Y
  obtain ⟨fd, hb, hF⟩ := F w mg fa _ KX G.T.g hmg
  exact law_callG KX G.T.g G.T.b G.T.builtins G.T.nolimit hg hobj hints (Nat.le_trans hlen hn2) hr hF hb
    (fun H hO hS => hsp _ H a ns hlen hO hS)
end Q
set_option Elab.async false
set_option linter.all false
set_option maxRecDepth 100000
set_option maxHeartbeats 4000000
namespace Q
open PySem PySem.Spec PyProof.Rows L2

/-! ### exceptions as values -/
/-- an exception of the class C at a, its own dict at d; raised or not -/
def exv (a C : Addr) (d : Option Addr) : HO :=
  .ext fun h => ∃ oe : Obj, h.get? a = some oe ∧ Zc (.ref C) d oe ∧ ∃ vs, oe.data = .fields vs
theorem exv_ok {P : Program} {w : World} {H : Hp} {h : Heap} {a C : Addr} {d : Option Addr} {oe : Obj}
    (e : h.get? a = some oe) (z : Zc (.ref C) d oe) (f : ∃ vs, oe.data = .fields vs) :
    ObjOk P w H h a (exv a C d) :=
  ⟨⟨oe, e, z, f⟩, ⟨oe, e⟩, fun _ _ ⟨o, q, r⟩ k => ⟨o, k o q, r⟩⟩
/-- the object -/
def ErrO (H : Hp) (a C : Addr) (d : Option Addr) : Prop := H a = some (exo a C d) ∨ H a = some (exv a C d)
/-- its dict -/
def ErrD (H : Hp) (d : Addr) (fs : List (Str × V)) : Prop := H d = some (exd d fs) ∨ H d = some (.xd fs)
/-- an exception of C with these attributes -/
def ErrAt (H : Hp) (a C : Addr) (fs : List (Str × V)) : Prop := ∃ d, ErrO H a C (some d) ∧ ErrD H d fs

section
variable {X : Cx} {pins : List (Addr × Obj)} {σ : L2.St} {H : Hp} {s : Shared} {a C d : Addr}
theorem ErrO.get {d : Option Addr} (I : Inv X pins σ H s) (e : ErrO H a C d) :
    ∃ oe : Obj, s.heap.get? a = some oe ∧ Zc (.ref C) d oe ∧ ∃ vs, oe.data = .fields vs := by
  rcases e with e | e
  · obtain ⟨t1, q⟩ := exo_at I.hok e
    exact ⟨_, q, ⟨rfl, rfl⟩, _, rfl⟩
  · exact (I.hok a _ e).1
theorem ErrD.get {fs : List (Str × V)} (I : Inv X pins σ H s) (e : ErrD H d fs) :
    ∃ mA, s.heap.Ns1 d mA ∧ ∀ f, RelO (fs.lookup f) (mA f) := by
  rcases e with e | e
  · exact exd_at I.hok e
  · exact I.hok d _ e
end

/-- isinstance asks an exception's class rightly, whatever its own dict -/
theorem kitx_err {K : PySem.W.Frag} {x D : Addr} {ox : Obj} {od : Option Obj} (c : ExcC K D) :
    PySem.W.KitX K (.ref x) (.ref D) (fun h => PySem.W.InstAt h x ox D od) := by
  have c1 := PySem.W.handS_kitx_exc (x := x) (ox := ox) c.hg c.hk c.hs c.hd c.ha c.hn c.ht c.hm
  refine ⟨fun _ _ _ I => I.type, ?_, ?_, ?_⟩
  · intro M h KX _
    obtain ⟨cdD, hcD, _⟩ := PySem.W.any_some c.hd
    unfold PySem.W.clsIn at hcD
    split at hcD
    · rename_i ho
      intro A' Q' E' s' k q
      unfold isType loadHead
      exact wpAny_bind (wpAny_loadPart (k _ _ (KX _ _ ho)) (wpAny_pure q))
    · cases hcD
  · intro h tp dd its n sl KX htp
    refine beq_eq_false_iff_ne.mpr fun q => ?_
    cases q
    obtain ⟨cdD, hcD, _⟩ := PySem.W.any_some c.hd
    unfold PySem.W.clsIn at hcD
    split at hcD
    · rename_i ho
      cases (KX _ _ ho).symm.trans htp
    · cases hcD
  · intro prog w A E Q s KX I h
    have isC : (PySem.W.clsIn K D).isSome = true := by
      obtain ⟨cd, hc, _⟩ := PySem.W.any_some c.hd
      rw [hc]
      rfl
    have hf : PySem.W.findObj K D od "__class__" =
        some (.bind (.builtin "getset_descriptor.__get__") (.builtin "object.__class__")) := by
      cases od with
      | none => exact PySem.W.findObj_dataN isC c.ha c.hn c.ht
      | some od => exact PySem.W.findObj_data isC c.ha c.hn c.ht
    obtain ⟨hp, g, d, t, os⟩ := s
    have L0 := I.type (M := model prog w)
    have LA := PySem.W.looks_findIn (M := model prog w) KX c.hg
    have LB := PySem.W.looks_findIn (M := model prog w) KX c.hk
    have LC := PySem.W.looks_find (M := model prog w) KX I hf
    have sub : PySem.W.Looks (model prog w) hp (isInstance (.ref x) (.type "BaseException")) true :=
      L0.andThen (PySem.W.looks_subIn KX c.hs)
    have hx0 : (false && onTheHeap (Value.builtin "BaseException.__getattribute__")) = false := rfl
    have hx2 : (Value.builtin "BaseException.__getattribute__" ==
        Value.builtin "object.__getattribute__") = false := by decide +kernel
    unfold getAttr? getAttrBy? getAttrBy
    refine wpAny_bind (wpAny_mkText (wpAny_bind (wpAny_attempt (wpAny_holding (wpAny_bind
      (L0.at (wpAny_bind (LA.at ?_))))))))
    refine PySem.W.KFB.if_not (by rw [hx2]; exact Bool.and_false _) ?_
    unfold getAttrByItsOwn hookBefore
    refine wpAny_bind ?_
    rw [if_pos (show onTheHeap (Value.ref D) = true from rfl)]
    refine LB.at (wpAny_bind (wpAny_attempt (wpAny_holding ?_)))
    unfold callGetattribute
    rw [hx0, if_neg Bool.false_ne_true]
    unfold boundAndCalled
    rw [PySem.F.excAttr_ValueError.ga.bind (.ref x)]
    refine wpAny_bind (wpAny_pure (wpAny_call (codeAny_call_builtin PySem.F.excAttr_ValueError.ga.plain
      PySem.F.entry_bexc_ga ?_)))
    refine @PySem.W.check_slot (model prog w) _ _ ⟨hp, g, d, t + 1, os⟩
      "BaseException.__getattribute__" "BaseException" "__getattribute__" (.ref x)
      [.str "__class__" t] [] _ (by decide +kernel) (by decide +kernel) sub
      (PySem.F.args_bexc_ga (.ref x) (.str "__class__" t)) ?_
    unfold Builtin.«object.__getattribute__»
    refine wpAny_bind (wpAny_of_eq (a := ((Value.ref x : Value), [Value.str "__class__" t]))
      (by first | rfl | (simp only [slotArgs]; rfl)) ?_)
    refine wpAny_bind (wpAny_pure (wpAny_bind (L0.at (wpAny_bind (LC.at (wpAny_bind (wpAny_holding
      (wpAny_call (PySem.W.class_get (s := ⟨hp, g, d, t + 1, os⟩) (ox := ox) (od := od) KX I c.hm ?_)))))))))
    refine wpAny_pure ?_
    show wpAny _ _ (handedOut (.ref D)) _ _ _
    rw [PySem.W.handedOut_of (v := .ref D) rfl]
    first
      | exact wpAny_pure (wpAny_pure h)
      | exact wpAny_pure h
      | exact wpAny_pure (wpAny_bind (wpAny_pure (wpAny_pure h)))
end Q
set_option Elab.async false
set_option linter.all false
set_option maxRecDepth 100000
set_option maxHeartbeats 4000000
namespace Q
open PySem PySem.Spec PyProof.Rows L2

/-- an exception of C, with a dict of its own or none -/
def ErrI (H : Hp) (a C : Addr) : Prop := ErrO H a C none ∨ ∃ fs, ErrAt H a C fs
theorem ErrAt.i {H : Hp} {a C : Addr} {fs : List (Str × V)} (e : ErrAt H a C fs) : ErrI H a C := .inr ⟨_, e⟩
theorem ErrO.mono {H H' : Hp} {a C : Addr} {d : Option Addr} (s : Same H H') (e : ErrO H a C d) : ErrO H' a C d :=
  e.imp (s _ _) (s _ _)
theorem ErrD.mono {H H' : Hp} {d : Addr} {fs : List (Str × V)} (s : Same H H') (e : ErrD H d fs) : ErrD H' d fs :=
  e.imp (s _ _) (s _ _)
theorem ErrAt.mono {H H' : Hp} {a C : Addr} {fs : List (Str × V)} (s : Same H H') (e : ErrAt H a C fs) :
    ErrAt H' a C fs := let ⟨d, o, q⟩ := e; ⟨d, o.mono s, q.mono s⟩
theorem ErrI.mono {H H' : Hp} {a C : Addr} (s : Same H H') (e : ErrI H a C) : ErrI H' a C :=
  e.imp (fun z => z.mono s) fun ⟨fs, z⟩ => ⟨fs, z.mono s⟩

section
variable {X : Cx} {pins : List (Addr × Obj)} {σ : L2.St} {H : Hp} {s : Shared} {a C : Addr}
theorem ErrI.inst (I : Inv X pins σ H s) (e : ErrI H a C) : ∃ oe od, PySem.W.InstAt s.heap a oe C od := by
  have nc : ∀ oe : Obj, (∃ vs, oe.data = .fields vs) → PySem.W.notCls oe = true := fun oe ⟨vs, hv⟩ => by
    unfold PySem.W.notCls
    rw [hv]
  rcases e with e | ⟨fs, d, e, ed⟩
  · obtain ⟨oe, ho, hz, hv⟩ := e.get I
    exact ⟨oe, none, ho, hz.1, nc oe hv, by rw [hz.2]; trivial⟩
  · obtain ⟨oe, ho, hz, hv⟩ := e.get I
    obtain ⟨mA, hn, _⟩ := ed.get I
    obtain ⟨od, hd, _⟩ := lookIn_ns hn
    exact ⟨oe, some od, ho, hz.1, nc oe hv, by rw [hz.2]; exact hd⟩
end

section
variable {X : Cx}
/-- isinstance of an exception -/
def rIsE (K : PySem.W.Frag) : List V → Hp → VK → Prop := fun xs H Q =>
  ∃ (a C : Addr) (c : V) (u : Value) (b : Bool), xs = [.ref a, c] ∧ ClsV c u ∧
    ErrI H a C ∧ ExcC K C ∧ PySem.W.kitOne K (.ref C) u = some b ∧ Q (.bl b) H
theorem call_isE : CallR X (.builtin "isinstance") (rIsE X.K) := by
  intro pins s σ H xs us Q I r h
  obtain ⟨a, C, c, u, b, rfl, k, eo, ec, e, q⟩ := h
  obtain ⟨u1, u2, rfl, r1, r2⟩ := vals2 r
  cases k.eq r2
  obtain rfl : u1 = Value.ref a := r1
  obtain ⟨oe, od, J⟩ := eo.inst I
  exact PySem.W.kia_one (kitx_err (ox := oe) (od := od) ec) I.kIn J e (fun z => nomatch z)
    (fun tk => ⟨.bl b, H, I.tok tk, rfl, q⟩)
/-- of any value -/
def rIsA (K : PySem.W.Frag) : List V → Hp → VK → Prop := fun xs H Q => rIsi K xs H Q ∨ rIsE K xs H Q
theorem call_isA : CallR X (.builtin "isinstance") (rIsA X.K) := by
  intro pins s σ H xs us Q I r h
  cases h with
  | inl h => exact call_isi pins s σ H xs us Q I r h
  | inr h => exact call_isE pins s σ H xs us Q I r h

/-- e.f of an exception -/
def tErrF (K : PySem.W.Frag) (f : Str) (te : TE) : TE := fun σ H Q => te σ H fun x H1 =>
  ∃ (a C : Addr) (fs : List (Str × V)) (v : V), x = .ref a ∧ ErrAt H1 a C fs ∧ ExcC K C ∧
    PySem.W.findIn K (.ref C) f = some none ∧ fs.lookup f = some v ∧ Q v H1
theorem pe_errf {e : Expr} {te : TE} {f : Str} {pos : Pos} (he : PE X e te)
    (hb : attributeBase e f X.env (eval e X.env) = eval e X.env := by rfl) :
    PE X (.Attribute e f pos) (tErrF X.K f te) := by
  constructor
  intro pins s σ H Q I h
  refine attr_of hb (thn (he.run pins s σ H _ I h) ?_)
  rintro u s1 ⟨x, H1, I1, rx, a, C, fs, v, rfl, ⟨d, eo, ed⟩, ec, hno, l, q⟩
  obtain rfl : u = Value.ref a := rx
  obtain ⟨oe, ho, hz, vs, hv⟩ := eo.get I1
  obtain ⟨mA, hns, hr⟩ := ed.get I1
  obtain ⟨od, hod, hl⟩ := lookIn_ns hns
  have hrf := hr f
  rw [l] at hrf
  obtain ⟨u, hu, ru⟩ := RelO.some_of hrf
  have J : PySem.W.InstAt s1.heap a oe C (some od) :=
    ⟨ho, hz.1, by unfold PySem.W.notCls; rw [hv], by rw [hz.2]; exact hod⟩
  have hf : PySem.W.findObj X.K C (some od) f = some (.value u) :=
    PySem.W.findObj_own ec.hd hno rfl (by rw [hl, hu])
  exact HandSPX.exc_get I1.kIn J ec.hg ec.hk ec.hs hf (handed_of ru) ⟨v, H1, I1.tok _, ru, q⟩

/-- C(e, ..), an own exception class with its own __init__, as a value -/
def tMkV (C : Addr) (sp : Sp) (dvs : List V) (ta : TA) : TE := fun σ H Q => ta σ H fun vs H1 =>
  vs.length ≤ 1000 ∧ ∀ a, H1 a = none → sp (.ref a :: (vs ++ dvs)) (upd H1 a (exo a C none))
    (fun v H2 => v = .non ∧ Q (.ref a) H2) (fun _ _ _ => False)
theorem pe_mkv {CX : CXT} {x : Str} {C fI : Addr} {k : Nat} {fd : FuncData} {ps : List Str} {sp : Sp}
    {ds : List Value} {dvs : List V} {e : Expr} {es : List Expr} {ta : TA} {p pos : Pos}
    (T : OexC X.K C) (iC : PySem.W.findIn X.K (.ref C) "__init__" = some (some (.ref fI)))
    (tI : PySem.W.typeIn X.K (.ref fI) = some (.type "function"))
    (F : FnOk X.prog X.w X.K X.mg X.base CX k fI fd ps sp) (hr : Room (k + 1) X.A)
    (hb : Binds X.K fd ps ds) (hd : Vals dvs ds) (hx : Passes CX X (fun _ _ _ => False))
    (hg : Gl X x) (hm : X.mg x = some (.ref C)) (ha : PA X (e :: es) ta)
    (hdb : (x == ("__debug__" : Str)) = false := by decide)
    (he : starEach (e :: es) X.env = (false, eval e X.env) :: starEach es X.env := by rfl)
    (hpl : (backTo pos (starEach es X.env)).any (·.1) = false := by rfl) :
    PE X (.Call (.Name x p) (e :: es) [] pos) (tMkV C sp dvs ta) := by
  constructor
  intro pins s σ H Q I h
  obtain ⟨nm, q, N, bs, bm, sn, sub, ab, col, dd, k0, k1, k2, k3, k5, hC, hbm⟩ := T.cls
  refine wpAny_Call_Name_kw (ld_glob I hg hm ?_ hdb)
  refine PySem.W.callWith_K (h₀ := X.base) I.ok.mod.kin T.kC ?_ he hpl
  refine thn (ha.run pos pins s σ H _ I h) ?_
  rintro us s1 ⟨vs, H1, I1, r1, hz, q1⟩
  refine ⟨I1.kIn, ?_⟩
  show wpAny _ _ (call (.ref C) us) _ _ _
  obtain ⟨hp, g, dr, tk, os⟩ := s1
  let a := hp.objs.size + 1
  let h2 : Heap := (hp.push (PySem.W.kdv_tup us)).push (PySem.HandSPX.excO C hp.objs.size)
  have hn : H1 a = none := I1.hok.fresh (Nat.le_succ _)
  have kk : ∀ b o, hp.get? b = some o → h2.get? b = some o := fun b o e =>
    Heap.get?_push_of_some _ (Heap.get?_push_of_some _ e)
  have hget : h2.get? a = some (PySem.HandSPX.excO C hp.objs.size) := by
    show ((hp.push _).push _).get? (hp.objs.size + 1) = _
    heap_get
  have I2 : Inv X pins σ (upd H1 a (exo a C none)) ⟨h2, g, dr, tk, os⟩ :=
    I1.laid (t' := tk) (a := a) (o := exo a C none) (h' := h2) kk (Nat.le_succ _) (exo_ok hget)
  have r2 : Vals (V.ref a :: (vs ++ dvs)) (Value.ref a :: (us ++ ds)) := .cons rfl (r1.append hd)
  have hq := q1 a hn
  have hl : (Value.ref a :: us ++ ds).length = ps.length := r2.length.symm.trans (F.len _ _ _ _ hq)
  have hus : us.length ≤ sizeLine := by
    rw [← Paired.length r1, sizeLine_eq]
    omega
  have run := F.run _ X.stack _ _ ⟨Value.ref a :: us, []⟩ (Value.ref a :: (us ++ ds)) _ _
    (fun _ _ _ => False) (hr.make C us []) (I2.env0.make C us [])
    (hb _ (Value.ref a :: us) I2.kIn hl) r2 hq
  refine wpAny_call (PySem.HandSPX.call_own PySem.F.excBase_ValueError
    (fun Y => PySem.HandSPX.refsVE_contains Y bm hbm) (I1.kIn _ _ hC)
    (PySem.W.looks_findIn I1.kIn iC) (fun self => PySem.W.bind_fn I1.kIn self tI) hus
    (codeAny_mono run ?_))
  intro r s' hq'
  match r, hq' with
  | .error er, hq' => exact hx pins σ _ _ er s' I2 hq'
  | .ok (.ret u), hq' =>
    obtain ⟨v, H2, J, rv, ev, q2⟩ := I2.after hq'
    subst ev
    exact ⟨rv, .ref a, H2, J, rfl, q2⟩
/-- C(), a class without its own __init__ -/
def tMk0 (C : Addr) : TE := fun _ H Q => ∀ a, H a = none → Q (.ref a) (upd H a (exv a C none))
theorem pe_mk0 {C : Addr} {bmB : List Value} {B newId initId : String} {x : Str} {p pos : Pos}
    (F : ExcBaseFacts B newId initId bmB) (q : PySem.W.excIn X.K C bmB newId = true)
    (gC : X.mg x = some (.ref C)) (kC : PySem.W.keepIn X.K (.ref C) = true) (hg : Gl X x)
    (hdb : (x == ("__debug__" : Str)) = false := by decide) :
    PE X (.Call (.Name x p) [] [] pos) (tMk0 C) := by
  constructor
  intro pins s σ H Q I h
  refine wpAny_Call_Name_kw (ld_glob I hg gC ?_ hdb)
  refine PySem.W.callWith_K0 I.kIn kC ?_
  show wpAny _ _ (call (.ref C) []) _ _ _
  obtain ⟨bm, N, nm, qn, bs, hdct, sn, sub, ab, col, dd, k0, k1, k2, k3, k5, mN, hC, hN, hni, T⟩ :=
    exc_obj I.kIn q
  refine wpAny_call_exc_subT F T hC hN hni ?_ (Nat.zero_le _)
  intro h' a hm
  have hn : H a = none := I.hok.gone hm.new
  obtain ⟨t, ht, _, _⟩ := hm.there
  exact ⟨.ref a, upd H a (exv a C none), I.laidN hm.keeps hm.new hn
    (exv_ok ht ⟨rfl, rfl⟩ ⟨_, rfl⟩), rfl, h a hn⟩
end
end Q
set_option Elab.async false
set_option linter.all false
set_option maxRecDepth 100000
set_option maxHeartbeats 4000000
namespace Q
open PySem PySem.Spec PyProof.Rows L2

/-! ### data in the heap, with dicts, and how repr writes it -/
mutual
inductive Rk (h : Heap) : Value → PyData → Prop
  | none : Rk h .none .none
  | bool (b : Bool) : Rk h (.bool b) (.bool b)
  | int (i : Int) (t : Tok) : Rk h (.int i t) (.int i)
  | str (x : Str) (t : Tok) : Rk h (.str x t) (.str x)
  | list {a : Addr} {o : Obj} {vs : Array Value} {n : Nat} {xs : List PyData} : h.get? a = some o →
      o.cls = .type "list" → o.data = .seq vs n → RkAll h vs.toList xs → Rk h (.ref a) (.list xs)
  | tuple {a : Addr} {o : Obj} {vs : Array Value} {n : Nat} {xs : List PyData} : h.get? a = some o →
      o.cls = .type "tuple" → o.data = .seq vs n → RkAll h vs.toList xs → Rk h (.ref a) (.tuple xs)
  | dict {a : Addr} {o : Obj} {es : Array DictEntry} {n : Nat} {kvs : List (PyData × PyData)} :
      h.get? a = some o → o.cls = .type "dict" → o.data = .dict es n → (a == sysModules) = false →
      RkAll h (es.toList.map (·.key)) (kvs.map (·.1)) → RkAll h (es.toList.map (·.val)) (kvs.map (·.2)) →
      Rk h (.ref a) (.dict kvs)
inductive RkAll (h : Heap) : List Value → List PyData → Prop
  | nil : RkAll h [] []
  | cons {v : Value} {vs : List Value} {d : PyData} {ds : List PyData} : Rk h v d → RkAll h vs ds →
      RkAll h (v :: vs) (d :: ds)
end
mutual
theorem Rk.reads {h : Heap} : ∀ {v : Value} {d : PyData}, Rk h v d → ∃ as, Reads h v d as
  | _, _, .none => ⟨_, .none⟩
  | _, _, .bool b => ⟨_, .bool b⟩
  | _, _, .int i t => ⟨_, .int i t⟩
  | _, _, .str x t => ⟨_, .str x t⟩
  | _, _, .list h1 h2 h3 h4 => let ⟨_, r⟩ := RkAll.reads h4; ⟨_, .list h1 h2 h3 r⟩
  | _, _, .tuple h1 h2 h3 h4 => let ⟨_, r⟩ := RkAll.reads h4; ⟨_, .tuple h1 h2 h3 r⟩
  | _, _, .dict h1 h2 h3 _ h4 h5 =>
    let ⟨_, r⟩ := RkAll.reads h4
    let ⟨_, q⟩ := RkAll.reads h5
    ⟨_, .dict h1 h2 h3 r q⟩
theorem RkAll.reads {h : Heap} : ∀ {v : List Value} {d : List PyData}, RkAll h v d → ∃ as, ReadsAll h v d as
  | _, _, .nil => ⟨_, .nil⟩
  | _, _, .cons a b =>
    let ⟨_, r⟩ := Rk.reads a
    let ⟨_, q⟩ := RkAll.reads b
    ⟨_, .cons r q⟩
end

section
variable {prog : Program} {w : World} {h₀ : Heap}
abbrev LenOk (x : Str) : Prop := x.length ≤ sizeLine
theorem lt_depth {n m : Nat} (e : m = n + 1) : n < m := by omega
mutual
theorem rk_shown : ∀ {v : Value} {d : PyData}, Rk h₀ v d → d.showable = true → LenOk d.shown →
    ∃ bs, ReadAtMost h₀ d.depth bs ∧ ReprK prog w bs h₀ d.depth v d.shown
  | _, _, .none, _, _ => ⟨[], nofun, by simp only [PyData.shown]; exact .of_is ReprIs.none _ _ _⟩
  | _, _, .bool b, _, _ => ⟨[], nofun, by simp only [PyData.shown]; exact .of_is (ReprIs.bool b) _ _ _⟩
  | _, _, .int i t, hs, _ => by
    have z : i.natAbs.log2 < 1920 := by simpa [PyData.showable] using hs
    exact ⟨[], nofun, by simp only [PyData.shown]; exact .of_is (ReprIs.int t z) _ _ _⟩
  | _, _, .str x t, _, hz => by
    simp only [PyData.shown] at hz ⊢
    exact ⟨[], nofun, .of_is (ReprIs.str x t hz) _ _ _⟩
  | _, _, .list (a := a) (vs := vs) (xs := xs) h1 h2 h3 h4, hs, hz => by
    have r : Rk h₀ (.ref a) (.list xs) := .list h1 h2 h3 h4
    obtain ⟨as, r⟩ := r.reads
    simp only [PyData.shown, PyData.showable] at hz hs
    obtain ⟨bs, hb, hk⟩ := rk_all h4 hs (fun t m => Nat.le_trans (listText_mem_le m) hz)
    have hna : a ∉ bs := not_mem_of_deeper r (lt_depth (by simp only [PyData.depth])) hb
    refine ⟨a :: bs, ReadAtMost.cons r (by simp only [PyData.depth]; omega) hb, ?_⟩
    simp only [PyData.depth, PyData.shown]
    obtain ⟨l⟩ := vs
    match l, h3, h4, hk with
    | [], h3, h4, _ =>
      cases (show RkAll h₀ [] xs from h4)
      simp only [PyData.shownAll, listText_nil]
      exact ReprK.listEmpty h1 h2 h3
    | x :: l, h3, h4, hk =>
      exact ReprK.list h1 h2 h3 hna (by simpa using hk.length_eq) (fun i y e => hk.item i y (by simpa using e))
  | _, _, .tuple (a := a) (xs := xs) h1 h2 h3 h4, hs, hz => by
    have r : Rk h₀ (.ref a) (.tuple xs) := .tuple h1 h2 h3 h4
    obtain ⟨as, r⟩ := r.reads
    simp only [PyData.shown, PyData.showable] at hz hs
    obtain ⟨bs, hb, hk⟩ := rk_all h4 hs (fun t m => Nat.le_trans (tupleText_mem_le m) hz)
    have hna : a ∉ bs := not_mem_of_deeper r (lt_depth (by simp only [PyData.depth])) hb
    refine ⟨a :: bs, ReadAtMost.cons r (by simp only [PyData.depth]; omega) hb, ?_⟩
    simp only [PyData.depth, PyData.shown]
    exact ReprK.tuple h1 h2 h3 hna hk
  | _, _, .dict (a := a) (es := es) (kvs := kvs) h1 h2 h3 hm h4 h5, hs, hz => by
    have r : Rk h₀ (.ref a) (.dict kvs) := .dict h1 h2 h3 hm h4 h5
    obtain ⟨as, r⟩ := r.reads
    simp only [PyData.shown, PyData.showable] at hz hs
    obtain ⟨s1, s2⟩ := PyData.showableKv_split kvs hs
    have le : ∀ p ∈ PyData.shownKv kvs, p.length ≤ sizeLine := fun p m => Nat.le_trans (dictText_mem_le m) hz
    obtain ⟨b1, hb1, k1⟩ := rk_all h4 s1 (fun t m =>
      let ⟨p, hp, hl⟩ := PyData.shownKv_key_le kvs t m; Nat.le_trans hl (le p hp))
    obtain ⟨b2, hb2, k2⟩ := rk_all h5 s2 (fun t m =>
      let ⟨p, hp, hl⟩ := PyData.shownKv_val_le kvs t m; Nat.le_trans hl (le p hp))
    have hb := (hb1.mono (PyData.depthAll_keys_le kvs)).append (hb2.mono (PyData.depthAll_vals_le kvs))
    have hna : a ∉ b1 ++ b2 := not_mem_of_deeper r (lt_depth (by simp only [PyData.depth])) hb
    refine ⟨a :: (b1 ++ b2), ReadAtMost.cons r (by simp only [PyData.depth]; omega) hb, ?_⟩
    simp only [PyData.depth, PyData.shown, PyData.shownKv_eq]
    have e1 := k1.more_le (fun b hb => List.mem_append_left b2 hb) (PyData.depthAll_keys_le kvs)
    have e2 := k2.more_le (fun b hb => List.mem_append_right b1 hb) (PyData.depthAll_vals_le kvs)
    exact ReprK.dict h1 h2 h3 hm hna (ReprEntriesK.of_two es.toList _ _ e1 e2)
theorem rk_all : ∀ {vs : List Value} {ds : List PyData}, RkAll h₀ vs ds → PyData.showableAll ds = true →
    (∀ t ∈ PyData.shownAll ds, LenOk t) → ∃ bs, ReadAtMost h₀ (PyData.depthAll ds) bs ∧
      ReprAllK prog w bs h₀ (PyData.depthAll ds) vs (PyData.shownAll ds)
  | _, _, .nil, _, _ => ⟨[], nofun, by simp only [PyData.shownAll]; exact .nil⟩
  | _, _, .cons (d := d) (ds := ds) r rs, hs, hz => by
    simp only [PyData.showableAll, Bool.and_eq_true] at hs
    simp only [PyData.shownAll] at hz ⊢
    obtain ⟨b1, hb1, k1⟩ := rk_shown r hs.1 (hz _ (List.mem_cons_self ..))
    obtain ⟨b2, hb2, k2⟩ := rk_all rs hs.2 (fun t m => hz t (List.mem_cons_of_mem _ m))
    simp only [PyData.depthAll]
    refine ⟨b1 ++ b2, (hb1.mono (Nat.le_max_left _ _)).append (hb2.mono (Nat.le_max_right _ _)), ?_⟩
    have e1 := (k1.more fun b hb => List.mem_append_left b2 hb).level_le (Nat.le_max_left d.depth (PyData.depthAll ds))
    exact .cons e1 (k2.more_le (fun b hb => List.mem_append_right b1 hb) (Nat.le_max_right _ _))
end

/-- repr(v) of data, no display under way -/
theorem repr_rk {A : Around} {E : Value → Shared → Prop} {s : Shared} {Q : Value → Shared → Prop} {v : Value}
    {d : PyData} (r : Rk s.heap v d) (hs : d.showable = true) (hz : LenOk d.shown) (hg : A.guards = some [])
    (hu : A.units + (d.depth + 1) < cLine)
    (hQ : ∀ h' u tk, (∀ b o, s.heap.get? b = some o → h'.get? b = some o) →
      Q (.str d.shown u) { s with heap := h', toks := tk }) :
    wpAny (model prog w) A (call (.builtin "repr") [v]) Q E s := by
  have same : ∀ u tk, Q (.str d.shown u) { s with toks := tk } := fun u tk => hQ s.heap u tk fun _ _ e => e
  have in1 : A.in1.guards = some [] := hg
  have un1 : ∀ n, A.units + (n + 1 + 1) < cLine → A.in1.units + (n + 1) < cLine := fun n z => by
    show A.units + 1 + (n + 1) < cLine
    omega
  cases r with
  | none =>
    simp only [PyData.shown] at same
    exact PySem.P.repr_of_none (same _ _)
  | bool b =>
    simp only [PyData.shown] at same
    exact PySem.P.repr_of_bool (same _ _)
  | int i t =>
    simp only [PyData.shown] at same
    exact PySem.P.repr_of_int (by simpa [PyData.showable] using hs) (same _ _)
  | str x t =>
    simp only [PyData.shown] at same hz
    exact PySem.P.repr_of_str (same _ _) hz
  | list h1 h2 h3 h4 =>
    rename_i a o vs n xs
    simp only [PyData.shown, PyData.showable, PyData.depth] at hz hs hu hQ same
    obtain ⟨as, rr⟩ := (Rk.list h1 h2 h3 h4).reads
    obtain ⟨bs, hb, hk⟩ := rk_all (prog := prog) (w := w) h4 hs (fun t m => Nat.le_trans (listText_mem_le m) hz)
    have hna : a ∉ bs := not_mem_of_deeper rr (lt_depth (by simp only [PyData.depth])) hb
    refine call_repr_slot (by omega) ⟨o, h1, h2⟩ PySem.F.slot_list_repr.toG ?_
    obtain ⟨l⟩ := vs
    match l, h3, h4, hk with
    | [], h3, h4, _ =>
      cases (show RkAll s.heap [] xs from h4)
      simp only [PyData.shownAll, listText_nil] at same
      exact call_list_repr_empty ⟨o, h1, h2⟩ h1 h3 ⟨_, _, rfl, same _ _⟩
    | x :: l, h3, h4, hk =>
      exact call_list_reprK h1 h2 h3 hna (by simpa using hk.length_eq)
        (fun i y e => hk.item i y (by simpa using e)) in1 (fun b _ => Clear.nil b) (un1 _ hu) (fun _ _ e => e)
        (fun h' u tk k => ⟨_, _, rfl, hQ h' u tk k⟩) hz
  | tuple h1 h2 h3 h4 =>
    rename_i a o vs n xs
    simp only [PyData.shown, PyData.showable, PyData.depth] at hz hs hu hQ same
    obtain ⟨as, rr⟩ := (Rk.tuple h1 h2 h3 h4).reads
    obtain ⟨bs, hb, hk⟩ := rk_all (prog := prog) (w := w) h4 hs (fun t m => Nat.le_trans (tupleText_mem_le m) hz)
    have hna : a ∉ bs := not_mem_of_deeper rr (lt_depth (by simp only [PyData.depth])) hb
    refine call_repr_slot (by omega) ⟨o, h1, h2⟩ PySem.F.slot_tuple_repr ?_
    exact call_tuple_reprK h1 h2 h3 hna hk in1 (fun b _ => Clear.nil b) (un1 _ hu) (fun _ _ e => e)
      (fun h' u tk k => ⟨_, _, rfl, hQ h' u tk k⟩) hz
  | dict h1 h2 h3 hm h4 h5 =>
    rename_i a o es n kvs
    simp only [PyData.shown, PyData.showable, PyData.depth] at hz hs hu hQ same
    obtain ⟨as, rr⟩ := (Rk.dict h1 h2 h3 hm h4 h5).reads
    obtain ⟨s1, s2⟩ := PyData.showableKv_split kvs hs
    have le : ∀ p ∈ PyData.shownKv kvs, p.length ≤ sizeLine := fun p m => Nat.le_trans (dictText_mem_le m) hz
    obtain ⟨b1, hb1, k1⟩ := rk_all (prog := prog) (w := w) h4 s1 (fun t m =>
      let ⟨p, hp, hl⟩ := PyData.shownKv_key_le kvs t m; Nat.le_trans hl (le p hp))
    obtain ⟨b2, hb2, k2⟩ := rk_all (prog := prog) (w := w) h5 s2 (fun t m =>
      let ⟨p, hp, hl⟩ := PyData.shownKv_val_le kvs t m; Nat.le_trans hl (le p hp))
    have hb := (hb1.mono (PyData.depthAll_keys_le kvs)).append (hb2.mono (PyData.depthAll_vals_le kvs))
    have hna : a ∉ b1 ++ b2 := not_mem_of_deeper rr (lt_depth (by simp only [PyData.depth])) hb
    have e1 := k1.more_le (fun b hb => List.mem_append_left b2 hb) (PyData.depthAll_keys_le kvs)
    have e2 := k2.more_le (fun b hb => List.mem_append_right b1 hb) (PyData.depthAll_vals_le kvs)
    refine call_repr_slot (by omega) ⟨o, h1, h2⟩ PySem.F.slot_dict_repr ?_
    rw [PyData.shownKv_eq] at hz
    simp only [PyData.shownKv_eq] at hQ
    exact call_dict_reprK h1 h2 h3 hm hna (ReprEntriesK.of_two es.toList _ _ e1 e2) in1
      (fun b _ => Clear.nil b) (un1 _ hu) (fun _ _ e => e) (fun h' u tk k => ⟨_, _, rfl, hQ h' u tk k⟩) hz
end

/-! ### the same over the abstract heap -/
def keyD : Key → PyData
  | .inl i => .int i
  | .inr x => .str x
mutual
inductive Dd (K : PySem.W.Frag) (H : Hp) : V → PyData → Prop
  | non : Dd K H .non .none
  | bl (b : Bool) : Dd K H (.bl b) (.bool b)
  | int (i : Int) : Dd K H (.int i) (.int i)
  | str (x : Str) : Dd K H (.str x) (.str x)
  | lst {a : Addr} {xs : List V} {ds : List PyData} : SqL K H a xs → DdAll K H xs ds → Dd K H (.ref a) (.list ds)
  | tup {a : Addr} {xs : List V} {ds : List PyData} : SqT K H a xs → DdAll K H xs ds → Dd K H (.ref a) (.tuple ds)
  | dic {a : Addr} {kvs : List (Key × V)} {ps : List (PyData × PyData)} : H a = some (.dK kvs) →
      ps.map (·.1) = kvs.map (fun p => keyD p.1) → DdAll K H (kvs.map (·.2)) (ps.map (·.2)) → Dd K H (.ref a) (.dict ps)
inductive DdAll (K : PySem.W.Frag) (H : Hp) : List V → List PyData → Prop
  | nil : DdAll K H [] []
  | cons {v : V} {vs : List V} {d : PyData} {ds : List PyData} : Dd K H v d → DdAll K H vs ds →
      DdAll K H (v :: vs) (d :: ds)
end
section
variable {X : Cx} {pins : List (Addr × Obj)} {σ : L2.St} {H : Hp} {s : Shared}
theorem keys_rk {h : Heap} : ∀ {kvs : List (Key × V)} {vs : List (Key × Value)} {es : List DictEntry},
    KV kvs vs → Pairs (mixKind X.prog X.w) es vs → RkAll h (es.map (·.key)) (kvs.map fun p => keyD p.1)
  | _, _, _, .nil, .nil => .nil
  | (k, _) :: _, (k', _) :: _, e :: _, .cons hk r, .cons he _ q => by
    obtain ⟨e1, _⟩ := hk
    dsimp only at e1
    subst e1
    refine .cons ?_ (keys_rk r q)
    rcases keyIs_shape he with ⟨i, t, rfl, e2⟩ | ⟨x, t, rfl, e2⟩
    · show Rk h e.key (.int i)
      rw [e2]; exact .int i t
    · show Rk h e.key (.str x)
      rw [e2]; exact .str x t
theorem vals_of {kvs : List (Key × V)} : ∀ {vs : List (Key × Value)} {es : List DictEntry},
    KV kvs vs → Pairs (mixKind X.prog X.w) es vs → Vals (kvs.map (·.2)) (es.map (·.val)) := by
  induction kvs with
  | nil =>
    intro vs es r q
    cases r
    cases q
    exact .nil
  | cons p kvs ih =>
    intro vs es r q
    cases r with
    | cons hk r =>
      cases q with
      | cons _ hv q => exact .cons (by dsimp only; rw [hv]; exact hk.2) (ih r q)
mutual
theorem Dd.rk (I : Inv X pins σ H s) : ∀ {d : PyData} {v : V} {u : Value}, Dd X.K H v d → RelV v u → Rk s.heap u d
  | .none, _, _, .non, r => by cases r; exact .none
  | .bool b, _, _, .bl _, r => by cases r; exact .bool b
  | .int i, _, _, .int _, r => by obtain ⟨t, rfl⟩ := r; exact .int i t
  | .str x, _, _, .str _, r => by obtain ⟨t, rfl⟩ := r; exact .str x t
  | .list ds, _, _, .lst hs ha, r => by
    cases r
    obtain ⟨its, rv, ⟨o, n, ho, hc, _, hd⟩, _⟩ := I.list hs
    exact .list ho hc hd (DdAll.rk I ha rv)
  | .tuple ds, _, _, .tup hs ha, r => by
    cases r
    obtain ⟨its, rv, ⟨o, ho, hc, n, hd⟩, _⟩ := I.tuple hs
    exact .tuple ho hc hd (DdAll.rk I ha rv)
  | .dict ps, _, _, .dic hs hk ha, r => by
    cases r
    obtain ⟨_, hm, vs, kv, o, es, ep, ho, hx, hd, _, hp, _⟩ := I.hok _ _ hs
    refine .dict ho hx.1 hd hm ?_ ?_
    · rw [hk]
      exact keys_rk (X := X) kv hp
    · exact DdAll.rk I ha (vals_of (X := X) kv hp)
theorem DdAll.rk (I : Inv X pins σ H s) : ∀ {ds : List PyData} {vs : List V} {us : List Value},
    DdAll X.K H vs ds → Vals vs us → RkAll s.heap us ds
  | [], _, _, .nil, r => by cases r; exact .nil
  | _ :: _, _, _, .cons h1 h2, r => by
    cases r with
    | cons r1 r2 => exact .cons (Dd.rk I h1 r1) (DdAll.rk I h2 r2)
end
/-- data stays where nothing tracked is changed -/
theorem SqT.same {K : PySem.W.Frag} {H H' : Hp} {a : Addr} {xs : List V} (s : Same H H') (h : SqT K H a xs) :
    SqT K H' a xs := by
  rcases h with (h | ⟨o, h⟩) | h
  · exact .inl (.inl (s _ _ h))
  · exact .inl (.inr ⟨o, s _ _ h⟩)
  · exact .inr h
mutual
theorem Dd.same {K : PySem.W.Frag} {H H' : Hp} (s : Same H H') : ∀ {d : PyData} {v : V}, Dd K H v d → Dd K H' v d
  | _, _, .non => .non
  | _, _, .bl b => .bl b
  | _, _, .int i => .int i
  | _, _, .str x => .str x
  | _, _, .lst h a => .lst (s.seq h) (DdAll.same s a)
  | _, _, .tup h a => .tup (SqT.same s h) (DdAll.same s a)
  | _, _, .dic h k a => .dic (s _ _ h) k (DdAll.same s a)
theorem DdAll.same {K : PySem.W.Frag} {H H' : Hp} (s : Same H H') : ∀ {d : List PyData} {v : List V},
    DdAll K H v d → DdAll K H' v d
  | _, _, .nil => .nil
  | _, _, .cons a b => .cons (Dd.same s a) (DdAll.same s b)
end
/-- what repr can write here -/
structure Shows (d : PyData) : Prop where
  ok : d.showable = true
  len : d.shown.length ≤ sizeLine
  dp : d.depth ≤ 100
/-- repr(x), x data -/
def rRepr (K : PySem.W.Frag) : List V → Hp → VK → Prop := fun xs H Q =>
  ∃ (x : V) (d : PyData), xs = [x] ∧ Dd K H x d ∧ Shows d ∧ Q (.str d.shown) H
theorem call_repr {k : Nat} (hg : X.A.guards = some []) (hr : Room k X.A) :
    CallR X (.builtin "repr") (rRepr X.K) := by
  intro pins s σ H xs us Q I r h
  obtain ⟨x, d, rfl, hd, ⟨h1, h2, h3⟩, q⟩ := h
  obtain ⟨u, rfl, ru⟩ := vals1 r
  have hu : X.A.units + (d.depth + 1) < cLine := by
    have := hr.un
    omega
  exact repr_rk (hd.rk I ru) h1 h2 hg hu fun h' u tk k => ⟨.str d.shown, H, I.kept k, ⟨u, rfl⟩, q⟩
end
end Q
set_option Elab.async false
set_option linter.all false
set_option maxRecDepth 100000
set_option maxHeartbeats 4000000
namespace Q
open PySem PySem.Spec PyProof.Rows L2

section
variable {X : Cx} {pins : List (Addr × Obj)} {σ : L2.St} {H : Hp} {s : Shared} {a : Addr} {o : HO}
/-- an object of this def's own making, so far untracked, is tracked from here on -/
theorem Inv.track (I : Inv X pins σ H s) (n : H a = none) (n0 : X.s_0.heap.get? a = none)
    (nL : a ≠ X.env.locals) (nC : ∀ x c, X.env.cells.lookup x = some c → c ≠ a)
    (nP : ∀ p ∈ X.pn ++ pins, p.1 ≠ a) (new : ObjOk X.prog X.w (upd H a o) s.heap a o) :
    Inv X pins σ (upd H a o) s := by
  have ne0 : ∀ {b ob}, X.s_0.heap.get? b = some ob → b ≠ a := fun e z => by rw [z, n0] at e; cases e
  have neH : ∀ {b u}, H b = some u → b ≠ a := fun e => ne_of_none e n
  obtain ⟨k1, k2, k3, k4, k5, k6, k7⟩ := I.base
  refine ⟨I.ok, I.os, I.bare, ⟨k1, k2, ?_, k4, ?_, ?_, ?_⟩, I.loc, I.cell, ?_, ?_, ?_, ?_, I.len⟩
  · intro b ob e z hx
    rw [upd_ne (ne0 e)]
    exact k3 b ob e z hx
  · intro b xs e
    rw [upd_ne (neH (k5 b xs e))]
    exact k5 b xs e
  · intro b ob u e
    rw [upd_ne (neH (k6 b ob u e))]
    exact k6 b ob u e
  · intro b ps e
    obtain ⟨more, q⟩ := k7 b ps e
    exact ⟨more, by rw [upd_ne (neH q)]; exact q⟩
  · rw [upd_ne (Ne.symm nL)]
    exact I.free
  · intro x c e
    rw [upd_ne (nC x c e)]
    exact I.freeC x c e
  · intro p hp
    obtain ⟨q1, q2, q3⟩ := I.pin p hp
    exact ⟨q1, by rw [upd_ne (nP p hp)]; exact q2, q3⟩
  · intro b u e
    by_cases z : b = a
    · subst z
      rw [upd_same] at e
      cases e
      exact new
    · rw [upd_ne z] at e
      refine (I.hok b u e).stay (fun _ _ _ q => q) (fun c q => ?_) (fun c xs q => ?_)
      · rw [upd_ne (neH q)]
        exact q
      · rw [upd_ne (neH q)]
        exact q
end

/-- what 'except x as n: ..' wishes, the exception kept behind the suite -/
def wKeep (K : PySem.W.Frag) (c : Value) (i : Nat) (ts : Addr → Value → Option Addr → TS) (Wout : WX)
    (D : Ends) : WX := fun cls d σ H =>
  ∃ b, PySem.W.exmOne K cls c = some b ∧
    (b = true → ∃ C, cls = .ref C ∧ ∀ a, H a = none → ts a cls d
      { nx := fun σ' H' => D.nx (σ'.set i none) (upd H' a (exv a C d)),
        rt := fun v H' => D.rt v (upd H' a (exv a C d)) } (σ.set i (some (.ref a))) H) ∧
    (b = false → Wout cls d σ H)
section
variable {X : Cx} {x n : Str} {c : Value} {i : Nat} {body suite : List Stmt} {b₀ : Stmt}
  {np pos pos' : Pos} {tb : WX → TS} {ts : Addr → Value → Option Addr → TS} {Wout : WX}
theorem ps_try_keep (hs : X.stack = X.env :: X.outer) (hf : X.env.frame = some X.env.locals)
    (hex : X.ex = []) (hN : X.N.Nodup) (hi : X.N[i]? = some n) (hln : X.env.kindOf n = some .local)
    (hc : Names X x c) (tk : Takes X Wout)
    (hb : ∀ (W : WX) (pn : List (Addr × Obj)) (xe : Value → Shared → Prop), Takes (X.tr pn xe) W →
      PassesOwn (model X.prog X.w) X.A X.env xe → PSs (X.tr pn xe) body (tb W))
    (hsu : ∀ (a : Addr) (oe : Obj) (cls : Value) (d : Option Addr) (pn : List (Addr × Obj)),
      Zc cls d oe → (∃ vs, oe.data = .fields vs) → PSs (X.suite a ((a, oe) :: pn)) (b₀ :: suite) (ts a cls d)) :
    PS X (.Try body [.ExceptHandler (some (.Name x np)) (some n) (b₀ :: suite) pos'] [] [] pos)
      (fun D σ H => tb (wKeep X.K c i ts Wout D) D σ H) := by
  constructor
  intro pins s σ H D I h
  have ok := I.ok
  have hfr : X.A.frames = some (X.env :: X.outer) := ok.frames.trans (by rw [hs])
  refine wpAny_Try_except ?_
  have run := (hb (wKeep X.K c i ts Wout D) (X.pn ++ pins)
    (fun e s₁ => wpAny (model X.prog X.w) X.A (noteFrame e X.env)
      (fun _ s₂ => wpAny (model X.prog X.w) X.A (setFlight e none)
        (fun _ s₃ => wpAny (model X.prog X.w) X.A
          (handleBy e X.env [.ExceptHandler (some (.Name x np)) (some n) (b₀ :: suite) pos'])
          (SP X pins D) X.xe s₃) X.xe s₂) X.xe s₁) ?caught PassesOwn.looking).run [] s σ H D (I.toTry _) h
  case caught =>
    rintro u s' ⟨a, B, sI, pins', σ', H', cls, d, rfl, J', nb, up, sky, na, os, ag, b, hb1, hyes, hno⟩
    have J : Inv X pins σ' H' sI := J'.ofTry ok
    rw [show (X.tr (X.pn ++ pins) _).stack = X.env :: X.outer from hs] at sky
    show wpAny (model X.prog X.w) X.A (noteFrame (.ref a) X.env) _ _ _
    refine Sky.land Zc.steady hfr hf sky ?_
    intro h3 fl3 up3
    have J3 : Inv X pins σ' H' { s' with heap := h3 } := J.landed nb fl3.1 (up.trans up3) os ag
    obtain ⟨oe3, vs3, he3, hz3, hd3⟩ := fl3.there
    have nfr : a ∉ frs (X.env :: X.outer) := by
      intro hm
      obtain ⟨_, ob, e', hnf⟩ := fl3.2.2.1.mem hm
      rw [he3] at e'
      cases e'
      exact hnf _ hd3
    have nL : a ≠ X.env.locals := fun z => nfr (List.mem_filterMap.mpr ⟨X.env, List.mem_cons_self, hf.trans (by rw [z])⟩)
    have nF : a ∉ X.fs := by
      intro hm
      obtain ⟨e, he, q⟩ := List.mem_filterMap.mp hm
      exact nfr (List.mem_filterMap.mpr ⟨e, List.mem_cons_of_mem _ he, q⟩)
    -- the exception was not there before
    have nB : B.get? a = none := by
      have z := fl3
      exact z.2.1
    have inI : ∀ {e ob}, sI.heap.get? e = some ob → e ∉ frs (X.env :: X.outer) → e ≠ a := by
      rintro e ob q nq rfl
      have q2 := nb e ob q (by show e ∉ frs X.stack; rw [hs]; exact nq)
      rw [nB] at q2
      cases q2
    have n0 : X.s_0.heap.get? a = none := by
      cases q : X.s_0.heap.get? a with
      | none => rfl
      | some ob =>
        obtain ⟨ob2, q2⟩ := J.base.there a ob q (by rw [hex]; exact List.not_mem_nil)
        exact absurd rfl (inI q2 nfr)
    have nP : ∀ p ∈ X.pn ++ pins, p.1 ≠ a := by
      intro p hp
      obtain ⟨q1, _, q3, q4, _⟩ := J.pin p hp
      refine inI q1 ?_
      intro hm
      obtain ⟨e, he, q⟩ := List.mem_filterMap.mp hm
      rcases List.mem_cons.mp he with z | z
      · rw [z, hf] at q
        exact q3 (Option.some.inj q).symm
      · exact q4 (List.mem_filterMap.mpr ⟨e, z, q⟩)
    have S3 := J3.suite he3 hd3 na nL nF
    refine wpAny_handleBy_cons (codeAny_handlers_test ?_) nofun
    have LT : PySem.W.Looks (model X.prog X.w) h3 (typeOf (.ref a)) cls :=
      fun A Q E s k q => wpAny_typeOf_ref (k _ _ he3) (by rw [hz3.1]; exact q)
    have LM := PySem.W.exm_one (M := model X.prog X.w) (J3.kIn) LT hb1
    have test : ∀ {Q : Value → Shared → Prop} {E : Value → Shared → Prop}, Q c { s' with heap := h3 } →
        wpAny (model X.prog X.w) (X.A.mark (some (.ref a))) (eval (.Name x np) X.env) Q E { s' with heap := h3 } := by
      intro Q E q
      obtain ⟨hg, hdbg, hm⟩ := hc
      rcases hm with hm | ⟨hm, hv, hnn⟩
      · exact ld_glob (X := X.suite a ((a, oe3) :: (X.pn ++ pins))) S3 hg hm q hdbg
      · exact ld_blt (X := X.suite a ((a, oe3) :: (X.pn ++ pins))) S3 hg hm hv q hnn hdbg
    refine test (LM.here ?_)
    cases b with
    | true =>
      obtain ⟨C, ec, hyes⟩ := hyes rfl
      subst ec
      refine codeAny_handlers_suite_as (HandSPX.lands_againZ fl3 ?_)
      intro h4 fl4 up4
      have J4 : Inv X pins σ' H' { s' with heap := h4 } := J.landed nb fl4.1 ((up.trans up3).trans up4) os ag
      obtain ⟨oe4, vs4, he4, hz4, hd4⟩ := fl4.there
      have S4 := J4.suite he4 hd4 na nL nF
      refine store_ok (X := X.suite a ((a, oe4) :: (X.pn ++ pins))) (v := .ref a) S4 hN hi (.inl hln) rfl ?_ (.inr hln)
      intro s5 S5
      have suiteRun := (hsu a oe4 (.ref C) d (X.pn ++ pins) hz4 ⟨_, hd4⟩).run [] s5 _ H' _ S5 (hyes a na)
      refine wpAny_mono suiteRun ?_ (fun _ _ z => False.elim z)
      intro f s6 hsp
      have fin : ∀ {σ6 : L2.St} {H6 : Hp} {Q : Shared → Prop},
          Inv (X.suite a ((a, oe4) :: (X.pn ++ pins))) [] σ6 H6 s6 →
          (∀ s7, Inv X pins (σ6.set i none) (upd H6 a (exv a C d)) s7 → Q s7) →
          wpAny (model X.prog X.w) X.A (do bindName X.env n .none; unbindBehindTheSuite X.env n pos')
            (fun _ s7 => Q s7) X.xe s6 := by
        intro σ6 H6 Q S6 hq
        obtain ⟨g1, g2, _⟩ := S6.pin (a, oe4) (List.mem_append.mpr (.inl List.mem_cons_self))
        have U := S6.unsuite ok
        have nC : ∀ y e, X.env.cells.lookup y = some e → e ≠ a := by
          rintro y e q rfl
          obtain ⟨v, ob, q1, q2⟩ := U.cell y e q
          have g1' : s6.heap.get? e = some oe4 := g1
          rw [q1] at g1'
          cases g1'
          rw [hd4] at q2
          cases q2
        have V := Inv.track (o := exv a C d) U g2 n0 nL nC nP (exv_ok g1 hz4 ⟨_, hd4⟩)
        exact gone_ok V hN hi hln hq
      match f, hsp with
      | .next, ⟨σ6, H6, S6, q6⟩ => exact fin S6 fun s7 J7 => ⟨_, _, J7, q6⟩
      | .brk, ⟨σ6, H6, S6, q6⟩ => exact False.elim q6
      | .cont, ⟨σ6, H6, S6, q6⟩ => exact False.elim q6
      | .ret u, ⟨v6, σ6, H6, S6, r6, q6⟩ => exact fin S6 fun s7 J7 => ⟨_, _, _, J7, r6, q6⟩
    | false =>
      show wpAny _ X.A (handleBy (.ref a) X.env []) _ _ _
      refine wpAny_handleBy_nil ?_
      obtain ⟨k1, k2, k3, oe, vs, TT, oT, ts', he, hz, hd, h1, hr⟩ := id fl3
      unfold PySem.passOn
      refine wpAny_bind (wpAny_field he hd h1 ?_)
      rw [if_neg (show ¬ ((Value.ref TT == Value.none) = true) from by simp)]
      have out : wpAny (model X.prog X.w) X.A (setFlight (.ref a) X.env.frame)
          (fun _ s4 => wpAny (model X.prog X.w) X.A (throw (.ref a) : Sem Flow) (SP X pins D) X.xe s4)
          X.xe { s' with heap := h3 } := by
        rw [hf]
        refine HandSPX.setFlight_upZ fl3 ?_
        intro h4 hh4 up4
        refine wpAny_throw (tk _ _ ?_)
        have sky4 : Sky B X.stack a (Zc cls d) X.env.locals h4 := .inr (.inr (by rw [hs]; exact hh4))
        exact ⟨a, B, sI, pins, σ', H', cls, d, rfl, J, nb, (up.trans up3).trans up4, sky4, na, os, ag, hno rfl⟩
      first
        | exact wpAny_bind (wpAny_pure (wpAny_bind out))
        | exact wpAny_bind out
  refine wpAny_mono run ?_ (fun e s1 he => he)
  intro f s1 hsp
  match f, hsp with
  | .next, ⟨σ', H', J', q⟩ => exact wpAny_execs_nil ⟨σ', H', J'.ofTry ok, q⟩
  | .brk, ⟨σ', H', J', q⟩ => exact ⟨σ', H', J'.ofTry ok, q⟩
  | .cont, ⟨σ', H', J', q⟩ => exact ⟨σ', H', J'.ofTry ok, q⟩
  | .ret u, ⟨v, σ', H', J', r, q⟩ => exact ⟨v, σ', H', J'.ofTry ok, r, q⟩
end
/-- repr(e) -/
theorem pe_repr {X : Cx} {k : Nat} {e : Expr} {te : TE} {p pos : Pos} (hgd : X.A.guards = some [])
    (hr : Room k X.A) (hm : X.mg "repr" = none) (ha : PE X e te) (hg : Gl X "repr" := by rfl)
    (h1 : starEach [e] X.env = (false, eval e X.env) :: starEach [] X.env := by rfl)
    (h2 : (backTo pos (starEach [] X.env)).any (·.1) = false := by rfl) :
    PE X (.Call (.Name "repr" p) [e] [] pos) (tCB (rRepr X.K) (tCons te tNil)) :=
  pe_callB (call_repr hgd hr) hg hm (by decide +kernel) (pa_cons ha pa_nil h1) (by decide) (by decide) h1 h2
end Q
set_option Elab.async false
set_option linter.all false
set_option maxRecDepth 100000
set_option maxHeartbeats 4000000
namespace Toy
open PySem L2 Q
def topS (i : Nat) : Stmt := PySem.Challenge.pw_quietturns_k00_errors.main.body.getD i (.Pass ⟨0, 0, 0, 0⟩)
abbrev s_l_pot : Stmt := topS 28
abbrev N_l_pot : List Str := ["_law_script", "_law_k", "_law_cell", "_law_own"]
theorem sc_l_pot : FnScope N_l_pot ["_law_script", "_law_k"] (defScope s_l_pot) := ⟨rfl, rfl, rfl, by decide +kernel, rfl, by decide +kernel, by decide +kernel⟩
abbrev s_l_take : Stmt := topS 29
abbrev N_l_take : List Str := ["_law_pot_here", "_law_upto", "_law_digit", "_law_prime", "_law_stirred"]
theorem sc_l_take : FnScope N_l_take ["_law_pot_here", "_law_upto"] (defScope s_l_take) := ⟨rfl, rfl, rfl, by decide +kernel, rfl, by decide +kernel, by decide +kernel⟩
abbrev s_l_pots : Stmt := topS 30
abbrev N_l_pots : List Str := ["_law_script", "_law_most", "_law_k"]
theorem sc_l_pots : FnScope N_l_pots ["_law_script", "_law_most"] (defScope s_l_pots) := ⟨rfl, rfl, rfl, by decide +kernel, rfl, by decide +kernel, by decide +kernel⟩
abbrev s_l_of : Stmt := topS 31
abbrev N_l_of : List Str := ["_law_pot_here", "_law_some"]
theorem sc_l_of : FnScope N_l_of ["_law_pot_here", "_law_some"] (defScope s_l_of) := ⟨rfl, rfl, rfl, by decide +kernel, rfl, by decide +kernel, by decide +kernel⟩
abbrev s_l_odd : Stmt := topS 32
abbrev N_l_odd : List Str := ["_law_pot_here", "_law_some"]
theorem sc_l_odd : FnScope N_l_odd ["_law_pot_here"] (defScope s_l_odd) := ⟨rfl, rfl, rfl, by decide +kernel, rfl, by decide +kernel, by decide +kernel⟩
abbrev s_l_kinds_of : Stmt := topS 33
abbrev N_l_kinds_of : List Str := ["_law_error", "_law_found"]
theorem sc_l_kinds_of : FnScope N_l_kinds_of ["_law_error"] (defScope s_l_kinds_of) := ⟨rfl, rfl, rfl, by decide +kernel, rfl, by decide +kernel, by decide +kernel⟩
abbrev s_l_with_value : Stmt := topS 34
abbrev N_l_with_value : List Str := ["_law_value", "_law_found"]
theorem sc_l_with_value : FnScope N_l_with_value ["_law_value"] (defScope s_l_with_value) := ⟨rfl, rfl, rfl, by decide +kernel, rfl, by decide +kernel, by decide +kernel⟩
abbrev s_l_is_caught : Stmt := topS 35
abbrev N_l_is_caught : List Str := ["_law_value", "_law_caught", "_law_error"]
theorem sc_l_is_caught : FnScope N_l_is_caught ["_law_value"] (defScope s_l_is_caught) := ⟨rfl, rfl, rfl, by decide +kernel, rfl, by decide +kernel, by decide +kernel⟩
abbrev s_l_fine : Stmt := topS 36
abbrev N_l_fine : List Str := ["_law_pot_here", "_law_value", "_law_other", "_law_errors", "_law_error", "_law_one", "_law_two", "_law_three", "_law_four", "_law_told", "_law_at", "_law_k"]
theorem sc_l_fine : FnScope N_l_fine ["_law_pot_here"] (defScope s_l_fine) := ⟨rfl, rfl, rfl, by decide +kernel, rfl, by decide +kernel, by decide +kernel⟩
abbrev s_law : Stmt := topS 37
abbrev N_law : List Str := ["_law_script", "_law_pot_here"]
theorem sc_law : FnScope N_law ["_law_script"] (defScope s_law) := ⟨rfl, rfl, rfl, by decide +kernel, rfl, by decide +kernel, by decide +kernel⟩

/-- what the written part says of NetError -/
structure ErrN (K : PySem.W.Frag) (mg : Str → Option Value) (C : Addr) : Prop where
  g : mg "NetError" = some (.ref C)
  xL : ∃ nm q N bs sn sub ab col dd k0 k1 k2 k3 k5, K.lookup C = some (excClassObj nm q C N bs PySem.HandSPX.veTail true sn sub ab col dd k0 k1 k2 k3 k5 "ValueError.__new__")
/-- .. and of a class below it -/
structure ErrC (K : PySem.W.Frag) (mg : Str → Option Value) (nm : Str) (C Cn : Addr) : Prop where
  g : mg nm = some (.ref C)
  xL : ∃ nm q N bs sn sub ab col dd k0 k1 k2 k3 k5, K.lookup C = some (excClassObj nm q C N bs (.ref Cn :: PySem.HandSPX.veTail) true sn sub ab col dd k0 k1 k2 k3 k5 "ValueError.__new__")
  sa : PySem.W.findIn K (.ref C) "__setattr__" = some (some (.builtin "object.__setattr__"))
  ga : PySem.W.findIn K (.ref C) "__getattribute__" = some (some (.builtin "BaseException.__getattribute__"))
  gg : PySem.W.findIn K (.ref C) "__getattr__" = some none
  hc : PySem.W.findIn K (.ref C) "__class__" = some (some (.builtin "object.__class__"))
  kC : PySem.W.keepIn K (.ref C) = true
structure Txt (K : PySem.W.Frag) (mg : Str → Option Value) (ca ia fa : Nat → Addr) (fd fi : Nat → FuncData) : Prop where
  n_len : mg "len" = none
  n_abs : mg "abs" = none
  n_max : mg "max" = none
  n_min : mg "min" = none
  n_all : mg "all" = none
  n_repr : mg "repr" = none
  n_isinstance : mg "isinstance" = none
  n_int : mg "int" = none
  n_range : mg "range" = none
  n_enumerate : mg "enumerate" = none
  n_ValueError : mg "ValueError" = none
  hn : PySem.W.specialIn K (.builtin "object.__class__") "__get__" = some (some (.builtin "getset_descriptor.__get__"))
  ht : PySem.W.takesIn K (.builtin "object.__class__") = some true
  cN : ErrN K mg (ca 1)
  inj : ((List.range 26).map fun i => ca (i + 1)).Nodup
  c_BadNet : ErrC K mg "BadNet" (ca 2) (ca 1)
  FI_BadNet : Fun K "__init__" "BadNet.__init__" (inClass (topS 2) 0) (ia 2) (fi 2)
  iC_BadNet : PySem.W.findIn K (.ref (ca 2)) "__init__" = some (some (.ref (ia 2)))
  tI_BadNet : PySem.W.typeIn K (.ref (ia 2)) = some (.type "function")
  no_BadNet_value : PySem.W.findIn K (.ref (ca 2)) "value" = some none
  c_NoRouter : ErrC K mg "NoRouter" (ca 3) (ca 1)
  FI_NoRouter : Fun K "__init__" "NoRouter.__init__" (inClass (topS 3) 0) (ia 3) (fi 3)
  iC_NoRouter : PySem.W.findIn K (.ref (ca 3)) "__init__" = some (some (.ref (ia 3)))
  tI_NoRouter : PySem.W.typeIn K (.ref (ia 3)) = some (.type "function")
  no_NoRouter_value : PySem.W.findIn K (.ref (ca 3)) "value" = some none
  c_BadLink : ErrC K mg "BadLink" (ca 4) (ca 1)
  FI_BadLink : Fun K "__init__" "BadLink.__init__" (inClass (topS 4) 0) (ia 4) (fi 4)
  iC_BadLink : PySem.W.findIn K (.ref (ca 4)) "__init__" = some (some (.ref (ia 4)))
  tI_BadLink : PySem.W.typeIn K (.ref (ia 4)) = some (.type "function")
  no_BadLink_value : PySem.W.findIn K (.ref (ca 4)) "value" = some none
  c_BadLength : ErrC K mg "BadLength" (ca 5) (ca 1)
  FI_BadLength : Fun K "__init__" "BadLength.__init__" (inClass (topS 5) 0) (ia 5) (fi 5)
  iC_BadLength : PySem.W.findIn K (.ref (ca 5)) "__init__" = some (some (.ref (ia 5)))
  tI_BadLength : PySem.W.typeIn K (.ref (ia 5)) = some (.type "function")
  no_BadLength_value : PySem.W.findIn K (.ref (ca 5)) "value" = some none
  c_TooMany : ErrC K mg "TooMany" (ca 6) (ca 1)
  x_TooMany : PySem.W.excIn K (ca 6) [.type "ValueError", .type "Exception", .type "BaseException", .type "object"] "ValueError.__new__" = true
  c_NoLink : ErrC K mg "NoLink" (ca 7) (ca 1)
  FI_NoLink : Fun K "__init__" "NoLink.__init__" (inClass (topS 7) 0) (ia 7) (fi 7)
  iC_NoLink : PySem.W.findIn K (.ref (ca 7)) "__init__" = some (some (.ref (ia 7)))
  tI_NoLink : PySem.W.typeIn K (.ref (ia 7)) = some (.type "function")
  no_NoLink_value : PySem.W.findIn K (.ref (ca 7)) "value" = some none
  c_Unlike : ErrC K mg "Unlike" (ca 8) (ca 1)
  x_Unlike : PySem.W.excIn K (ca 8) [.type "ValueError", .type "Exception", .type "BaseException", .type "object"] "ValueError.__new__" = true
  c_BadShift : ErrC K mg "BadShift" (ca 9) (ca 1)
  FI_BadShift : Fun K "__init__" "BadShift.__init__" (inClass (topS 9) 0) (ia 9) (fi 9)
  iC_BadShift : PySem.W.findIn K (.ref (ca 9)) "__init__" = some (some (.ref (ia 9)))
  tI_BadShift : PySem.W.typeIn K (.ref (ia 9)) = some (.type "function")
  no_BadShift_value : PySem.W.findIn K (.ref (ca 9)) "value" = some none
  c_BadDemands : ErrC K mg "BadDemands" (ca 10) (ca 1)
  FI_BadDemands : Fun K "__init__" "BadDemands.__init__" (inClass (topS 10) 0) (ia 10) (fi 10)
  iC_BadDemands : PySem.W.findIn K (.ref (ca 10)) "__init__" = some (some (.ref (ia 10)))
  tI_BadDemands : PySem.W.typeIn K (.ref (ia 10)) = some (.type "function")
  no_BadDemands_value : PySem.W.findIn K (.ref (ca 10)) "value" = some none
  c_BadMoment : ErrC K mg "BadMoment" (ca 11) (ca 1)
  FI_BadMoment : Fun K "__init__" "BadMoment.__init__" (inClass (topS 11) 0) (ia 11) (fi 11)
  iC_BadMoment : PySem.W.findIn K (.ref (ca 11)) "__init__" = some (some (.ref (ia 11)))
  tI_BadMoment : PySem.W.typeIn K (.ref (ia 11)) = some (.type "function")
  no_BadMoment_value : PySem.W.findIn K (.ref (ca 11)) "value" = some none
  c_Turning : ErrC K mg "Turning" (ca 12) (ca 1)
  FI_Turning : Fun K "__init__" "Turning.__init__" (inClass (topS 12) 0) (ia 12) (fi 12)
  iC_Turning : PySem.W.findIn K (.ref (ca 12)) "__init__" = some (some (.ref (ia 12)))
  tI_Turning : PySem.W.typeIn K (.ref (ia 12)) = some (.type "function")
  no_Turning_destination : PySem.W.findIn K (.ref (ca 12)) "destination" = some none
  c_BadRates : ErrC K mg "BadRates" (ca 13) (ca 1)
  FI_BadRates : Fun K "__init__" "BadRates.__init__" (inClass (topS 13) 0) (ia 13) (fi 13)
  iC_BadRates : PySem.W.findIn K (.ref (ca 13)) "__init__" = some (some (.ref (ia 13)))
  tI_BadRates : PySem.W.typeIn K (.ref (ia 13)) = some (.type "function")
  no_BadRates_value : PySem.W.findIn K (.ref (ca 13)) "value" = some none
  c_BadCaps : ErrC K mg "BadCaps" (ca 14) (ca 1)
  FI_BadCaps : Fun K "__init__" "BadCaps.__init__" (inClass (topS 14) 0) (ia 14) (fi 14)
  iC_BadCaps : PySem.W.findIn K (.ref (ca 14)) "__init__" = some (some (.ref (ia 14)))
  tI_BadCaps : PySem.W.typeIn K (.ref (ia 14)) = some (.type "function")
  no_BadCaps_value : PySem.W.findIn K (.ref (ca 14)) "value" = some none
  c_BadOffers : ErrC K mg "BadOffers" (ca 15) (ca 1)
  FI_BadOffers : Fun K "__init__" "BadOffers.__init__" (inClass (topS 15) 0) (ia 15) (fi 15)
  iC_BadOffers : PySem.W.findIn K (.ref (ca 15)) "__init__" = some (some (.ref (ia 15)))
  tI_BadOffers : PySem.W.typeIn K (.ref (ia 15)) = some (.type "function")
  no_BadOffers_value : PySem.W.findIn K (.ref (ca 15)) "value" = some none
  c_NoEnd : ErrC K mg "NoEnd" (ca 16) (ca 1)
  FI_NoEnd : Fun K "__init__" "NoEnd.__init__" (inClass (topS 16) 0) (ia 16) (fi 16)
  iC_NoEnd : PySem.W.findIn K (.ref (ca 16)) "__init__" = some (some (.ref (ia 16)))
  tI_NoEnd : PySem.W.typeIn K (.ref (ia 16)) = some (.type "function")
  no_NoEnd_value : PySem.W.findIn K (.ref (ca 16)) "value" = some none
  c_BadRows : ErrC K mg "BadRows" (ca 17) (ca 1)
  FI_BadRows : Fun K "__init__" "BadRows.__init__" (inClass (topS 17) 0) (ia 17) (fi 17)
  iC_BadRows : PySem.W.findIn K (.ref (ca 17)) "__init__" = some (some (.ref (ia 17)))
  tI_BadRows : PySem.W.typeIn K (.ref (ia 17)) = some (.type "function")
  no_BadRows_value : PySem.W.findIn K (.ref (ca 17)) "value" = some none
  c_BadEvent : ErrC K mg "BadEvent" (ca 18) (ca 1)
  FI_BadEvent : Fun K "__init__" "BadEvent.__init__" (inClass (topS 18) 0) (ia 18) (fi 18)
  iC_BadEvent : PySem.W.findIn K (.ref (ca 18)) "__init__" = some (some (.ref (ia 18)))
  tI_BadEvent : PySem.W.typeIn K (.ref (ia 18)) = some (.type "function")
  no_BadEvent_value : PySem.W.findIn K (.ref (ca 18)) "value" = some none
  c_NotNow : ErrC K mg "NotNow" (ca 19) (ca 1)
  FI_NotNow : Fun K "__init__" "NotNow.__init__" (inClass (topS 19) 0) (ia 19) (fi 19)
  iC_NotNow : PySem.W.findIn K (.ref (ca 19)) "__init__" = some (some (.ref (ia 19)))
  tI_NotNow : PySem.W.typeIn K (.ref (ia 19)) = some (.type "function")
  no_NotNow_event : PySem.W.findIn K (.ref (ca 19)) "event" = some none
  c_Turned : ErrC K mg "Turned" (ca 20) (ca 1)
  FI_Turned : Fun K "__init__" "Turned.__init__" (inClass (topS 20) 0) (ia 20) (fi 20)
  iC_Turned : PySem.W.findIn K (.ref (ca 20)) "__init__" = some (some (.ref (ia 20)))
  tI_Turned : PySem.W.typeIn K (.ref (ia 20)) = some (.type "function")
  no_Turned_packet : PySem.W.findIn K (.ref (ca 20)) "packet" = some none
  no_Turned_router : PySem.W.findIn K (.ref (ca 20)) "router" = some none
  c_Ring : ErrC K mg "Ring" (ca 21) (ca 1)
  FI_Ring : Fun K "__init__" "Ring.__init__" (inClass (topS 21) 0) (ia 21) (fi 21)
  iC_Ring : PySem.W.findIn K (.ref (ca 21)) "__init__" = some (some (.ref (ia 21)))
  tI_Ring : PySem.W.typeIn K (.ref (ia 21)) = some (.type "function")
  no_Ring_ring : PySem.W.findIn K (.ref (ca 21)) "ring" = some none
  c_NoPacket : ErrC K mg "NoPacket" (ca 22) (ca 1)
  FI_NoPacket : Fun K "__init__" "NoPacket.__init__" (inClass (topS 22) 0) (ia 22) (fi 22)
  iC_NoPacket : PySem.W.findIn K (.ref (ca 22)) "__init__" = some (some (.ref (ia 22)))
  tI_NoPacket : PySem.W.typeIn K (.ref (ia 22)) = some (.type "function")
  no_NoPacket_value : PySem.W.findIn K (.ref (ca 22)) "value" = some none
  c_NothingToUndo : ErrC K mg "NothingToUndo" (ca 23) (ca 1)
  x_NothingToUndo : PySem.W.excIn K (ca 23) [.type "ValueError", .type "Exception", .type "BaseException", .type "object"] "ValueError.__new__" = true
  c_BadText : ErrC K mg "BadText" (ca 24) (ca 1)
  FI_BadText : Fun K "__init__" "BadText.__init__" (inClass (topS 24) 0) (ia 24) (fi 24)
  iC_BadText : PySem.W.findIn K (.ref (ca 24)) "__init__" = some (some (.ref (ia 24)))
  tI_BadText : PySem.W.typeIn K (.ref (ia 24)) = some (.type "function")
  no_BadText_value : PySem.W.findIn K (.ref (ca 24)) "value" = some none
  c_BadRun : ErrC K mg "BadRun" (ca 25) (ca 1)
  FI_BadRun : Fun K "__init__" "BadRun.__init__" (inClass (topS 25) 0) (ia 25) (fi 25)
  iC_BadRun : PySem.W.findIn K (.ref (ca 25)) "__init__" = some (some (.ref (ia 25)))
  tI_BadRun : PySem.W.typeIn K (.ref (ia 25)) = some (.type "function")
  no_BadRun_value : PySem.W.findIn K (.ref (ca 25)) "value" = some none
  c_BadLine : ErrC K mg "BadLine" (ca 26) (ca 1)
  FI_BadLine : Fun K "__init__" "BadLine.__init__" (inClass (topS 26) 0) (ia 26) (fi 26)
  iC_BadLine : PySem.W.findIn K (.ref (ca 26)) "__init__" = some (some (.ref (ia 26)))
  tI_BadLine : PySem.W.typeIn K (.ref (ia 26)) = some (.type "function")
  no_BadLine_value : PySem.W.findIn K (.ref (ca 26)) "value" = some none
  F_l_pot : Fun K "_law_pot" "_law_pot" s_l_pot (fa 28) (fd 28)
  g_l_pot : mg "_law_pot" = some (.ref (fa 28))
  F_l_take : Fun K "_law_take" "_law_take" s_l_take (fa 29) (fd 29)
  g_l_take : mg "_law_take" = some (.ref (fa 29))
  F_l_pots : Fun K "_law_pots" "_law_pots" s_l_pots (fa 30) (fd 30)
  g_l_pots : mg "_law_pots" = some (.ref (fa 30))
  F_l_of : Fun K "_law_of" "_law_of" s_l_of (fa 31) (fd 31)
  g_l_of : mg "_law_of" = some (.ref (fa 31))
  F_l_odd : Fun K "_law_odd" "_law_odd" s_l_odd (fa 32) (fd 32)
  g_l_odd : mg "_law_odd" = some (.ref (fa 32))
  F_l_kinds_of : Fun K "_law_kinds_of" "_law_kinds_of" s_l_kinds_of (fa 33) (fd 33)
  g_l_kinds_of : mg "_law_kinds_of" = some (.ref (fa 33))
  F_l_with_value : Fun K "_law_with_value" "_law_with_value" s_l_with_value (fa 34) (fd 34)
  g_l_with_value : mg "_law_with_value" = some (.ref (fa 34))
  F_l_is_caught : Fun K "_law_is_caught" "_law_is_caught" s_l_is_caught (fa 35) (fd 35)
  g_l_is_caught : mg "_law_is_caught" = some (.ref (fa 35))
  F_l_fine : Fun K "_law_fine" "_law_fine" s_l_fine (fa 36) (fd 36)
  g_l_fine : mg "_law_fine" = some (.ref (fa 36))
  F_law : Fun K "law" "law" s_law (fa 37) (fd 37)
  g_law : mg "law" = some (.ref (fa 37))
section
variable {P : Program} {w : World} {K : PySem.W.Frag} {mg : Str → Option Value} {base : Heap} {ca ia fa : Nat → Addr} {fd fi : Nat → FuncData}
theorem Txt.k_l_pot (T : Txt K mg ca ia fa fd fi) : PySem.W.keepIn K (.ref (fa 28)) = true := T.F_l_pot.kp
theorem Txt.b_l_pot (T : Txt K mg ca ia fa fd fi) : Binds K (fd 28) ["_law_script", "_law_k"] [] :=
  T.F_l_pot.binds (ps := ["_law_script", "_law_k"]) fun _ _ _ _ _ _ us hl => match us, hl with | [_, _], _ => rfl
theorem Txt.k_l_take (T : Txt K mg ca ia fa fd fi) : PySem.W.keepIn K (.ref (fa 29)) = true := T.F_l_take.kp
theorem Txt.b_l_take (T : Txt K mg ca ia fa fd fi) : Binds K (fd 29) ["_law_pot_here", "_law_upto"] [] :=
  T.F_l_take.binds (ps := ["_law_pot_here", "_law_upto"]) fun _ _ _ _ _ _ us hl => match us, hl with | [_, _], _ => rfl
theorem Txt.k_l_pots (T : Txt K mg ca ia fa fd fi) : PySem.W.keepIn K (.ref (fa 30)) = true := T.F_l_pots.kp
theorem Txt.b_l_pots (T : Txt K mg ca ia fa fd fi) : Binds K (fd 30) ["_law_script", "_law_most"] [] :=
  T.F_l_pots.binds (ps := ["_law_script", "_law_most"]) fun _ _ _ _ _ _ us hl => match us, hl with | [_, _], _ => rfl
theorem Txt.k_l_of (T : Txt K mg ca ia fa fd fi) : PySem.W.keepIn K (.ref (fa 31)) = true := T.F_l_of.kp
theorem Txt.b_l_of (T : Txt K mg ca ia fa fd fi) : Binds K (fd 31) ["_law_pot_here", "_law_some"] [] :=
  T.F_l_of.binds (ps := ["_law_pot_here", "_law_some"]) fun _ _ _ _ _ _ us hl => match us, hl with | [_, _], _ => rfl
theorem Txt.k_l_odd (T : Txt K mg ca ia fa fd fi) : PySem.W.keepIn K (.ref (fa 32)) = true := T.F_l_odd.kp
theorem Txt.b_l_odd (T : Txt K mg ca ia fa fd fi) : Binds K (fd 32) ["_law_pot_here"] [] :=
  T.F_l_odd.binds (ps := ["_law_pot_here"]) fun _ _ _ _ _ _ us hl => match us, hl with | [_], _ => rfl
theorem Txt.k_l_kinds_of (T : Txt K mg ca ia fa fd fi) : PySem.W.keepIn K (.ref (fa 33)) = true := T.F_l_kinds_of.kp
theorem Txt.b_l_kinds_of (T : Txt K mg ca ia fa fd fi) : Binds K (fd 33) ["_law_error"] [] :=
  T.F_l_kinds_of.binds (ps := ["_law_error"]) fun _ _ _ _ _ _ us hl => match us, hl with | [_], _ => rfl
theorem Txt.k_l_with_value (T : Txt K mg ca ia fa fd fi) : PySem.W.keepIn K (.ref (fa 34)) = true := T.F_l_with_value.kp
theorem Txt.b_l_with_value (T : Txt K mg ca ia fa fd fi) : Binds K (fd 34) ["_law_value"] [] :=
  T.F_l_with_value.binds (ps := ["_law_value"]) fun _ _ _ _ _ _ us hl => match us, hl with | [_], _ => rfl
theorem Txt.k_l_is_caught (T : Txt K mg ca ia fa fd fi) : PySem.W.keepIn K (.ref (fa 35)) = true := T.F_l_is_caught.kp
theorem Txt.b_l_is_caught (T : Txt K mg ca ia fa fd fi) : Binds K (fd 35) ["_law_value"] [] :=
  T.F_l_is_caught.binds (ps := ["_law_value"]) fun _ _ _ _ _ _ us hl => match us, hl with | [_], _ => rfl
theorem Txt.k_l_fine (T : Txt K mg ca ia fa fd fi) : PySem.W.keepIn K (.ref (fa 36)) = true := T.F_l_fine.kp
theorem Txt.b_l_fine (T : Txt K mg ca ia fa fd fi) : Binds K (fd 36) ["_law_pot_here"] [] :=
  T.F_l_fine.binds (ps := ["_law_pot_here"]) fun _ _ _ _ _ _ us hl => match us, hl with | [_], _ => rfl
theorem Txt.k_law (T : Txt K mg ca ia fa fd fi) : PySem.W.keepIn K (.ref (fa 37)) = true := T.F_law.kp
theorem Txt.b_law (T : Txt K mg ca ia fa fd fi) : Binds K (fd 37) ["_law_script"] [] :=
  T.F_law.binds (ps := ["_law_script"]) fun _ _ _ _ _ _ us hl => match us, hl with | [_], _ => rfl
theorem Txt.bi_BadNet (T : Txt K mg ca ia fa fd fi) : Binds K (fi 2) ["self", "value"] [] :=
  T.FI_BadNet.binds (ps := ["self", "value"]) fun _ _ _ _ _ _ us hl => match us, hl with | [_, _], _ => rfl
theorem Txt.bi_NoRouter (T : Txt K mg ca ia fa fd fi) : Binds K (fi 3) ["self", "value"] [] :=
  T.FI_NoRouter.binds (ps := ["self", "value"]) fun _ _ _ _ _ _ us hl => match us, hl with | [_, _], _ => rfl
theorem Txt.bi_BadLink (T : Txt K mg ca ia fa fd fi) : Binds K (fi 4) ["self", "value"] [] :=
  T.FI_BadLink.binds (ps := ["self", "value"]) fun _ _ _ _ _ _ us hl => match us, hl with | [_, _], _ => rfl
theorem Txt.bi_BadLength (T : Txt K mg ca ia fa fd fi) : Binds K (fi 5) ["self", "value"] [] :=
  T.FI_BadLength.binds (ps := ["self", "value"]) fun _ _ _ _ _ _ us hl => match us, hl with | [_, _], _ => rfl
theorem Txt.bi_NoLink (T : Txt K mg ca ia fa fd fi) : Binds K (fi 7) ["self", "value"] [] :=
  T.FI_NoLink.binds (ps := ["self", "value"]) fun _ _ _ _ _ _ us hl => match us, hl with | [_, _], _ => rfl
theorem Txt.bi_BadShift (T : Txt K mg ca ia fa fd fi) : Binds K (fi 9) ["self", "value"] [] :=
  T.FI_BadShift.binds (ps := ["self", "value"]) fun _ _ _ _ _ _ us hl => match us, hl with | [_, _], _ => rfl
theorem Txt.bi_BadDemands (T : Txt K mg ca ia fa fd fi) : Binds K (fi 10) ["self", "value"] [] :=
  T.FI_BadDemands.binds (ps := ["self", "value"]) fun _ _ _ _ _ _ us hl => match us, hl with | [_, _], _ => rfl
theorem Txt.bi_BadMoment (T : Txt K mg ca ia fa fd fi) : Binds K (fi 11) ["self", "value"] [] :=
  T.FI_BadMoment.binds (ps := ["self", "value"]) fun _ _ _ _ _ _ us hl => match us, hl with | [_, _], _ => rfl
theorem Txt.bi_Turning (T : Txt K mg ca ia fa fd fi) : Binds K (fi 12) ["self", "destination"] [] :=
  T.FI_Turning.binds (ps := ["self", "destination"]) fun _ _ _ _ _ _ us hl => match us, hl with | [_, _], _ => rfl
theorem Txt.bi_BadRates (T : Txt K mg ca ia fa fd fi) : Binds K (fi 13) ["self", "value"] [] :=
  T.FI_BadRates.binds (ps := ["self", "value"]) fun _ _ _ _ _ _ us hl => match us, hl with | [_, _], _ => rfl
theorem Txt.bi_BadCaps (T : Txt K mg ca ia fa fd fi) : Binds K (fi 14) ["self", "value"] [] :=
  T.FI_BadCaps.binds (ps := ["self", "value"]) fun _ _ _ _ _ _ us hl => match us, hl with | [_, _], _ => rfl
theorem Txt.bi_BadOffers (T : Txt K mg ca ia fa fd fi) : Binds K (fi 15) ["self", "value"] [] :=
  T.FI_BadOffers.binds (ps := ["self", "value"]) fun _ _ _ _ _ _ us hl => match us, hl with | [_, _], _ => rfl
theorem Txt.bi_NoEnd (T : Txt K mg ca ia fa fd fi) : Binds K (fi 16) ["self", "value"] [] :=
  T.FI_NoEnd.binds (ps := ["self", "value"]) fun _ _ _ _ _ _ us hl => match us, hl with | [_, _], _ => rfl
theorem Txt.bi_BadRows (T : Txt K mg ca ia fa fd fi) : Binds K (fi 17) ["self", "value"] [] :=
  T.FI_BadRows.binds (ps := ["self", "value"]) fun _ _ _ _ _ _ us hl => match us, hl with | [_, _], _ => rfl
theorem Txt.bi_BadEvent (T : Txt K mg ca ia fa fd fi) : Binds K (fi 18) ["self", "value"] [] :=
  T.FI_BadEvent.binds (ps := ["self", "value"]) fun _ _ _ _ _ _ us hl => match us, hl with | [_, _], _ => rfl
theorem Txt.bi_NotNow (T : Txt K mg ca ia fa fd fi) : Binds K (fi 19) ["self", "event"] [] :=
  T.FI_NotNow.binds (ps := ["self", "event"]) fun _ _ _ _ _ _ us hl => match us, hl with | [_, _], _ => rfl
theorem Txt.bi_Turned (T : Txt K mg ca ia fa fd fi) : Binds K (fi 20) ["self", "packet", "router"] [] :=
  T.FI_Turned.binds (ps := ["self", "packet", "router"]) fun _ _ _ _ _ _ us hl => match us, hl with | [_, _, _], _ => rfl
theorem Txt.bi_Ring (T : Txt K mg ca ia fa fd fi) : Binds K (fi 21) ["self", "ring"] [] :=
  T.FI_Ring.binds (ps := ["self", "ring"]) fun _ _ _ _ _ _ us hl => match us, hl with | [_, _], _ => rfl
theorem Txt.bi_NoPacket (T : Txt K mg ca ia fa fd fi) : Binds K (fi 22) ["self", "value"] [] :=
  T.FI_NoPacket.binds (ps := ["self", "value"]) fun _ _ _ _ _ _ us hl => match us, hl with | [_, _], _ => rfl
theorem Txt.bi_BadText (T : Txt K mg ca ia fa fd fi) : Binds K (fi 24) ["self", "value"] [] :=
  T.FI_BadText.binds (ps := ["self", "value"]) fun _ _ _ _ _ _ us hl => match us, hl with | [_, _], _ => rfl
theorem Txt.bi_BadRun (T : Txt K mg ca ia fa fd fi) : Binds K (fi 25) ["self", "value"] [] :=
  T.FI_BadRun.binds (ps := ["self", "value"]) fun _ _ _ _ _ _ us hl => match us, hl with | [_, _], _ => rfl
theorem Txt.bi_BadLine (T : Txt K mg ca ia fa fd fi) : Binds K (fi 26) ["self", "value"] [] :=
  T.FI_BadLine.binds (ps := ["self", "value"]) fun _ _ _ _ _ _ us hl => match us, hl with | [_, _], _ => rfl
end
end Toy
set_option Elab.async false
set_option linter.all false
set_option maxRecDepth 100000
set_option maxHeartbeats 4000000
namespace Toy
open PySem L2 Q

/-! ### pots -/
abbrev potL (o s c : Int) : List V := [.int o, .int s, .int c]
/-- a pot at p, at most B draws of its second kind so far -/
def Pot (H : Hp) (p : Addr) (B : Nat) : Prop := ∃ o s c : Int, H p = some (.lst (potL o s c)) ∧ 0 ≤ o ∧ 0 ≤ s ∧
  s < 2305843009213693952 ∧ 0 ≤ c ∧ c ≤ (B : Int)
/-- all that is tracked but the pot at p is kept -/
def But (p : Addr) (H H' : Hp) : Prop := ∀ b o, b ≠ p → H b = some o → H' b = some o
theorem But.refl (p : Addr) (H : Hp) : But p H H := fun _ _ _ e => e
theorem But.trans {p : Addr} {H H1 H2 : Hp} (a : But p H H1) (b : But p H1 H2) : But p H H2 := fun c o n e => b c o n (a c o n e)
theorem But.of {p : Addr} {H H' : Hp} (s : Same H H') : But p H H' := fun b o _ e => s b o e
theorem Pot.mono {H : Hp} {p : Addr} {B B' : Nat} (h : Pot H p B) (l : B ≤ B') : Pot H p B' := by
  obtain ⟨o, s, c, e, h1, h2, h3, h4, h5⟩ := h
  exact ⟨o, s, c, e, h1, h2, h3, h4, by omega⟩
theorem Pot.same {H H' : Hp} {p : Addr} {B : Nat} (h : Pot H p B) (e : Same H H') : Pot H' p B := by
  obtain ⟨o, s, c, q, r⟩ := h
  exact ⟨o, s, c, e _ _ q, r⟩
theorem same_new {H : Hp} {a : Addr} {o : HO} (n : H a = none) : Same H (upd H a o) := fun b u e => by
  rw [upd_ne (ne_of_none e n)]
  exact e
theorem but_upd {H : Hp} {a : Addr} {o : HO} : But a H (upd H a o) := fun b u n e => by rw [upd_ne n]; exact e
/-- items read -/
theorem ixl {K : PySem.W.Frag} {H : Hp} {p : Addr} {xs : List V} {z : V} {Q : VK} (j : Nat) (h : SqL K H p xs)
    (e : xs[j]? = some z) (q : Q z H) : rIx K (.ref p) (.int (j : Int)) H Q :=
  .inl ⟨p, xs, (j : Int), z, rfl, rfl, h, atI_nat e, q⟩
theorem emod_lt31 {a b : Int} (hb : 0 < b) (h : b < 2147483648) : 0 ≤ a % b ∧ a % b < 2147483648 :=
  ⟨Int.emod_nonneg _ (by omega), Int.lt_trans (Int.emod_lt_of_pos _ hb) h⟩
theorem modN (a : Int) {n : Int} (hn : 0 < n) : ∃ d : Nat, a % n = (d : Int) ∧ (d : Int) < n := by
  obtain ⟨d, hd⟩ := Int.eq_ofNat_of_zero_le (Int.emod_nonneg a (show n ≠ 0 by omega))
  exact ⟨d, hd, hd ▸ Int.emod_lt_of_pos a hn⟩

/-- an assignment, its value's reading apart -/
theorem asg {te : TE} {g : TG} {D : Ends} {σ : L2.St} {H : Hp} (P : V → Hp → Prop)
    (h : ∀ Q : VK, (∀ v H', P v H' → Q v H') → te σ H Q) (k : ∀ v H', P v H' → g v σ H' D.nx) : tAsg te g D σ H := h _ k
theorem seqA {te : TE} {g : TG} {u : TS} {D : Ends} {σ : L2.St} {H : Hp} (P : V → Hp → Prop)
    (h : ∀ Q : VK, (∀ v H', P v H' → Q v H') → te σ H Q) (k : ∀ v H', P v H' → g v σ H' (u D)) : tSeq (tAsg te g) u D σ H := h _ k
theorem seqS {te : TE} {i : Nat} {u : TS} {D : Ends} {σ : L2.St} {H : Hp} (P : V → Hp → Prop)
    (h : ∀ Q : VK, (∀ v H', P v H' → Q v H') → te σ H Q) (k : ∀ v H', P v H' → u D (σ.set i (some v)) H') : tSeq (tAsg te (gName i)) u D σ H := h _ k
theorem ret {te : TE} {D : Ends} {σ : L2.St} {H : Hp} (P : V → Hp → Prop)
    (h : ∀ Q : VK, (∀ v H', P v H' → Q v H') → te σ H Q) (k : ∀ v H', P v H' → D.rt v H') : tRet te D σ H := h _ k
theorem nxt {f : L2.St → Hp → Prop} {rt : VK} {bk ct : L2.St → Hp → Prop} {σ : L2.St} {H : Hp} (h : f σ H) : Ends.nx ⟨f, rt, bk, ct⟩ σ H := h
theorem stepH {α : Type} {G : α → Hp → Prop} {σ : α} {H0 : Hp} (P : Hp → Prop) (h : P H0) (k : ∀ H', P H' → G σ H') : G σ H0 := k H0 h
abbrev primes : List V := [.int 2147483647, .int 2147483629, .int 2147483587, .int 2147483579, .int 2147483563]
theorem prime_at {d : Nat} (h : d < 5) : ∃ pr : Int, primes[d]? = some (.int pr) ∧ 0 < pr ∧ pr < 2147483648 := by
  match d, h with
  | 0, _ => exact ⟨_, rfl, by decide, by decide⟩
  | 1, _ => exact ⟨_, rfl, by decide, by decide⟩
  | 2, _ => exact ⟨_, rfl, by decide, by decide⟩
  | 3, _ => exact ⟨_, rfl, by decide, by decide⟩
  | 4, _ => exact ⟨_, rfl, by decide, by decide⟩
theorem mulOk {i j : Int} (hi : i.natAbs < 2 ^ 64) (hj : j.natAbs < 2 ^ 64) : CMulW i j :=
  wide_mul hi hj (by decide) (by decide) (by decide)
/-- _law_take(pot, n): some number from 0 below n -/
def spTake (K : PySem.W.Frag) : Sp := fun vs H Q _ => ∃ (p : Addr) (n : Int) (B : Nat), vs = [.ref p, .int n] ∧ Pot H p B ∧
  0 < n ∧ n < 1073741824 ∧ B < 1000000 ∧
  ∀ (d : Nat) (H' : Hp), (d : Int) < n → But p H H' → Pot H' p (B + 1) → Q (.int d) H'
theorem pw_bound {s c : Int} (h1 : 0 ≤ s) (h2 : s < 2305843009213693952) (h3 : 0 ≤ c) (h4 : c ≤ 1000001) :
    (s + 99989 * c * c + 71).natAbs < 2 ^ 64 := by
  have h5 : 99989 * c * c ≤ 99989 * 1000001 * 1000001 := by
    have a : 99989 * c ≤ 99989 * 1000001 := by omega
    exact Int.le_trans (Int.mul_le_mul_of_nonneg_right a h3) (Int.mul_le_mul_of_nonneg_left h4 (by omega))
  have h6 : 0 ≤ 99989 * c * c := Int.mul_nonneg (by omega) h3
  omega
section
variable {P : Program} {w : World} {K : PySem.W.Frag} {mg : Str → Option Value} {base : Heap} {ca ia fa : Nat → Addr} {fd fi : Nat → FuncData}
theorem ok_take (T : Txt K mg ca ia fa fd fi) : FnOk P w K mg base CX0 1 (fa 29) (fd 29) ["_law_pot_here", "_law_upto"] (spTake K) := by
  refine T.F_l_take.ok sc_l_take (fun vs H Q E h => ?_) (fun cdv A outer s H vs Q E hr h => ?_)
  · obtain ⟨p, n, B, rfl, _⟩ := h
    rfl
  · obtain ⟨p, n, B, rfl, ⟨o, sd, c, hp, h1, h2, h3, h4, h5⟩, hn, hn2, hB, k⟩ := h
    refine ⟨_, (pss_cons (ps_if (pt_cmpR op_gt (pe_ix ix_seq (pv 0) pe_int (fun _ _ => rfl)) pe_int (nomark _)) (pss_cons (ps_set (i := 2) sc_l_take.nd rfl (Or.inl rfl) (pe_op op_mod (pe_callTy call_int1 (by rfl) T.n_int (by decide +kernel) (pa_cons (pe_ix ix_seq (pv 0) pe_int (fun _ _ => rfl)) pa_nil)) (pv 1)))
      (pss_cons (ps_asg (pe_op op_fdiv (pe_ix ix_seq (pv 0) pe_int (fun _ _ => rfl)) (pv 1)) (pg_sub (pv 0) pe_int set_list))
      (pss_one (ps_ret (pv 2))))) pss_nil)
      (pss_cons (ps_asg (pe_op op_add (pe_ix ix_seq (pv 0) pe_int (fun _ _ => rfl)) pe_int) (pg_sub (pv 0) pe_int set_list))
      (pss_cons (ps_set (i := 3) sc_l_take.nd rfl (Or.inl rfl) (pe_ix ix_seq (pe_lst (pa_cons pe_int (pa_cons pe_int (pa_cons pe_int (pa_cons pe_int (pa_cons pe_int pa_nil)))))) (pe_op op_mod (pe_callTy call_int1 (by rfl) T.n_int (by decide +kernel) (pa_cons (pe_ix ix_seq (pv 0) pe_int (fun _ _ => rfl)) pa_nil)) pe_int) (fun _ _ => rfl)))
      (pss_cons (ps_set (i := 4) sc_l_take.nd rfl (Or.inl rfl) (pe_op op_mod (pe_callTy call_int1 (by rfl) T.n_int (by decide +kernel) (pa_cons (pe_op op_pw (pe_callTy call_int1 (by rfl) T.n_int (by decide +kernel) (pa_cons (pe_op op_add (pe_op op_add (pe_ix ix_seq (pv 0) pe_int (fun _ _ => rfl)) (pe_op op_mulW (pe_op op_mulW pe_int (pe_ix ix_seq (pv 0) pe_int (fun _ _ => rfl))) (pe_ix ix_seq (pv 0) pe_int (fun _ _ => rfl)))) pe_int) pa_nil)) pe_int) pa_nil)) (pv 3)))
      (pss_cons (ps_set (i := 4) sc_l_take.nd rfl (Or.inl rfl) (pe_op op_mod (pe_callTy call_int1 (by rfl) T.n_int (by decide +kernel) (pa_cons (pe_op op_mulW (pv 4) (pe_op op_add (pe_op op_mod (pe_callTy call_int1 (by rfl) T.n_int (by decide +kernel) (pa_cons (pv 4) pa_nil)) pe_int) (pe_op op_mulW pe_int (pe_ix ix_seq (pv 0) pe_int (fun _ _ => rfl))))) pa_nil)) pe_int))
      (pss_one (ps_ret (pe_op op_mod (pe_callTy call_int1 (by rfl) T.n_int (by decide +kernel) (pa_cons (pe_op op_fdiv (pv 4) pe_int) pa_nil)) (pv 1))))))))), ?_⟩
    refine ⟨_, rfl, ixl 0 (SqL.of hp) rfl ⟨_, _, rfl, rfl, _, rfl, ite2 (fun ho => ?_) (fun ho => ?_)⟩⟩
    · have ho : 0 < o := of_decide_eq_true ho
      refine ⟨_, rfl, ixl 0 (SqL.of hp) rfl (.inl ⟨_, rfl, _, rfl, _, _, rfl, rfl, by omega, ?_⟩)⟩
      refine ⟨_, rfl, ixl 0 (SqL.of hp) rfl ⟨_, rfl, _, _, rfl, rfl, ⟨hn, hn2⟩, ?_⟩⟩
      refine ⟨_, rfl, p, _, 0, 0, rfl, rfl, hp, rfl, ?_⟩
      refine ⟨_, rfl, ?_⟩
      obtain ⟨d, hd, hl⟩ := modN o hn
      show Q (.int (o % n)) _
      rw [hd]
      exact k d _ hl but_upd ⟨o / n, sd, c, upd_same, Int.ediv_nonneg h1 (by omega), h2, h3, h4, by omega⟩
    · have ho : ¬ 0 < o := fun z => ho (decide_eq_true z)
      -- the counter goes up
      refine ⟨_, rfl, ixl 2 (SqL.of hp) rfl ⟨_, _, rfl, rfl, _, rfl, p, _, 2, 2, rfl, rfl, hp, rfl, ?_⟩⟩
      refine stepH (fun H1 => H1 p = some (.lst (potL o sd (c + 1))) ∧ But p H H1) ⟨upd_same, but_upd⟩ ?_
      rintro H1 ⟨e1, b1⟩
      -- the prime
      refine nxt ?_
      refine seqA (fun v H2 => (∃ pr : Int, v = .int pr ∧ 0 < pr ∧ pr < 2147483648) ∧ H2 p = some (.lst (potL o sd (c + 1))) ∧ But p H H2) (fun Q k => ?_) ?_
      · refine ⟨by show 5 ≤ sizeLine; decide, fun l hl => ?_⟩
        refine ⟨_, rfl, ixl 2 (SqL.of (same_new hl _ _ e1)) rfl (.inl ⟨_, rfl, _, _, rfl, rfl, (show (0 : Int) < 5 by decide), ?_⟩)⟩
        obtain ⟨d, hd, hl5⟩ := modN (c + 1) (show (0 : Int) < 5 by decide)
        obtain ⟨pr, hpr, p0, p1⟩ := prime_at (show d < 5 by omega)
        show rIx K (.ref l) (.int ((c + 1) % 5)) _ Q
        rw [hd]
        exact ixl d (SqL.of upd_same) hpr (k _ _ ⟨⟨pr, rfl, p0, p1⟩, same_new hl _ _ e1, b1.trans (But.of (same_new hl))⟩)
      rintro _ H2 ⟨⟨pr, rfl, p0, p1⟩, e2, b2⟩
      -- stirred
      have z0 : 0 ≤ c + 1 := by omega
      have z1 : c + 1 ≤ 1000001 := by omega
      have k1 := mulOk (show (99989 : Int).natAbs < 2 ^ 64 by decide) (show (c + 1).natAbs < 2 ^ 64 by omega)
      have k2 := mulOk (show (99989 * (c + 1)).natAbs < 2 ^ 64 by omega) (show (c + 1).natAbs < 2 ^ 64 by omega)
      have k3 := pw_bound h2 h3 z0 z1
      refine seqA (fun v H3 => H2 = H3 ∧ ∃ s1 : Nat, v = .int (s1 : Int) ∧ (s1 : Int) < 2147483648) (fun Q k => ?_) ?_
      · refine ⟨_, rfl, ixl 1 (SqL.of e2) rfl ⟨_, rfl, ixl 2 (SqL.of e2) rfl ⟨_, _, rfl, rfl, k1, _, rfl, ixl 2 (SqL.of e2) rfl ⟨_, _, rfl, rfl, k2, ?_⟩⟩⟩⟩
        refine ⟨_, _, rfl, rfl, _, _, rfl, rfl, .inl ⟨_, rfl, _, _, rfl, rfl, ⟨by decide, 64, k3, by decide⟩, ?_⟩⟩
        refine .inl ⟨_, rfl, _, rfl, _, _, rfl, rfl, p0, ?_⟩
        obtain ⟨s1, hs1, l1⟩ := modN ((sd + 99989 * (c + 1) * (c + 1) + 71) ^ (3 : Int).toNat) p0
        exact k _ _ ⟨rfl, s1, congrArg V.int hs1, by omega⟩
      rintro _ _ ⟨rfl, s1, rfl, l1⟩
      -- stirred again
      refine seqA (fun v H3 => H2 = H3 ∧ ∃ s1 : Nat, v = .int (s1 : Int)) (fun Q k => ?_) ?_
      · obtain ⟨s2, hs2, l2⟩ := modN (s1 : Int) (show (0 : Int) < 10007 by decide)
        have k4 := mulOk (show (83 : Int).natAbs < 2 ^ 64 by decide) (show (c + 1).natAbs < 2 ^ 64 by omega)
        have k5 := mulOk (show (s1 : Int).natAbs < 2 ^ 64 by omega) (show ((s1 : Int) % 10007 + 83 * (c + 1)).natAbs < 2 ^ 64 by omega)
        refine ⟨_, rfl, _, rfl, .inl ⟨_, rfl, _, _, rfl, rfl, (show (0 : Int) < 10007 by decide), _, rfl, ixl 2 (SqL.of e2) rfl ⟨_, _, rfl, rfl, k4, _, _, rfl, rfl, ?_⟩⟩⟩
        refine ⟨_, _, rfl, rfl, k5, .inl ⟨_, rfl, _, _, rfl, rfl, (show (0 : Int) < 2305843009213693907 by decide), ?_⟩⟩
        obtain ⟨s3, hs3, l3⟩ := modN ((s1 : Int) * ((s1 : Int) % 10007 + 83 * (c + 1))) (show (0 : Int) < 2305843009213693907 by decide)
        exact k _ _ ⟨rfl, s3, congrArg V.int hs3⟩
      rintro _ _ ⟨rfl, s3, rfl⟩
      refine ⟨_, rfl, _, _, rfl, rfl, ⟨by decide, by decide⟩, .inl ⟨_, rfl, _, rfl, _, _, rfl, rfl, hn, ?_⟩⟩
      obtain ⟨s4, hs4, l4⟩ := modN ((s3 : Int) / 103) hn
      show Q (.int (((s3 : Int) / 103) % n)) _
      rw [hs4]
      exact k s4 _ l4 b2 ⟨o, sd, c + 1, e2, h1, h2, h3, z0, by omega⟩
end
end Toy
set_option Elab.async false
set_option linter.all false
set_option maxRecDepth 100000
set_option maxHeartbeats 4000000
namespace Toy
open PySem L2 Q
/-- a sequence that can be drawn from while the pot is at p: its items -/
def Items (K : PySem.W.Frag) (H : Hp) (p : Addr) (x : V) (xs : List V) : Prop :=
  (∃ a, x = .ref a ∧ a ≠ p ∧ SqL K H a xs) ∨ (∃ a, x = .ref a ∧ SqT K H a xs) ∨
    (∃ z : Str, x = .str z ∧ xs = z.cps.toList.map (fun c => V.str ⟨#[c]⟩) ∧ z.length ≤ sizeLine)
theorem seq_but {K : PySem.W.Frag} {p a : Addr} {H H' : Hp} {xs : List V} (b : But p H H') (n : a ≠ p) (h : SqL K H a xs) : SqL K H' a xs := by
  rcases h with (h | ⟨o, h⟩) | h
  · exact .inl (.inl (b _ _ n h))
  · exact .inl (.inr ⟨o, b _ _ n h⟩)
  · exact .inr h
theorem tup_but {K : PySem.W.Frag} {p a : Addr} {H H' : Hp} {xs : List V} (b : But p H H') {q : List V} (hp : H p = some (.lst q)) (h : SqT K H a xs) : SqT K H' a xs := by
  rcases h with (h | ⟨o, h⟩) | h
  · refine .inl (.inl (b _ _ ?_ h))
    rintro rfl
    rw [hp] at h
    cases h
  · refine .inl (.inr ⟨o, b _ _ ?_ h⟩)
    rintro rfl
    rw [hp] at h
    cases h
  · exact .inr h
/-- _law_of(pot, some): one of them -/
def spOf (K : PySem.W.Frag) : Sp := fun vs H Q _ => ∃ (p : Addr) (x : V) (xs : List V) (B : Nat), vs = [.ref p, x] ∧ Pot H p B ∧ B < 1000000 ∧
  Items K H p x xs ∧ 0 < xs.length ∧ xs.length < 1073741824 ∧
  ∀ (d : Nat) (v : V) (H' : Hp), xs[d]? = some v → But p H H' → Pot H' p (B + 1) → Q v H'
/-- _law_pot(script, k): a new pot -/
def spPot (K : PySem.W.Frag) : Sp := fun vs H Q _ => ∃ (a : Addr) (ns : List Int) (k : Nat), vs = [.ref a, .int (k : Int)] ∧ SqL K H a (ns.map V.int) ∧ k < 1000 ∧
  ns.length ≤ 63 ∧ ∀ (p : Addr) (H' : Hp), Same H H' → H p = none → Pot H' p 0 → Q (.ref p) H'
/-- _law_pots(script, n): some new pots, each by itself -/
def spPots (K : PySem.W.Frag) : Sp := fun vs H Q _ => ∃ (a : Addr) (ns : List Int) (n : Nat), vs = [.ref a, .int (n : Int)] ∧ SqL K H a (ns.map V.int) ∧ n < 1000 ∧
  ns.length ≤ 63 ∧ ∀ (l : Addr) (ps : List Addr) (H' : Hp), Same H H' → H' l = some (.lst (ps.map V.ref)) → ps.length ≤ 1000 → ps.Nodup → l ∉ ps →
    (∀ p ∈ ps, Pot H' p 0) → Q (.ref l) H'
theorem b01 (b : Bool) : (if b = true then (1 : Int) else 0).natAbs < 2 ^ 4 ∧ (0 : Int) ≤ (if b = true then (1 : Int) else 0) := by
  cases b <;> decide
theorem two60 : (10 : Int) ^ (60 : Int).toNat = 10 ^ 60 := by decide
theorem big_nn : (0 : Int) < ((10 : Int) ^ (60 : Int).toNat) ^ (5 : Int).toNat := by decide +kernel
theorem big_lt {x : Int} (h : x < ((10 : Int) ^ (60 : Int).toNat) ^ (5 : Int).toNat) (h0 : 0 ≤ x) : x.natAbs < 2 ^ 1000 := by
  have e : ((10 : Int) ^ (60 : Int).toNat) ^ (5 : Int).toNat < 2 ^ 1000 := by decide +kernel
  omega
section
variable {P : Program} {w : World} {K : PySem.W.Frag} {mg : Str → Option Value} {base : Heap} {ca ia fa : Nat → Addr} {fd fi : Nat → FuncData}
theorem ok_of (T : Txt K mg ca ia fa fd fi) : FnOk P w K mg base CX0 2 (fa 31) (fd 31) ["_law_pot_here", "_law_some"] (spOf K) := by
  have G_l_take := ok_take (P := P) (w := w) (base := base) T
  refine T.F_l_of.ok sc_l_of (fun vs H Q E h => ?_) (fun cdv A outer s H vs Q E hr h => ?_)
  · obtain ⟨p, x, xs, B, rfl, _⟩ := h
    rfl
  · obtain ⟨p, x, xs, B, rfl, hp, hB, hx, h0, h1, k⟩ := h
    obtain ⟨o, sd, c, hpp, _⟩ := id hp
    refine ⟨_, (pss_one (ps_ret (pe_ix ix_seq (pv 1) (pe_call G_l_take (hr.mono (by decide)) rfl T.g_l_take T.k_l_take T.b_l_take .nil pass0 (pa_cons (pv 0) (pa_cons (pe_callB call_len (by rfl) T.n_len (by decide +kernel) (pa_cons (pv 1) pa_nil)) pa_nil))) (fun _ _ => rfl)))), ?_⟩
    have lenV : LenV K x H xs.length := by
      rcases hx with ⟨a, rfl, _, h⟩ | ⟨a, rfl, h⟩ | ⟨z, rfl, e, hz⟩
      · exact .inl ⟨xs, h, rfl⟩
      · exact .inr ⟨xs, h, rfl⟩
      · refine ⟨hz, ?_⟩
        rw [e, List.length_map]
        rfl
    refine ⟨_, rfl, _, rfl, _, rfl, _, _, rfl, lenV, p, _, B, rfl, hp, by omega, by omega, hB, fun d H' hd hb hp' => ?_⟩
    obtain ⟨v, hv⟩ : ∃ v, xs[d]? = some v := ⟨_, List.getElem?_eq_getElem (show d < xs.length by omega)⟩
    have fin := k d v H' hv hb hp'
    rcases hx with ⟨a, rfl, ne, h⟩ | ⟨a, rfl, h⟩ | ⟨z, rfl, e, hz⟩
    · exact .inl ⟨a, xs, d, v, rfl, rfl, seq_but hb ne h, atI_nat hv, fin⟩
    · exact .inr (.inl ⟨a, xs, d, v, rfl, rfl, tup_but hb hpp h, atI_nat hv, fin⟩)
    · rw [e, List.getElem?_map] at hv
      obtain ⟨c', hc, rfl⟩ := Option.map_eq_some_iff.mp hv
      exact .inr (.inr ⟨z, d, c', rfl, rfl, hz, atI_nat hc, fin⟩)
theorem int_id {i : Int} {H : Hp} {Q : VK} (q : Q (.int i) H) : (∃ j, ([V.int i] : List V) = [V.int j] ∧ Q (.int j) H) ∨ (∃ k, ([V.int i] : List V) = [V.bl k] ∧ Q (.int (if k then 1 else 0)) H) := .inl ⟨i, rfl, q⟩
theorem ok_pot (T : Txt K mg ca ia fa fd fi) : FnOk P w K mg base CX0 1 (fa 28) (fd 28) ["_law_script", "_law_k"] (spPot K) := by
  refine T.F_l_pot.ok sc_l_pot (fun vs H Q E h => ?_) (fun cdv A outer s H vs Q E hr h => ?_)
  · obtain ⟨a, ns, k, rfl, _⟩ := h
    rfl
  · obtain ⟨a, ns, k, rfl, hs, hk, hn, q⟩ := h
    refine ⟨_, (pss_cons (ps_set (i := 2) sc_l_pot.nd rfl (Or.inl rfl) (pe_ifExp (pt_cmpR op_lt (pv 1) (pe_callB call_len (by rfl) T.n_len (by decide +kernel) (pa_cons (pv 0) pa_nil)) (nomark _)) (pe_ix ix_seq (pv 0) (pv 1) (fun _ _ => rfl)) (pe_op op_add (pe_op op_mulW pe_int (pv 1)) pe_int)))
      (pss_cons (ps_set (i := 3) sc_l_pot.nd rfl (Or.inl rfl) (pe_op op_mulW (pe_op op_mod (pe_callTy call_int1 (by rfl) T.n_int (by decide +kernel) (pa_cons (pe_callB call_abs (by rfl) T.n_abs (by decide +kernel) (pa_cons (pv 2) pa_nil)) pa_nil)) (pe_op op_pw (pe_op op_pw pe_int pe_int) pe_int)) (pe_callTy call_int1 (by rfl) T.n_int (by decide +kernel) (pa_cons (pe_cmpR op_ge (pe_callB call_abs (by rfl) T.n_abs (by decide +kernel) (pa_cons (pv 2) pa_nil)) (pe_op op_pw pe_int pe_int) (nomark _)) pa_nil))))
      (pss_one (ps_ret (pe_lst (pa_cons (pv 3) (pa_cons (pe_op op_mod (pe_callTy call_int1 (by rfl) T.n_int (by decide +kernel) (pa_cons (pe_op op_add (pe_op op_add (pe_op op_mulW (pe_op op_mod (pe_callTy call_int1 (by rfl) T.n_int (by decide +kernel) (pa_cons (pv 2) pa_nil)) pe_int) pe_int) (pe_op op_mulW (pe_op op_mulW pe_int (pv 1)) (pv 1))) pe_int) pa_nil)) pe_int) (pa_cons pe_int pa_nil)))))))), ?_⟩
    refine seqS (fun v H' => H = H' ∧ ∃ z : Int, v = .int z) (fun Q k' => ?_) ?_
    · refine ⟨_, rfl, _, rfl, _, _, rfl, .inl ⟨_, hs, rfl⟩, _, _, rfl, rfl, _, rfl, ite2 (fun h => ?_) (fun _ => ?_)⟩
      · have h : (k : Int) < ((ns.map V.int).length : Nat) := of_decide_eq_true h
        rw [List.length_map] at h
        have hz : (ns.map V.int)[k]? = some (.int (ns[k]'(by omega))) := by
          rw [List.getElem?_map, List.getElem?_eq_getElem (by omega)]
          rfl
        exact ⟨_, rfl, _, rfl, ixl k hs hz (k' _ _ ⟨rfl, _, rfl⟩)⟩
      · refine ⟨_, rfl, _, _, rfl, rfl, mulOk (by decide) (by omega), _, _, rfl, rfl, ?_⟩
        exact k' _ _ ⟨rfl, _, rfl⟩
    rintro _ _ ⟨rfl, z, rfl⟩
    have pw1 : CPw 10 60 := ⟨by decide, 4, by decide, by decide⟩
    have pw2 : CPw ((10 : Int) ^ (60 : Int).toNat) 5 := ⟨by decide, 200, by decide +kernel, by decide⟩
    have pw3 : CPw 10 18 := ⟨by decide, 4, by decide, by decide⟩
    refine seqS (fun v H' => H = H' ∧ ∃ z : Int, v = .int z ∧ 0 ≤ z) (fun Q k' => ?_) ?_
    · refine ⟨_, rfl, _, rfl, .inl ⟨_, rfl, _, _, rfl, rfl, pw1, _, _, rfl, rfl, pw2, _, _, rfl, rfl, big_nn, ?_⟩⟩
      obtain ⟨d, hd, hl⟩ := modN (if z < 0 then -z else z) big_nn
      refine ⟨_, rfl, _, rfl, _, _, rfl, rfl, pw3, _, _, rfl, rfl, .inr ⟨_, rfl, ?_⟩⟩
      have ⟨h2, h3⟩ := b01 (decide ((10 : Int) ^ (18 : Int).toNat ≤ if z < 0 then -z else z))
      refine ⟨_, _, rfl, rfl, ?_, ?_⟩
      · show CMulW ((if z < 0 then -z else z) % _) _
        rw [hd]
        exact wide_mul (big_lt hl (by omega)) h2 (by decide) (by decide) (by decide)
      · refine k' _ _ ⟨rfl, _, rfl, ?_⟩
        show 0 ≤ ((if z < 0 then -z else z) % _) * _
        rw [hd]
        exact Int.mul_nonneg (by omega) h3
    rintro _ _ ⟨rfl, own, rfl, hown⟩
    have hp61 : (0 : Int) < 2305843009213693951 := by decide
    obtain ⟨d, hd, hl⟩ := modN z hp61
    have m1 : CMulW (z % 2305843009213693951) 69389 := by
      rw [hd]
      exact mulOk (by omega) (by decide)
    have m2 : CMulW 7561 (k : Int) := mulOk (by decide) (by omega)
    have m3 : CMulW (7561 * (k : Int)) (k : Int) := mulOk (by omega) (by omega)
    refine ⟨_, rfl, _, rfl, .inl ⟨_, rfl, _, _, rfl, rfl, hp61, _, _, rfl, rfl, m1, _, rfl, _, _, rfl, rfl, m2, _, rfl, _, _, rfl, rfl, m3, ?_⟩⟩
    refine ⟨_, _, rfl, rfl, _, _, rfl, rfl, .inl ⟨_, rfl, _, _, rfl, rfl, (show (0 : Int) < 2305843009213693921 by decide), ?_⟩⟩
    refine ⟨by show 3 ≤ sizeLine; decide, fun p hp => ?_⟩
    obtain ⟨d2, hd2, hl2⟩ := modN (z % 2305843009213693951 * 69389 + 7561 * (k : Int) * (k : Int) + 83) (show (0 : Int) < 2305843009213693921 by decide)
    refine q p _ (same_new hp) hp ⟨own, (d2 : Int), 0, ?_, hown, by omega, by omega, by decide, by decide⟩
    rw [← hd2]
    exact upd_same
end
end Toy
set_option Elab.async false
set_option linter.all false
set_option maxRecDepth 100000
set_option maxHeartbeats 4000000
namespace Toy
open PySem L2 Q
section
variable {P : Program} {w : World} {K : PySem.W.Frag} {mg : Str → Option Value} {base : Heap} {ca ia fa : Nat → Addr} {fd fi : Nat → FuncData}
theorem ok_pots (T : Txt K mg ca ia fa fd fi) : FnOk P w K mg base CX0 2 (fa 30) (fd 30) ["_law_script", "_law_most"] (spPots K) := by
  have G_l_pot := ok_pot (P := P) (w := w) (base := base) T
  refine T.F_l_pots.ok sc_l_pots (fun vs H Q E h => ?_) (fun cdv A outer s H vs Q E hr h => ?_)
  · obtain ⟨a, ns, n, rfl, _⟩ := h
    rfl
  · obtain ⟨a, ns, n, rfl, hs, hn, hl, q⟩ := h
    refine ⟨_, (pss_one (ps_ret (pe_lc (own := [("_law_k", 2)]) (g := (gName 2)) (tt := tYes) rfl sc_l_pots.nd (pi_range1 rfl T.n_range (pa_cons (pe_callB (call_max2 rfl) (by rfl) T.n_max (by decide +kernel) (pa_cons pe_int (pa_cons (pe_callB (call_min2 rfl) (by rfl) T.n_min (by decide +kernel) (pa_cons (pe_callTy call_int1 (by rfl) T.n_int (by decide +kernel) (pa_cons (pv 1) pa_nil)) (pa_cons (pe_callB call_len (by rfl) T.n_len (by decide +kernel) (pa_cons (pv 0) pa_nil)) pa_nil))) pa_nil))) pa_nil)) (blkOk_by (own := [("_law_k", 2)]) (N := N_l_pots) (sc := defScope s_l_pots) (by decide +kernel)) (fun _ _ _ _ _ => (pg_name (i := 2) sc_l_pots.nd rfl (Or.inl rfl))) (fun _ _ _ _ _ => pts_nil) (fun _ _ _ _ _ => (pe_call G_l_pot (hr.mono (by decide)) rfl T.g_l_pot T.k_l_pot T.b_l_pot .nil pass0 (pa_cons (pv 0) (pa_cons (pv 2) pa_nil))))))), ?_⟩
    refine ⟨_, rfl, .inl ⟨_, rfl, _, rfl, _, _, rfl, .inl ⟨_, hs, rfl⟩, _, _, rfl, _, _, rfl, ?_⟩⟩
    obtain ⟨m, hm, hm2⟩ : ∃ m : Nat, (if (if ((ns.map V.int).length : Int) < (n : Int) then ((ns.map V.int).length : Int) else (n : Int)) > 1
        then (if ((ns.map V.int).length : Int) < (n : Int) then ((ns.map V.int).length : Int) else (n : Int)) else 1) = (m : Int) ∧ m ≤ 1000 := by
      refine ⟨((if (if ((ns.map V.int).length : Int) < (n : Int) then ((ns.map V.int).length : Int) else (n : Int)) > 1
        then (if ((ns.map V.int).length : Int) < (n : Int) then ((ns.map V.int).length : Int) else (n : Int)) else 1)).toNat, ?_, ?_⟩ <;> repeat' split <;> omega
    rw [hm]
    refine ⟨_, rfl, by omega, by omega, fun D hD => ?_⟩
    refine lc_range (lo := 0) (n := (m : Int).toNat) (fun i H' => ∃ ps : List Addr, ps.length = i ∧ H' D = some (.lst (ps.map V.ref)) ∧ Same H H' ∧ ps.Nodup ∧ D ∉ ps ∧ ∀ p ∈ ps, Pot H' p 0)
      ⟨[], rfl, upd_same, same_new hD, List.nodup_nil, List.not_mem_nil, fun _ z => nomatch z⟩ ?_ ?_
    · rintro i H1 hi ⟨ps, hlen, h1, s1, nd, nD, hp⟩
      refine ⟨rfl, ?_⟩
      dsimp only [tYes]
      rw [if_pos rfl]
      refine ⟨_, rfl, _, rfl, a, ns, i, by rw [Int.zero_add] <;> rfl, s1.seq hs, by omega, hl, fun p H2 s2 np hpot => ?_⟩
      have npD : p ≠ D := fun z => by rw [z, h1] at np; cases np
      have s3 : ∀ {o}, ∀ b u, b ≠ D → H2 b = some u → upd H2 D o b = some u := fun b u n e => by rw [upd_ne n]; exact e
      refine ⟨_, s2 _ _ h1, ?_, ps ++ [p], by simp [hlen], ?_, ?_, ?_, ?_, ?_⟩
      · rw [List.length_map]
        exact small1000 (by omega)
      · rw [upd_same, List.map_append]
        rfl
      · intro b u e
        exact s3 b u (ne_of_none e hD) (s2 _ _ (s1 _ _ e))
      · refine List.nodup_append.mpr ⟨nd, by simp, ?_⟩
        intro x hx y hy e
        have e2 : y = p := by simpa using hy
        subst e2
        obtain ⟨_, _, _, z, _⟩ := hp x hx
        rw [e, np] at z
        cases z
      · intro z
        rcases List.mem_append.mp z with z | z
        · exact nD z
        · exact npD (by simpa using z : D = p).symm
      · intro x hx
        have nx : x ≠ D := by
          rcases List.mem_append.mp hx with z | z
          · rintro rfl
            exact nD z
          · have e2 : x = p := by simpa using z
            rw [e2]
            exact npD
        have px : Pot H2 x 0 := by
          rcases List.mem_append.mp hx with z | z
          · exact (hp x z).same s2
          · have e2 : x = p := by simpa using z
            rw [e2]
            exact hpot
        obtain ⟨o, sd, c, e, r⟩ := px
        exact ⟨o, sd, c, s3 _ _ nx e, r⟩
    · rintro H1 ⟨ps, hlen, h1, s1, nd, nD, hp⟩
      exact q D ps H1 s1 h1 (by omega) nd nD hp
end
end Toy
set_option Elab.async false
set_option linter.all false
set_option maxRecDepth 100000
set_option maxHeartbeats 4000000
namespace Toy
open PySem L2 Q
abbrev oddDs : List PyData := [.none, .bool true, .bool false, .int (-1), .int (-7), .str "", .str "A", .str "a b", .str "abcdefghi", .str "a1",
  .tuple [.none], .tuple [.tuple []], .list [], .list [.str "a"], .dict [], .dict [(.str "a", .int 1)]]
/-- the heap without the pot -/
abbrev off (H : Hp) (p : Addr) : Hp := fun b => if b = p then none else H b
theorem off_at {H : Hp} {p a : Addr} {o : HO} (h : H a = some o) (n : a ≠ p) : off H p a = some o := by
  show (if a = p then none else H a) = some o
  rw [if_neg n]
  exact h
theorem But.off {p : Addr} {H H' : Hp} (b : But p H H') : Same (off H p) (off H' p) := fun a o e => by
  by_cases z : a = p
  · subst z
    have e2 : (if a = a then none else H a) = some o := e
    rw [if_pos rfl] at e2
    cases e2
  · have e2 : (if a = p then none else H a) = some o := e
    rw [if_neg z] at e2
    exact off_at (b a o z e2) z
theorem off_same (H : Hp) (p : Addr) : Same (off H p) H := fun a o e => by
  have e2 : (if a = p then none else H a) = some o := e
  split at e2
  · cases e2
  · exact e2
def spOdd (K : PySem.W.Frag) : Sp := fun vs H Q _ => ∃ (p : Addr) (B : Nat), vs = [.ref p] ∧ Pot H p B ∧ B < 1000000 ∧
  ∀ (v : V) (d : PyData) (H' : Hp), But p H H' → Pot H' p (B + 1) → Dd K (off H' p) v d → d ∈ oddDs → Q v H'
theorem dd_get {K : PySem.W.Frag} {H : Hp} : ∀ {xs : List V} {ds : List PyData} {i : Nat} {v : V}, DdAll K H xs ds → xs[i]? = some v → ∃ d, d ∈ ds ∧ Dd K H v d
  | _, _, 0, _, .cons h _, e => ⟨_, List.mem_cons_self .., by simp at e; subst e; exact h⟩
  | _, _, i + 1, v, .cons _ t, e => by
    obtain ⟨d, m, h⟩ := dd_get (i := i) (v := v) t (by simpa using e)
    exact ⟨d, List.mem_cons_of_mem _ m, h⟩
theorem dd_len {K : PySem.W.Frag} {H : Hp} : ∀ {xs : List V} {ds : List PyData}, DdAll K H xs ds → xs.length = ds.length
  | _, _, .nil => rfl
  | _, _, .cons _ t => by simp [dd_len t]
theorem same_two {H : Hp} {a : Addr} {o u : HO} (n : H a = none) : Same H (upd (upd H a o) a u) := fun b x e => by
  have z := ne_of_none e n
  rw [upd_ne z, upd_ne z]
  exact e
section
variable {P : Program} {w : World} {K : PySem.W.Frag} {mg : Str → Option Value} {base : Heap} {ca ia fa : Nat → Addr} {fd fi : Nat → FuncData}
theorem ok_odd (T : Txt K mg ca ia fa fd fi) : FnOk P w K mg base CX0 3 (fa 32) (fd 32) ["_law_pot_here"] (spOdd K) := by
  have G_l_of := ok_of (P := P) (w := w) (base := base) T
  refine T.F_l_odd.ok sc_l_odd (fun vs H Q E h => ?_) (fun cdv A outer s H vs Q E hr h => ?_)
  · obtain ⟨p, B, rfl, _⟩ := h
    rfl
  · obtain ⟨p, B, rfl, hp, hB, k⟩ := h
    refine ⟨_, (pss_cons (ps_set (i := 1) sc_l_odd.nd rfl (Or.inl rfl) (pe_lst (pa_cons pe_non (pa_cons pe_bl (pa_cons pe_bl (pa_cons (pe_un un_neg pe_int) (pa_cons (pe_un un_neg pe_int) (pa_cons pe_str (pa_cons pe_str (pa_cons pe_str (pa_cons pe_str (pa_cons pe_str (pa_cons (pe_tup (pa_cons pe_non pa_nil)) (pa_cons (pe_tup (pa_cons (pe_tup pa_nil) pa_nil)) (pa_cons (pe_lst pa_nil) (pa_cons (pe_lst (pa_cons pe_str pa_nil)) (pa_cons pe_dnewK (pa_cons (pe_disp (pps_cons pe_str pe_int pps_nil) (by rfl) (by rfl) (fun z => by cases z) (by decide)) pa_nil))))))))))))))))))
      (pss_one (ps_ret (pe_call G_l_of (hr.mono (by decide)) rfl T.g_l_of T.k_l_of T.b_l_of .nil pass0 (pa_cons (pv 0) (pa_cons (pv 1) pa_nil)))))), ?_⟩
    refine seqS (fun v H' => ∃ (l : Addr) (xs : List V), v = .ref l ∧ l ≠ p ∧ Same H H' ∧ H' l = some (.lst xs) ∧ DdAll K (off H' p) xs oddDs) (fun Q k' => ?_) ?_
    · refine ⟨_, rfl, _, rfl, by show 1 ≤ sizeLine; decide, fun t1 n1 => ?_⟩
      refine ⟨by show 0 ≤ sizeLine; decide, fun t2 n2 => ⟨by show 1 ≤ sizeLine; decide, fun t3 n3 => ⟨by show 0 ≤ sizeLine; decide, fun l1 n4 => ⟨by show 1 ≤ sizeLine; decide, fun l2 n5 => fun d1 n6 => fun d2 n7 => ?_⟩⟩⟩⟩
      refine ⟨upd_same, [(.inr "a", .int 1)], rfl, by decide, by show 16 ≤ sizeLine; decide, fun l n8 => ?_⟩
      have s1 := same_new (o := .tup [.non]) n1
      have s2 := same_new (o := .tup []) n2
      have s3 := same_new (o := .tup [.ref t2]) n3
      have s4 := same_new (o := .lst []) n4
      have s5 := same_new (o := .lst [.str "a"]) n5
      have s6 := same_new (o := .dK []) n6
      have s7 := same_two (o := .dK []) (u := .dK (mergeK [] [(.inr "a", .int 1)])) n7
      have s8 := same_new (o := .lst [.non, .bl true, .bl false, .int (-1), .int (-7), .str "", .str "A", .str "a b", .str "abcdefghi", .str "a1",
        .ref t1, .ref t3, .ref l1, .ref l2, .ref d1, .ref d2]) n8
      have h8 := s8
      have h7 := s7.trans h8
      have h6 := s6.trans h7
      have h5 := s5.trans h6
      have h4 := s4.trans h5
      have h3 := s3.trans h4
      have h2 := s2.trans h3
      obtain ⟨o, sd, c, hpp, _⟩ := hp
      have p2 := s1 _ _ hpp
      have p3 := s2 _ _ p2
      have p4 := s3 _ _ p3
      have p5 := s4 _ _ p4
      have p6 := s5 _ _ p5
      have p7 := s6 _ _ p6
      have p8 := s7 _ _ p7
      refine k' _ _ ⟨l, _, rfl, (ne_of_none p8 n8).symm, s1.trans h2, upd_same, ?_⟩
      refine .cons .non (.cons (.bl _) (.cons (.bl _) (.cons (.int _) (.cons (.int _) (.cons (.str _) (.cons (.str _) (.cons (.str _) (.cons (.str _) (.cons (.str _)
        (.cons (.tup (SqT.of (off_at (h2 _ _ upd_same) (ne_of_none hpp n1).symm)) (.cons .non .nil))
        (.cons (.tup (SqT.of (off_at (h4 _ _ upd_same) (ne_of_none p3 n3).symm)) (.cons (.tup (SqT.of (off_at (h3 _ _ upd_same) (ne_of_none p2 n2).symm)) .nil) .nil))
        (.cons (.lst (SqL.of (off_at (h5 _ _ upd_same) (ne_of_none p4 n4).symm)) .nil)
        (.cons (.lst (SqL.of (off_at (h6 _ _ upd_same) (ne_of_none p5 n5).symm)) (.cons (.str _) .nil))
        (.cons (.dic (kvs := []) (off_at (h7 _ _ upd_same) (ne_of_none p6 n6).symm) rfl .nil)
        (.cons (.dic (kvs := [(.inr "a", .int 1)]) (off_at (h8 _ _ upd_same) (ne_of_none p7 n7).symm) rfl (.cons (.int _) .nil)) .nil)))))))))))))))
    · rintro _ H1 ⟨l, xs, rfl, nl, s1, hl, hd⟩
      have hlen : xs.length = 16 := dd_len hd
      refine ⟨_, rfl, _, rfl, p, .ref l, xs, B, rfl, hp.same s1, hB, .inl ⟨l, rfl, nl, SqL.of hl⟩, by omega, by omega, fun d v H2 hv b2 hp2 => ?_⟩
      obtain ⟨dd, hm, hdd⟩ := dd_get hd hv
      refine k v dd H2 ((But.of s1).trans b2) hp2 (hdd.same b2.off) hm
end
end Toy
set_option Elab.async false
set_option linter.all false
set_option maxRecDepth 100000
set_option maxHeartbeats 4000000
namespace Toy
open PySem L2 Q
section
variable {K : PySem.W.Frag} {mg : Str → Option Value} {nm : Str} {C Cn : Addr}
theorem mro_of (h : ∃ nm q N bs sn sub ab col dd k0 k1 k2 k3 k5, K.lookup C = some (excClassObj nm q C N bs (.ref Cn :: PySem.HandSPX.veTail) true sn sub ab col dd k0 k1 k2 k3 k5 "ValueError.__new__"))
    (b : Value) : PySem.W.mroIn K C b = some ((Value.ref C :: Value.ref Cn :: PySem.HandSPX.veTail).contains b) := by
  obtain ⟨_, _, _, _, _, _, _, _, _, _, _, _, _, _, e⟩ := h
  unfold PySem.W.mroIn PySem.W.clsIn
  rw [e]
  rfl
theorem cls_of {bm : List Value} (h : ∃ nm q N bs sn sub ab col dd k0 k1 k2 k3 k5, K.lookup C = some (excClassObj nm q C N bs bm true sn sub ab col dd k0 k1 k2 k3 k5 "ValueError.__new__")) :
    (PySem.W.clsIn K C).isSome = true ∧ PySem.W.hasDictIn K C = true ∧ PySem.W.typeIn K (.ref C) = some (.type "type") := by
  obtain ⟨_, _, _, _, _, _, _, _, _, _, _, _, _, _, e⟩ := h
  refine ⟨?_, ?_, ?_⟩
  · unfold PySem.W.clsIn
    rw [e]
    rfl
  · unfold PySem.W.hasDictIn PySem.W.clsIn
    rw [e]
    rfl
  · show (K.lookup C).map (·.cls) = _
    rw [e]
    rfl
theorem ErrC.sub (c : ErrC K mg nm C Cn) (b : Value) : PySem.W.subIn K (.ref C) b = some ((Value.ref C :: Value.ref Cn :: PySem.HandSPX.veTail).contains b) := mro_of c.xL b
theorem ErrC.oex (c : ErrC K mg nm C Cn) : OexC K C := by
  have h := c.xL
  obtain ⟨nm', q, N, bs, sn, sub, ab, col, dd, k0, k1, k2, k3, k5, e⟩ := h
  refine ⟨⟨nm', q, N, bs, _, sn, sub, ab, col, dd, k0, k1, k2, k3, k5, e, rfl⟩, c.sa, ?_, (cls_of c.xL).2.2, c.kC⟩
  rw [c.sub]
  rfl
theorem ErrC.exc (c : ErrC K mg nm C Cn) (hn : PySem.W.specialIn K (.builtin "object.__class__") "__get__" = some (some (.builtin "getset_descriptor.__get__")))
    (ht : PySem.W.takesIn K (.builtin "object.__class__") = some true) : ExcC K C := by
  refine ⟨c.ga, c.gg, ?_, (cls_of c.xL).2.1, c.hc, hn, ht, ?_⟩
  · rw [c.sub]
    rfl
  · rw [mro_of c.xL]
    rfl
theorem ErrC.kit (c : ErrC K mg nm C Cn) {D : Addr} (h1 : (PySem.W.clsIn K D).isSome = true) (h2 : PySem.W.typeIn K (.ref D) = some (.type "type")) :
    PySem.W.kitOne K (.ref C) (.ref D) = some (decide (D = C ∨ D = Cn)) := by
  unfold PySem.W.kitOne
  by_cases e : C = D
  · subst e
    rw [if_pos (by simp)]
    simp
  · rw [if_neg (by simpa using e)]
    show (if ((PySem.W.clsIn K D).isSome && PySem.W.typeIn K (.ref D) == some (.type "type")) = true then PySem.W.subIn K (.ref C) (.ref D) else none) = _
    rw [if_pos (by rw [h1, h2]; rfl), c.sub]
    congr 1
    simp only [List.contains_cons, PySem.HandSPX.veTail]
    have e2 : (Value.ref D == Value.ref C) = decide (D = C) := by
      by_cases z : D = C
      · simp [z]
      · simp [z]
    have e3 : (Value.ref D == Value.ref Cn) = decide (D = Cn) := by
      by_cases z : D = Cn
      · simp [z]
      · simp [z]
    rw [e2, e3]
    by_cases z : D = C <;> by_cases y : D = Cn <;> simp [z, y]
theorem ErrC.kitVE (c : ErrC K mg nm C Cn) : PySem.W.kitOne K (.ref C) (.type "ValueError") = some true := by
  unfold PySem.W.kitOne
  rw [if_neg (by simp)]
  show (if PySem.W.kitMeta "ValueError" = true then PySem.W.subIn K (.ref C) (.type "ValueError") else none) = _
  rw [if_pos (by decide +kernel), c.sub]
  rfl
end

/-! ### the errors' own __init__ -/
def spI1 (C : Addr) (f : Str) : Sp := fun vs H Q _ => ∃ (a : Addr) (v : V), vs = [.ref a, v] ∧ H a = some (exo a C none) ∧
  ∀ d H', But a H H' → H d = none → H' a = some (exo a C (some d)) → H' d = some (exd d [(f, v)]) → Q .non H'
def spI2 (C : Addr) (f g : Str) : Sp := fun vs H Q _ => ∃ (a : Addr) (v u : V), vs = [.ref a, v, u] ∧ H a = some (exo a C none) ∧
  ∀ d H', But a H H' → H d = none → H' a = some (exo a C (some d)) → H' d = some (exd d [(g, u), (f, v)]) → Q .non H'
theorem spI1_len {C : Addr} {f : Str} {vs : List V} {H : Hp} {Q : VK} {E : XK} (h : spI1 C f vs H Q E) : vs.length = 2 := by
  obtain ⟨a, v, rfl, _⟩ := h
  rfl
theorem spI2_len {C : Addr} {f g : Str} {vs : List V} {H : Hp} {Q : VK} {E : XK} (h : spI2 C f g vs H Q E) : vs.length = 3 := by
  obtain ⟨a, v, u, rfl, _⟩ := h
  rfl
theorem err_laid {H : Hp} {a dx C : Addr} {fs : List (Str × V)} (n : H dx = none) (ne : dx ≠ a) :
    But a H (upd (upd H dx (exd dx fs)) a (exo a C (some dx))) ∧ upd (upd H dx (exd dx fs)) a (exo a C (some dx)) dx = some (exd dx fs) := by
  refine ⟨fun b o nb e => ?_, ?_⟩
  · rw [upd_ne nb, upd_ne (ne_of_none e n)]
    exact e
  · rw [upd_ne ne, upd_same]
theorem init1 {K : PySem.W.Frag} {C : Addr} {f : Str} (o : OexC K C) (nf : PySem.W.findIn K (.ref C) f = some none) {vs : List V} {H : Hp} {Q : VK} {E : XK} {N : List Str}
    (h : spI1 C f vs H Q E) : tOst K f (tVar 0) (tVar 1) { nx := fun _ H' => Q .non H', rt := Q } (L2.start N vs) H := by
  obtain ⟨a, v, rfl, ha, k⟩ := h
  refine ⟨_, rfl, _, rfl, a, C, rfl, o, nf, .inl ⟨ha, fun dx nd ne => ?_⟩⟩
  obtain ⟨b, e⟩ := err_laid (C := C) (fs := [(f, v)]) nd ne
  exact k dx _ b nd upd_same e
theorem init2 {K : PySem.W.Frag} {C : Addr} {f g : Str} (o : OexC K C) (nf : PySem.W.findIn K (.ref C) f = some none) (ng : PySem.W.findIn K (.ref C) g = some none) {vs : List V} {H : Hp} {Q : VK} {E : XK} {N : List Str}
    (h : spI2 C f g vs H Q E) : tSeq (tOst K f (tVar 0) (tVar 1)) (tOst K g (tVar 0) (tVar 2)) { nx := fun _ H' => Q .non H', rt := Q } (L2.start N vs) H := by
  obtain ⟨a, v, u, rfl, ha, k⟩ := h
  refine ⟨_, rfl, _, rfl, a, C, rfl, o, nf, .inl ⟨ha, fun dx nd ne => ?_⟩⟩
  refine ⟨_, rfl, _, rfl, a, C, rfl, o, ng, .inr ⟨dx, [(f, v)], upd_same, by rw [upd_ne ne, upd_same], (by show 1 ≤ 900; decide), ?_⟩⟩
  refine k dx _ (fun b x nb e => ?_) nd ?_ upd_same
  · rw [upd_ne (ne_of_none e nd), upd_ne nb, upd_ne (ne_of_none e nd)]
    exact e
  · rw [upd_ne (Ne.symm ne), upd_same]
section
variable {P : Program} {w : World} {K : PySem.W.Frag} {mg : Str → Option Value} {base : Heap} {ca ia fa : Nat → Addr} {fd fi : Nat → FuncData}
theorem sci_BadNet : FnScope ["self", "value"] ["self", "value"] (defScope (inClass (topS 2) 0)) := ⟨rfl, rfl, rfl, by decide +kernel, rfl, by decide +kernel, by decide +kernel⟩
theorem in_BadNet (T : Txt K mg ca ia fa fd fi) : FnOk P w K mg base CX0 1 (ia 2) (fi 2) ["self", "value"] (spI1 (ca 2) "value") :=
  T.FI_BadNet.ok sci_BadNet (fun _ _ _ _ h => spI1_len h) (fun cdv A outer s H vs Q E hr h => ⟨_, pss_one (ps_ost (pv 0) (pv 1)), init1 T.c_BadNet.oex T.no_BadNet_value h⟩)
theorem sci_NoRouter : FnScope ["self", "value"] ["self", "value"] (defScope (inClass (topS 3) 0)) := ⟨rfl, rfl, rfl, by decide +kernel, rfl, by decide +kernel, by decide +kernel⟩
theorem in_NoRouter (T : Txt K mg ca ia fa fd fi) : FnOk P w K mg base CX0 1 (ia 3) (fi 3) ["self", "value"] (spI1 (ca 3) "value") :=
  T.FI_NoRouter.ok sci_NoRouter (fun _ _ _ _ h => spI1_len h) (fun cdv A outer s H vs Q E hr h => ⟨_, pss_one (ps_ost (pv 0) (pv 1)), init1 T.c_NoRouter.oex T.no_NoRouter_value h⟩)
theorem sci_BadLink : FnScope ["self", "value"] ["self", "value"] (defScope (inClass (topS 4) 0)) := ⟨rfl, rfl, rfl, by decide +kernel, rfl, by decide +kernel, by decide +kernel⟩
theorem in_BadLink (T : Txt K mg ca ia fa fd fi) : FnOk P w K mg base CX0 1 (ia 4) (fi 4) ["self", "value"] (spI1 (ca 4) "value") :=
  T.FI_BadLink.ok sci_BadLink (fun _ _ _ _ h => spI1_len h) (fun cdv A outer s H vs Q E hr h => ⟨_, pss_one (ps_ost (pv 0) (pv 1)), init1 T.c_BadLink.oex T.no_BadLink_value h⟩)
theorem sci_BadLength : FnScope ["self", "value"] ["self", "value"] (defScope (inClass (topS 5) 0)) := ⟨rfl, rfl, rfl, by decide +kernel, rfl, by decide +kernel, by decide +kernel⟩
theorem in_BadLength (T : Txt K mg ca ia fa fd fi) : FnOk P w K mg base CX0 1 (ia 5) (fi 5) ["self", "value"] (spI1 (ca 5) "value") :=
  T.FI_BadLength.ok sci_BadLength (fun _ _ _ _ h => spI1_len h) (fun cdv A outer s H vs Q E hr h => ⟨_, pss_one (ps_ost (pv 0) (pv 1)), init1 T.c_BadLength.oex T.no_BadLength_value h⟩)
theorem sci_NoLink : FnScope ["self", "value"] ["self", "value"] (defScope (inClass (topS 7) 0)) := ⟨rfl, rfl, rfl, by decide +kernel, rfl, by decide +kernel, by decide +kernel⟩
theorem in_NoLink (T : Txt K mg ca ia fa fd fi) : FnOk P w K mg base CX0 1 (ia 7) (fi 7) ["self", "value"] (spI1 (ca 7) "value") :=
  T.FI_NoLink.ok sci_NoLink (fun _ _ _ _ h => spI1_len h) (fun cdv A outer s H vs Q E hr h => ⟨_, pss_one (ps_ost (pv 0) (pv 1)), init1 T.c_NoLink.oex T.no_NoLink_value h⟩)
theorem sci_BadShift : FnScope ["self", "value"] ["self", "value"] (defScope (inClass (topS 9) 0)) := ⟨rfl, rfl, rfl, by decide +kernel, rfl, by decide +kernel, by decide +kernel⟩
theorem in_BadShift (T : Txt K mg ca ia fa fd fi) : FnOk P w K mg base CX0 1 (ia 9) (fi 9) ["self", "value"] (spI1 (ca 9) "value") :=
  T.FI_BadShift.ok sci_BadShift (fun _ _ _ _ h => spI1_len h) (fun cdv A outer s H vs Q E hr h => ⟨_, pss_one (ps_ost (pv 0) (pv 1)), init1 T.c_BadShift.oex T.no_BadShift_value h⟩)
theorem sci_BadDemands : FnScope ["self", "value"] ["self", "value"] (defScope (inClass (topS 10) 0)) := ⟨rfl, rfl, rfl, by decide +kernel, rfl, by decide +kernel, by decide +kernel⟩
theorem in_BadDemands (T : Txt K mg ca ia fa fd fi) : FnOk P w K mg base CX0 1 (ia 10) (fi 10) ["self", "value"] (spI1 (ca 10) "value") :=
  T.FI_BadDemands.ok sci_BadDemands (fun _ _ _ _ h => spI1_len h) (fun cdv A outer s H vs Q E hr h => ⟨_, pss_one (ps_ost (pv 0) (pv 1)), init1 T.c_BadDemands.oex T.no_BadDemands_value h⟩)
theorem sci_BadMoment : FnScope ["self", "value"] ["self", "value"] (defScope (inClass (topS 11) 0)) := ⟨rfl, rfl, rfl, by decide +kernel, rfl, by decide +kernel, by decide +kernel⟩
theorem in_BadMoment (T : Txt K mg ca ia fa fd fi) : FnOk P w K mg base CX0 1 (ia 11) (fi 11) ["self", "value"] (spI1 (ca 11) "value") :=
  T.FI_BadMoment.ok sci_BadMoment (fun _ _ _ _ h => spI1_len h) (fun cdv A outer s H vs Q E hr h => ⟨_, pss_one (ps_ost (pv 0) (pv 1)), init1 T.c_BadMoment.oex T.no_BadMoment_value h⟩)
theorem sci_Turning : FnScope ["self", "destination"] ["self", "destination"] (defScope (inClass (topS 12) 0)) := ⟨rfl, rfl, rfl, by decide +kernel, rfl, by decide +kernel, by decide +kernel⟩
theorem in_Turning (T : Txt K mg ca ia fa fd fi) : FnOk P w K mg base CX0 1 (ia 12) (fi 12) ["self", "destination"] (spI1 (ca 12) "destination") :=
  T.FI_Turning.ok sci_Turning (fun _ _ _ _ h => spI1_len h) (fun cdv A outer s H vs Q E hr h => ⟨_, pss_one (ps_ost (pv 0) (pv 1)), init1 T.c_Turning.oex T.no_Turning_destination h⟩)
theorem sci_BadRates : FnScope ["self", "value"] ["self", "value"] (defScope (inClass (topS 13) 0)) := ⟨rfl, rfl, rfl, by decide +kernel, rfl, by decide +kernel, by decide +kernel⟩
theorem in_BadRates (T : Txt K mg ca ia fa fd fi) : FnOk P w K mg base CX0 1 (ia 13) (fi 13) ["self", "value"] (spI1 (ca 13) "value") :=
  T.FI_BadRates.ok sci_BadRates (fun _ _ _ _ h => spI1_len h) (fun cdv A outer s H vs Q E hr h => ⟨_, pss_one (ps_ost (pv 0) (pv 1)), init1 T.c_BadRates.oex T.no_BadRates_value h⟩)
theorem sci_BadCaps : FnScope ["self", "value"] ["self", "value"] (defScope (inClass (topS 14) 0)) := ⟨rfl, rfl, rfl, by decide +kernel, rfl, by decide +kernel, by decide +kernel⟩
theorem in_BadCaps (T : Txt K mg ca ia fa fd fi) : FnOk P w K mg base CX0 1 (ia 14) (fi 14) ["self", "value"] (spI1 (ca 14) "value") :=
  T.FI_BadCaps.ok sci_BadCaps (fun _ _ _ _ h => spI1_len h) (fun cdv A outer s H vs Q E hr h => ⟨_, pss_one (ps_ost (pv 0) (pv 1)), init1 T.c_BadCaps.oex T.no_BadCaps_value h⟩)
theorem sci_BadOffers : FnScope ["self", "value"] ["self", "value"] (defScope (inClass (topS 15) 0)) := ⟨rfl, rfl, rfl, by decide +kernel, rfl, by decide +kernel, by decide +kernel⟩
theorem in_BadOffers (T : Txt K mg ca ia fa fd fi) : FnOk P w K mg base CX0 1 (ia 15) (fi 15) ["self", "value"] (spI1 (ca 15) "value") :=
  T.FI_BadOffers.ok sci_BadOffers (fun _ _ _ _ h => spI1_len h) (fun cdv A outer s H vs Q E hr h => ⟨_, pss_one (ps_ost (pv 0) (pv 1)), init1 T.c_BadOffers.oex T.no_BadOffers_value h⟩)
theorem sci_NoEnd : FnScope ["self", "value"] ["self", "value"] (defScope (inClass (topS 16) 0)) := ⟨rfl, rfl, rfl, by decide +kernel, rfl, by decide +kernel, by decide +kernel⟩
theorem in_NoEnd (T : Txt K mg ca ia fa fd fi) : FnOk P w K mg base CX0 1 (ia 16) (fi 16) ["self", "value"] (spI1 (ca 16) "value") :=
  T.FI_NoEnd.ok sci_NoEnd (fun _ _ _ _ h => spI1_len h) (fun cdv A outer s H vs Q E hr h => ⟨_, pss_one (ps_ost (pv 0) (pv 1)), init1 T.c_NoEnd.oex T.no_NoEnd_value h⟩)
theorem sci_BadRows : FnScope ["self", "value"] ["self", "value"] (defScope (inClass (topS 17) 0)) := ⟨rfl, rfl, rfl, by decide +kernel, rfl, by decide +kernel, by decide +kernel⟩
theorem in_BadRows (T : Txt K mg ca ia fa fd fi) : FnOk P w K mg base CX0 1 (ia 17) (fi 17) ["self", "value"] (spI1 (ca 17) "value") :=
  T.FI_BadRows.ok sci_BadRows (fun _ _ _ _ h => spI1_len h) (fun cdv A outer s H vs Q E hr h => ⟨_, pss_one (ps_ost (pv 0) (pv 1)), init1 T.c_BadRows.oex T.no_BadRows_value h⟩)
theorem sci_BadEvent : FnScope ["self", "value"] ["self", "value"] (defScope (inClass (topS 18) 0)) := ⟨rfl, rfl, rfl, by decide +kernel, rfl, by decide +kernel, by decide +kernel⟩
theorem in_BadEvent (T : Txt K mg ca ia fa fd fi) : FnOk P w K mg base CX0 1 (ia 18) (fi 18) ["self", "value"] (spI1 (ca 18) "value") :=
  T.FI_BadEvent.ok sci_BadEvent (fun _ _ _ _ h => spI1_len h) (fun cdv A outer s H vs Q E hr h => ⟨_, pss_one (ps_ost (pv 0) (pv 1)), init1 T.c_BadEvent.oex T.no_BadEvent_value h⟩)
theorem sci_NotNow : FnScope ["self", "event"] ["self", "event"] (defScope (inClass (topS 19) 0)) := ⟨rfl, rfl, rfl, by decide +kernel, rfl, by decide +kernel, by decide +kernel⟩
theorem in_NotNow (T : Txt K mg ca ia fa fd fi) : FnOk P w K mg base CX0 1 (ia 19) (fi 19) ["self", "event"] (spI1 (ca 19) "event") :=
  T.FI_NotNow.ok sci_NotNow (fun _ _ _ _ h => spI1_len h) (fun cdv A outer s H vs Q E hr h => ⟨_, pss_one (ps_ost (pv 0) (pv 1)), init1 T.c_NotNow.oex T.no_NotNow_event h⟩)
theorem sci_Turned : FnScope ["self", "packet", "router"] ["self", "packet", "router"] (defScope (inClass (topS 20) 0)) := ⟨rfl, rfl, rfl, by decide +kernel, rfl, by decide +kernel, by decide +kernel⟩
theorem in_Turned (T : Txt K mg ca ia fa fd fi) : FnOk P w K mg base CX0 1 (ia 20) (fi 20) ["self", "packet", "router"] (spI2 (ca 20) "packet" "router") :=
  T.FI_Turned.ok sci_Turned (fun _ _ _ _ h => spI2_len h) (fun cdv A outer s H vs Q E hr h => ⟨_, pss_cons (ps_ost (pv 0) (pv 1)) (pss_one (ps_ost (pv 0) (pv 2))), init2 T.c_Turned.oex T.no_Turned_packet T.no_Turned_router h⟩)
theorem sci_Ring : FnScope ["self", "ring"] ["self", "ring"] (defScope (inClass (topS 21) 0)) := ⟨rfl, rfl, rfl, by decide +kernel, rfl, by decide +kernel, by decide +kernel⟩
theorem in_Ring (T : Txt K mg ca ia fa fd fi) : FnOk P w K mg base CX0 1 (ia 21) (fi 21) ["self", "ring"] (spI1 (ca 21) "ring") :=
  T.FI_Ring.ok sci_Ring (fun _ _ _ _ h => spI1_len h) (fun cdv A outer s H vs Q E hr h => ⟨_, pss_one (ps_ost (pv 0) (pv 1)), init1 T.c_Ring.oex T.no_Ring_ring h⟩)
theorem sci_NoPacket : FnScope ["self", "value"] ["self", "value"] (defScope (inClass (topS 22) 0)) := ⟨rfl, rfl, rfl, by decide +kernel, rfl, by decide +kernel, by decide +kernel⟩
theorem in_NoPacket (T : Txt K mg ca ia fa fd fi) : FnOk P w K mg base CX0 1 (ia 22) (fi 22) ["self", "value"] (spI1 (ca 22) "value") :=
  T.FI_NoPacket.ok sci_NoPacket (fun _ _ _ _ h => spI1_len h) (fun cdv A outer s H vs Q E hr h => ⟨_, pss_one (ps_ost (pv 0) (pv 1)), init1 T.c_NoPacket.oex T.no_NoPacket_value h⟩)
theorem sci_BadText : FnScope ["self", "value"] ["self", "value"] (defScope (inClass (topS 24) 0)) := ⟨rfl, rfl, rfl, by decide +kernel, rfl, by decide +kernel, by decide +kernel⟩
theorem in_BadText (T : Txt K mg ca ia fa fd fi) : FnOk P w K mg base CX0 1 (ia 24) (fi 24) ["self", "value"] (spI1 (ca 24) "value") :=
  T.FI_BadText.ok sci_BadText (fun _ _ _ _ h => spI1_len h) (fun cdv A outer s H vs Q E hr h => ⟨_, pss_one (ps_ost (pv 0) (pv 1)), init1 T.c_BadText.oex T.no_BadText_value h⟩)
theorem sci_BadRun : FnScope ["self", "value"] ["self", "value"] (defScope (inClass (topS 25) 0)) := ⟨rfl, rfl, rfl, by decide +kernel, rfl, by decide +kernel, by decide +kernel⟩
theorem in_BadRun (T : Txt K mg ca ia fa fd fi) : FnOk P w K mg base CX0 1 (ia 25) (fi 25) ["self", "value"] (spI1 (ca 25) "value") :=
  T.FI_BadRun.ok sci_BadRun (fun _ _ _ _ h => spI1_len h) (fun cdv A outer s H vs Q E hr h => ⟨_, pss_one (ps_ost (pv 0) (pv 1)), init1 T.c_BadRun.oex T.no_BadRun_value h⟩)
theorem sci_BadLine : FnScope ["self", "value"] ["self", "value"] (defScope (inClass (topS 26) 0)) := ⟨rfl, rfl, rfl, by decide +kernel, rfl, by decide +kernel, by decide +kernel⟩
theorem in_BadLine (T : Txt K mg ca ia fa fd fi) : FnOk P w K mg base CX0 1 (ia 26) (fi 26) ["self", "value"] (spI1 (ca 26) "value") :=
  T.FI_BadLine.ok sci_BadLine (fun _ _ _ _ h => spI1_len h) (fun cdv A outer s H vs Q E hr h => ⟨_, pss_one (ps_ost (pv 0) (pv 1)), init1 T.c_BadLine.oex T.no_BadLine_value h⟩)
end
/-- a new error as an argument, the rest behind it -/
theorem mk1 {C : Addr} {f : Str} {te : TE} {σ : L2.St} {H : Hp} {v : V} {Q : VK} (h : ∀ Q' : VK, Q' v H → te σ H Q')
    (k : ∀ a H', Same H H' → ErrAt H' a C [(f, v)] → H a = none → Q (.ref a) H') : tMkV C (spI1 C f) [] (tCons te tNil) σ H Q := by
  refine h _ ⟨(by decide : 1 ≤ 1000), fun a na => ⟨a, v, rfl, upd_same, fun d H' b _ ea ed => ⟨rfl, k a H' ?_ ⟨d, .inl ea, .inl ed⟩ na⟩⟩⟩
  intro c o e2
  exact b c o (ne_of_none e2 na) (same_new na _ _ e2)
theorem mk2 {C : Addr} {f g : Str} {te ue : TE} {σ : L2.St} {H : Hp} {v u : V} {Q : VK} (h : ∀ Q' : VK, Q' v H → te σ H Q') (h2 : ∀ Q' : VK, Q' u H → ue σ H Q')
    (k : ∀ a H', Same H H' → ErrAt H' a C [(g, u), (f, v)] → H a = none → Q (.ref a) H') : tMkV C (spI2 C f g) [] (tCons te (tCons ue tNil)) σ H Q := by
  refine h _ (h2 _ ⟨(by decide : 2 ≤ 1000), fun a na => ⟨a, v, u, rfl, upd_same, fun d H' b _ ea ed => ⟨rfl, k a H' ?_ ⟨d, .inl ea, .inl ed⟩ na⟩⟩⟩)
  intro c o e2
  exact b c o (ne_of_none e2 na) (same_new na _ _ e2)
theorem lst0 {t : TA} {σ : L2.St} {H : Hp} {Q : VK} (h : t σ H fun xs H1 => xs.length ≤ sizeLine ∧ ∀ p, H1 p = none → Q (.ref p) (upd H1 p (.lst xs))) : tLst t σ H Q := h
theorem tup0 {t : TA} {σ : L2.St} {H : Hp} {Q : VK} (h : t σ H fun xs H1 => xs.length ≤ sizeLine ∧ ∀ p, H1 p = none → Q (.ref p) (upd H1 p (.tup xs))) : tTup t σ H Q := h
theorem cons0 {ta : TE} {tr : TA} {σ : L2.St} {H : Hp} {Q : List V → Hp → Prop} (h : ta σ H fun x H1 => tr σ H1 fun xs H2 => Q (x :: xs) H2) : tCons ta tr σ H Q := h
theorem var {i : Nat} {σ : L2.St} {H : Hp} {v : V} (e : σ[i]? = some (some v)) : ∀ Q' : VK, Q' v H → tVar i σ H Q' := fun _ q => ⟨v, e, q⟩
end Toy
set_option Elab.async false
set_option linter.all false
set_option maxRecDepth 100000
set_option maxHeartbeats 4000000
namespace Toy
open PySem L2 Q
/-- errors with the same value, by their classes -/
abbrev ErrsV (H : Hp) (v : V) : List Addr → List Addr → Prop := Paired fun a C => ErrAt H a C [("value", v)]
theorem paired_app {α β : Type} {F : α → β → Prop} : ∀ {l₁ l₂ : List α} {r₁ r₂ : List β}, Paired F l₁ r₁ → Paired F l₂ r₂ → Paired F (l₁ ++ l₂) (r₁ ++ r₂)
  | _, _, _, _, .nil, q => q
  | _, _, _, _, .cons h t, q => .cons h (paired_app t q)
def spWith (ca : Nat → Addr) : Sp := fun vs H Q _ => ∃ v : V, vs = [v] ∧ ∀ (l : Addr) (es : List Addr) (H' : Hp), Same H H' →
  H' l = some (.lst (es.map V.ref)) → ErrsV H' v es [ca 14, ca 10, ca 18, ca 5, ca 26, ca 4, ca 11, ca 2, ca 15, ca 13, ca 17, ca 25, ca 9, ca 24, ca 16, ca 7, ca 22, ca 3] → Q (.ref l) H'
section
variable {P : Program} {w : World} {K : PySem.W.Frag} {mg : Str → Option Value} {base : Heap} {ca ia fa : Nat → Addr} {fd fi : Nat → FuncData}
theorem ok_with (T : Txt K mg ca ia fa fd fi) : FnOk P w K mg base CX0 3 (fa 34) (fd 34) ["_law_value"] (spWith ca) := by
  refine T.F_l_with_value.ok sc_l_with_value (fun vs H Q E h => ?_) (fun cdv A outer s H vs Q E hr h => ?_)
  · obtain ⟨v, rfl, _⟩ := h
    rfl
  · obtain ⟨v, rfl, k⟩ := h
    refine ⟨_, (pss_cons (ps_set (i := 1) sc_l_with_value.nd rfl (Or.inl rfl) (pe_lst (pa_cons (pe_mkv T.c_BadCaps.oex T.iC_BadCaps T.tI_BadCaps (in_BadCaps T) (hr.mono (by decide)) T.bi_BadCaps .nil pass0 rfl T.c_BadCaps.g (pa_cons (pv 0) pa_nil)) (pa_cons (pe_mkv T.c_BadDemands.oex T.iC_BadDemands T.tI_BadDemands (in_BadDemands T) (hr.mono (by decide)) T.bi_BadDemands .nil pass0 rfl T.c_BadDemands.g (pa_cons (pv 0) pa_nil)) (pa_cons (pe_mkv T.c_BadEvent.oex T.iC_BadEvent T.tI_BadEvent (in_BadEvent T) (hr.mono (by decide)) T.bi_BadEvent .nil pass0 rfl T.c_BadEvent.g (pa_cons (pv 0) pa_nil)) (pa_cons (pe_mkv T.c_BadLength.oex T.iC_BadLength T.tI_BadLength (in_BadLength T) (hr.mono (by decide)) T.bi_BadLength .nil pass0 rfl T.c_BadLength.g (pa_cons (pv 0) pa_nil)) (pa_cons (pe_mkv T.c_BadLine.oex T.iC_BadLine T.tI_BadLine (in_BadLine T) (hr.mono (by decide)) T.bi_BadLine .nil pass0 rfl T.c_BadLine.g (pa_cons (pv 0) pa_nil)) (pa_cons (pe_mkv T.c_BadLink.oex T.iC_BadLink T.tI_BadLink (in_BadLink T) (hr.mono (by decide)) T.bi_BadLink .nil pass0 rfl T.c_BadLink.g (pa_cons (pv 0) pa_nil)) pa_nil))))))))
      (pss_cons (ps_set (i := 1) sc_l_with_value.nd rfl (Or.inl rfl) (pe_op op_cat (pv 1) (pe_lst (pa_cons (pe_mkv T.c_BadMoment.oex T.iC_BadMoment T.tI_BadMoment (in_BadMoment T) (hr.mono (by decide)) T.bi_BadMoment .nil pass0 rfl T.c_BadMoment.g (pa_cons (pv 0) pa_nil)) (pa_cons (pe_mkv T.c_BadNet.oex T.iC_BadNet T.tI_BadNet (in_BadNet T) (hr.mono (by decide)) T.bi_BadNet .nil pass0 rfl T.c_BadNet.g (pa_cons (pv 0) pa_nil)) (pa_cons (pe_mkv T.c_BadOffers.oex T.iC_BadOffers T.tI_BadOffers (in_BadOffers T) (hr.mono (by decide)) T.bi_BadOffers .nil pass0 rfl T.c_BadOffers.g (pa_cons (pv 0) pa_nil)) (pa_cons (pe_mkv T.c_BadRates.oex T.iC_BadRates T.tI_BadRates (in_BadRates T) (hr.mono (by decide)) T.bi_BadRates .nil pass0 rfl T.c_BadRates.g (pa_cons (pv 0) pa_nil)) (pa_cons (pe_mkv T.c_BadRows.oex T.iC_BadRows T.tI_BadRows (in_BadRows T) (hr.mono (by decide)) T.bi_BadRows .nil pass0 rfl T.c_BadRows.g (pa_cons (pv 0) pa_nil)) pa_nil))))))))
      (pss_cons (ps_set (i := 1) sc_l_with_value.nd rfl (Or.inl rfl) (pe_op op_cat (pv 1) (pe_lst (pa_cons (pe_mkv T.c_BadRun.oex T.iC_BadRun T.tI_BadRun (in_BadRun T) (hr.mono (by decide)) T.bi_BadRun .nil pass0 rfl T.c_BadRun.g (pa_cons (pv 0) pa_nil)) (pa_cons (pe_mkv T.c_BadShift.oex T.iC_BadShift T.tI_BadShift (in_BadShift T) (hr.mono (by decide)) T.bi_BadShift .nil pass0 rfl T.c_BadShift.g (pa_cons (pv 0) pa_nil)) (pa_cons (pe_mkv T.c_BadText.oex T.iC_BadText T.tI_BadText (in_BadText T) (hr.mono (by decide)) T.bi_BadText .nil pass0 rfl T.c_BadText.g (pa_cons (pv 0) pa_nil)) (pa_cons (pe_mkv T.c_NoEnd.oex T.iC_NoEnd T.tI_NoEnd (in_NoEnd T) (hr.mono (by decide)) T.bi_NoEnd .nil pass0 rfl T.c_NoEnd.g (pa_cons (pv 0) pa_nil)) (pa_cons (pe_mkv T.c_NoLink.oex T.iC_NoLink T.tI_NoLink (in_NoLink T) (hr.mono (by decide)) T.bi_NoLink .nil pass0 rfl T.c_NoLink.g (pa_cons (pv 0) pa_nil)) pa_nil))))))))
      (pss_one (ps_ret (pe_op op_cat (pv 1) (pe_lst (pa_cons (pe_mkv T.c_NoPacket.oex T.iC_NoPacket T.tI_NoPacket (in_NoPacket T) (hr.mono (by decide)) T.bi_NoPacket .nil pass0 rfl T.c_NoPacket.g (pa_cons (pv 0) pa_nil)) (pa_cons (pe_mkv T.c_NoRouter.oex T.iC_NoRouter T.tI_NoRouter (in_NoRouter T) (hr.mono (by decide)) T.bi_NoRouter .nil pass0 rfl T.c_NoRouter.g (pa_cons (pv 0) pa_nil)) pa_nil))))))))), ?_⟩
    refine seqS (fun x H' => ∃ (l : Addr) (es : List Addr), x = .ref l ∧ Same H H' ∧ H' l = some (.lst (es.map V.ref)) ∧ ErrsV H' v es [ca 14, ca 10, ca 18, ca 5, ca 26, ca 4]) (fun Q k' => ?_) ?_
    · refine lst0 (cons0 (mk1 (var rfl) fun a1 H1 s1 e1 _ => ?_))
      refine cons0 (mk1 (var rfl) fun a2 H2 s2 e2 _ => ?_)
      refine cons0 (mk1 (var rfl) fun a3 H3 s3 e3 _ => ?_)
      refine cons0 (mk1 (var rfl) fun a4 H4 s4 e4 _ => ?_)
      refine cons0 (mk1 (var rfl) fun a5 H5 s5 e5 _ => ?_)
      refine cons0 (mk1 (var rfl) fun a6 H6 s6 e6 _ => ?_)
      have t6 := Same.refl H6
      have t5 := s6.trans t6
      have t4 := s5.trans t5
      have t3 := s4.trans t4
      have t2 := s3.trans t3
      have t1 := s2.trans t2
      refine ⟨by show 6 ≤ sizeLine; decide, fun l nl => k' _ _ ⟨l, [a1, a2, a3, a4, a5, a6], rfl, (s1.trans t1).trans (same_new nl), upd_same, Paired.mapP (show ErrsV H6 v [a1, a2, a3, a4, a5, a6] [ca 14, ca 10, ca 18, ca 5, ca 26, ca 4] from (.cons (e1.mono t1) (.cons (e2.mono t2) (.cons (e3.mono t3) (.cons (e4.mono t4) (.cons (e5.mono t5) (.cons (e6.mono t6) .nil))))))) fun _ _ z => z.mono (same_new nl)⟩⟩
    rintro _ H0 ⟨l, es, rfl, s0, hl, he⟩
    refine seqS (fun x H' => ∃ (l : Addr) (es : List Addr), x = .ref l ∧ Same H H' ∧ H' l = some (.lst (es.map V.ref)) ∧ ErrsV H' v es [ca 14, ca 10, ca 18, ca 5, ca 26, ca 4, ca 11, ca 2, ca 15, ca 13, ca 17]) (fun Q k' => ?_) ?_
    · refine ⟨_, rfl, ?_⟩
      refine lst0 (cons0 (mk1 (var rfl) fun a1 H1 s1 e1 _ => ?_))
      refine cons0 (mk1 (var rfl) fun a2 H2 s2 e2 _ => ?_)
      refine cons0 (mk1 (var rfl) fun a3 H3 s3 e3 _ => ?_)
      refine cons0 (mk1 (var rfl) fun a4 H4 s4 e4 _ => ?_)
      refine cons0 (mk1 (var rfl) fun a5 H5 s5 e5 _ => ?_)
      have t5 := Same.refl H5
      have t4 := s5.trans t5
      have t3 := s4.trans t4
      have t2 := s3.trans t3
      have t1 := s2.trans t2
      refine ⟨by show 5 ≤ sizeLine; decide, fun l1 nl1 => ⟨l, l1, _, _, rfl, rfl, same_new nl1 _ _ (t1 _ _ (s1 _ _ hl)), upd_same, ?_, fun l2 nl2 => k' _ _ ⟨l2, es ++ [a1, a2, a3, a4, a5], rfl, ?_, ?_, ?_⟩⟩⟩
      · rw [List.length_map, he.length]; show 11 ≤ sizeLine; decide
      · exact s0.trans (((s1.trans t1).trans (same_new nl1)).trans (same_new nl2))
      · rw [upd_same, List.map_append]; rfl
      · refine paired_app (Paired.mapP he fun _ _ z => z.mono (((s1.trans t1).trans (same_new nl1)).trans (same_new nl2))) (Paired.mapP (show ErrsV H5 v [a1, a2, a3, a4, a5] [ca 11, ca 2, ca 15, ca 13, ca 17] from (.cons (e1.mono t1) (.cons (e2.mono t2) (.cons (e3.mono t3) (.cons (e4.mono t4) (.cons (e5.mono t5) .nil)))))) fun _ _ z => z.mono ((same_new nl1).trans (same_new nl2)))
    rintro _ H0 ⟨l, es, rfl, s0, hl, he⟩
    refine seqS (fun x H' => ∃ (l : Addr) (es : List Addr), x = .ref l ∧ Same H H' ∧ H' l = some (.lst (es.map V.ref)) ∧ ErrsV H' v es [ca 14, ca 10, ca 18, ca 5, ca 26, ca 4, ca 11, ca 2, ca 15, ca 13, ca 17, ca 25, ca 9, ca 24, ca 16, ca 7]) (fun Q k' => ?_) ?_
    · refine ⟨_, rfl, ?_⟩
      refine lst0 (cons0 (mk1 (var rfl) fun a1 H1 s1 e1 _ => ?_))
      refine cons0 (mk1 (var rfl) fun a2 H2 s2 e2 _ => ?_)
      refine cons0 (mk1 (var rfl) fun a3 H3 s3 e3 _ => ?_)
      refine cons0 (mk1 (var rfl) fun a4 H4 s4 e4 _ => ?_)
      refine cons0 (mk1 (var rfl) fun a5 H5 s5 e5 _ => ?_)
      have t5 := Same.refl H5
      have t4 := s5.trans t5
      have t3 := s4.trans t4
      have t2 := s3.trans t3
      have t1 := s2.trans t2
      refine ⟨by show 5 ≤ sizeLine; decide, fun l1 nl1 => ⟨l, l1, _, _, rfl, rfl, same_new nl1 _ _ (t1 _ _ (s1 _ _ hl)), upd_same, ?_, fun l2 nl2 => k' _ _ ⟨l2, es ++ [a1, a2, a3, a4, a5], rfl, ?_, ?_, ?_⟩⟩⟩
      · rw [List.length_map, he.length]; show 16 ≤ sizeLine; decide
      · exact s0.trans (((s1.trans t1).trans (same_new nl1)).trans (same_new nl2))
      · rw [upd_same, List.map_append]; rfl
      · refine paired_app (Paired.mapP he fun _ _ z => z.mono (((s1.trans t1).trans (same_new nl1)).trans (same_new nl2))) (Paired.mapP (show ErrsV H5 v [a1, a2, a3, a4, a5] [ca 25, ca 9, ca 24, ca 16, ca 7] from (.cons (e1.mono t1) (.cons (e2.mono t2) (.cons (e3.mono t3) (.cons (e4.mono t4) (.cons (e5.mono t5) .nil)))))) fun _ _ z => z.mono ((same_new nl1).trans (same_new nl2)))
    rintro _ H0 ⟨l, es, rfl, s0, hl, he⟩
    refine ret (fun x H' => ∃ (l : Addr) (es : List Addr), x = .ref l ∧ Same H H' ∧ H' l = some (.lst (es.map V.ref)) ∧ ErrsV H' v es [ca 14, ca 10, ca 18, ca 5, ca 26, ca 4, ca 11, ca 2, ca 15, ca 13, ca 17, ca 25, ca 9, ca 24, ca 16, ca 7, ca 22, ca 3]) (fun Q k' => ?_) ?_
    · refine ⟨_, rfl, ?_⟩
      refine lst0 (cons0 (mk1 (var rfl) fun a1 H1 s1 e1 _ => ?_))
      refine cons0 (mk1 (var rfl) fun a2 H2 s2 e2 _ => ?_)
      have t2 := Same.refl H2
      have t1 := s2.trans t2
      refine ⟨by show 2 ≤ sizeLine; decide, fun l1 nl1 => ⟨l, l1, _, _, rfl, rfl, same_new nl1 _ _ (t1 _ _ (s1 _ _ hl)), upd_same, ?_, fun l2 nl2 => k' _ _ ⟨l2, es ++ [a1, a2], rfl, ?_, ?_, ?_⟩⟩⟩
      · rw [List.length_map, he.length]; show 18 ≤ sizeLine; decide
      · exact s0.trans (((s1.trans t1).trans (same_new nl1)).trans (same_new nl2))
      · rw [upd_same, List.map_append]; rfl
      · refine paired_app (Paired.mapP he fun _ _ z => z.mono (((s1.trans t1).trans (same_new nl1)).trans (same_new nl2))) (Paired.mapP (show ErrsV H2 v [a1, a2] [ca 22, ca 3] from (.cons (e1.mono t1) (.cons (e2.mono t2) .nil))) fun _ _ z => z.mono ((same_new nl1).trans (same_new nl2)))
    · rintro _ H' ⟨l, es, rfl, s0, hl, he⟩
      exact k l es H' s0 hl he
end
end Toy
set_option Elab.async false
set_option linter.all false
set_option maxRecDepth 100000
set_option maxHeartbeats 4000000
namespace Toy
open PySem L2 Q
abbrev KO : List Nat := [14, 10, 18, 5, 26, 4, 11, 2, 15, 13, 17, 25, 9, 24, 16, 7, 22, 3, 12, 19, 20, 21, 6, 8, 23]
def spKinds (ca : Nat → Addr) : Sp := fun vs H Q _ => ∃ (a : Addr) (i : Nat), vs = [.ref a] ∧ 2 ≤ i ∧ i ≤ 26 ∧ ErrI H a (ca i) ∧ ∀ (l : Addr) (H' : Hp), Same H H' →
  H' l = some (.lst (KO.map fun j => V.bl (decide (j = i)))) → Q (.ref l) H'
section
variable {P : Program} {w : World} {K : PySem.W.Frag} {mg : Str → Option Value} {base : Heap} {ca ia fa : Nat → Addr} {fd fi : Nat → FuncData}
theorem Txt.err (T : Txt K mg ca ia fa fd fi) : ∀ i, 2 ≤ i → i ≤ 26 → ∃ nm, ErrC K mg nm (ca i) (ca 1)
  | 2, _, _ => ⟨_, T.c_BadNet⟩
  | 3, _, _ => ⟨_, T.c_NoRouter⟩
  | 4, _, _ => ⟨_, T.c_BadLink⟩
  | 5, _, _ => ⟨_, T.c_BadLength⟩
  | 6, _, _ => ⟨_, T.c_TooMany⟩
  | 7, _, _ => ⟨_, T.c_NoLink⟩
  | 8, _, _ => ⟨_, T.c_Unlike⟩
  | 9, _, _ => ⟨_, T.c_BadShift⟩
  | 10, _, _ => ⟨_, T.c_BadDemands⟩
  | 11, _, _ => ⟨_, T.c_BadMoment⟩
  | 12, _, _ => ⟨_, T.c_Turning⟩
  | 13, _, _ => ⟨_, T.c_BadRates⟩
  | 14, _, _ => ⟨_, T.c_BadCaps⟩
  | 15, _, _ => ⟨_, T.c_BadOffers⟩
  | 16, _, _ => ⟨_, T.c_NoEnd⟩
  | 17, _, _ => ⟨_, T.c_BadRows⟩
  | 18, _, _ => ⟨_, T.c_BadEvent⟩
  | 19, _, _ => ⟨_, T.c_NotNow⟩
  | 20, _, _ => ⟨_, T.c_Turned⟩
  | 21, _, _ => ⟨_, T.c_Ring⟩
  | 22, _, _ => ⟨_, T.c_NoPacket⟩
  | 23, _, _ => ⟨_, T.c_NothingToUndo⟩
  | 24, _, _ => ⟨_, T.c_BadText⟩
  | 25, _, _ => ⟨_, T.c_BadRun⟩
  | 26, _, _ => ⟨_, T.c_BadLine⟩
  | n + 27, _, h => absurd h (by omega)
theorem Txt.same (T : Txt K mg ca ia fa fd fi) {i j : Nat} (h0 : 1 ≤ i) (h1 : i ≤ 26) (h2 : 1 ≤ j) (h3 : j ≤ 26) (e : ca i = ca j) : i = j := by
  have nd := T.inj
  have len : ((List.range 26).map fun i => ca (i + 1)).length = 26 := by simp
  have at_ : ∀ k (hk : k < 26), ((List.range 26).map fun i => ca (i + 1))[k]'(by rw [len]; exact hk) = ca (k + 1) := fun k hk => by simp
  have q := (List.getElem_inj (i := i - 1) (j := j - 1) (h₀ := by rw [len]; omega) (h₁ := by rw [len]; omega) nd).mp (by
    rw [at_ _ (by omega), at_ _ (by omega), show i - 1 + 1 = i by omega, show j - 1 + 1 = j by omega]
    exact e)
  omega
theorem Txt.kit (T : Txt K mg ca ia fa fd fi) {i j : Nat} (h0 : 2 ≤ i) (h1 : i ≤ 26) (h2 : 2 ≤ j) (h3 : j ≤ 26) :
    PySem.W.kitOne K (.ref (ca i)) (.ref (ca j)) = some (decide (j = i)) := by
  obtain ⟨_, c⟩ := T.err i h0 h1
  obtain ⟨_, d⟩ := T.err j h2 h3
  obtain ⟨d1, _, d2⟩ := cls_of d.xL
  rw [c.kit d1 d2]
  congr 1
  have e : (ca j = ca i ∨ ca j = ca 1) ↔ j = i := by
    constructor
    · rintro (e | e)
      · exact T.same (by omega) (by omega) (by omega) (by omega) e
      · have := T.same (by omega) (by omega) (by omega) (by omega) e
        omega
    · rintro rfl
      exact .inl rfl
  exact decide_eq_decide.mpr e
theorem Txt.exc (T : Txt K mg ca ia fa fd fi) {i : Nat} (h0 : 2 ≤ i) (h1 : i ≤ 26) : ExcC K (ca i) := by
  obtain ⟨_, c⟩ := T.err i h0 h1
  exact c.exc T.hn T.ht
theorem isi1 (T : Txt K mg ca ia fa fd fi) {i j : Nat} {σ : L2.St} {H : Hp} {a : Addr} {Q : VK} (h0 : 2 ≤ i) (h1 : i ≤ 26) (h2 : 2 ≤ j) (h3 : j ≤ 26)
    (hs : σ[0]? = some (some (.ref a))) (e : ErrI H a (ca i)) (q : Q (.bl (decide (j = i))) H) :
    tCB (rIsA K) (tCons (tVar 0) (tCons (tC (.ref (ca j))) tNil)) σ H Q :=
  ⟨_, hs, .inr ⟨a, ca i, .ref (ca j), .ref (ca j), _, rfl, .own _, e, T.exc h0 h1, T.kit h0 h1 h2 h3, q⟩⟩
theorem ok_kinds (T : Txt K mg ca ia fa fd fi) : FnOk P w K mg base CX0 1 (fa 33) (fd 33) ["_law_error"] (spKinds ca) := by
  refine T.F_l_kinds_of.ok sc_l_kinds_of (fun vs H Q E h => ?_) (fun cdv A outer s H vs Q E hr h => ?_)
  · obtain ⟨a, i, rfl, _⟩ := h
    rfl
  · obtain ⟨a, i, rfl, hi0, hi1, ee, k⟩ := h
    refine ⟨_, (pss_cons (ps_set (i := 1) sc_l_kinds_of.nd rfl (Or.inl rfl) (pe_lst (pa_cons (pe_callB call_isA (by rfl) T.n_isinstance (by decide +kernel) (pa_cons (pv 0) (pa_cons (pe_glob rfl T.c_BadCaps.g (v := .ref (ca 14)) rfl) pa_nil))) (pa_cons (pe_callB call_isA (by rfl) T.n_isinstance (by decide +kernel) (pa_cons (pv 0) (pa_cons (pe_glob rfl T.c_BadDemands.g (v := .ref (ca 10)) rfl) pa_nil))) (pa_cons (pe_callB call_isA (by rfl) T.n_isinstance (by decide +kernel) (pa_cons (pv 0) (pa_cons (pe_glob rfl T.c_BadEvent.g (v := .ref (ca 18)) rfl) pa_nil))) pa_nil)))))
      (pss_cons (ps_set (i := 1) sc_l_kinds_of.nd rfl (Or.inl rfl) (pe_op op_cat (pv 1) (pe_lst (pa_cons (pe_callB call_isA (by rfl) T.n_isinstance (by decide +kernel) (pa_cons (pv 0) (pa_cons (pe_glob rfl T.c_BadLength.g (v := .ref (ca 5)) rfl) pa_nil))) (pa_cons (pe_callB call_isA (by rfl) T.n_isinstance (by decide +kernel) (pa_cons (pv 0) (pa_cons (pe_glob rfl T.c_BadLine.g (v := .ref (ca 26)) rfl) pa_nil))) (pa_cons (pe_callB call_isA (by rfl) T.n_isinstance (by decide +kernel) (pa_cons (pv 0) (pa_cons (pe_glob rfl T.c_BadLink.g (v := .ref (ca 4)) rfl) pa_nil))) pa_nil))))))
      (pss_cons (ps_set (i := 1) sc_l_kinds_of.nd rfl (Or.inl rfl) (pe_op op_cat (pv 1) (pe_lst (pa_cons (pe_callB call_isA (by rfl) T.n_isinstance (by decide +kernel) (pa_cons (pv 0) (pa_cons (pe_glob rfl T.c_BadMoment.g (v := .ref (ca 11)) rfl) pa_nil))) (pa_cons (pe_callB call_isA (by rfl) T.n_isinstance (by decide +kernel) (pa_cons (pv 0) (pa_cons (pe_glob rfl T.c_BadNet.g (v := .ref (ca 2)) rfl) pa_nil))) (pa_cons (pe_callB call_isA (by rfl) T.n_isinstance (by decide +kernel) (pa_cons (pv 0) (pa_cons (pe_glob rfl T.c_BadOffers.g (v := .ref (ca 15)) rfl) pa_nil))) pa_nil))))))
      (pss_cons (ps_set (i := 1) sc_l_kinds_of.nd rfl (Or.inl rfl) (pe_op op_cat (pv 1) (pe_lst (pa_cons (pe_callB call_isA (by rfl) T.n_isinstance (by decide +kernel) (pa_cons (pv 0) (pa_cons (pe_glob rfl T.c_BadRates.g (v := .ref (ca 13)) rfl) pa_nil))) (pa_cons (pe_callB call_isA (by rfl) T.n_isinstance (by decide +kernel) (pa_cons (pv 0) (pa_cons (pe_glob rfl T.c_BadRows.g (v := .ref (ca 17)) rfl) pa_nil))) (pa_cons (pe_callB call_isA (by rfl) T.n_isinstance (by decide +kernel) (pa_cons (pv 0) (pa_cons (pe_glob rfl T.c_BadRun.g (v := .ref (ca 25)) rfl) pa_nil))) pa_nil))))))
      (pss_cons (ps_set (i := 1) sc_l_kinds_of.nd rfl (Or.inl rfl) (pe_op op_cat (pv 1) (pe_lst (pa_cons (pe_callB call_isA (by rfl) T.n_isinstance (by decide +kernel) (pa_cons (pv 0) (pa_cons (pe_glob rfl T.c_BadShift.g (v := .ref (ca 9)) rfl) pa_nil))) (pa_cons (pe_callB call_isA (by rfl) T.n_isinstance (by decide +kernel) (pa_cons (pv 0) (pa_cons (pe_glob rfl T.c_BadText.g (v := .ref (ca 24)) rfl) pa_nil))) (pa_cons (pe_callB call_isA (by rfl) T.n_isinstance (by decide +kernel) (pa_cons (pv 0) (pa_cons (pe_glob rfl T.c_NoEnd.g (v := .ref (ca 16)) rfl) pa_nil))) pa_nil))))))
      (pss_cons (ps_set (i := 1) sc_l_kinds_of.nd rfl (Or.inl rfl) (pe_op op_cat (pv 1) (pe_lst (pa_cons (pe_callB call_isA (by rfl) T.n_isinstance (by decide +kernel) (pa_cons (pv 0) (pa_cons (pe_glob rfl T.c_NoLink.g (v := .ref (ca 7)) rfl) pa_nil))) (pa_cons (pe_callB call_isA (by rfl) T.n_isinstance (by decide +kernel) (pa_cons (pv 0) (pa_cons (pe_glob rfl T.c_NoPacket.g (v := .ref (ca 22)) rfl) pa_nil))) (pa_cons (pe_callB call_isA (by rfl) T.n_isinstance (by decide +kernel) (pa_cons (pv 0) (pa_cons (pe_glob rfl T.c_NoRouter.g (v := .ref (ca 3)) rfl) pa_nil))) pa_nil))))))
      (pss_cons (ps_set (i := 1) sc_l_kinds_of.nd rfl (Or.inl rfl) (pe_op op_cat (pv 1) (pe_lst (pa_cons (pe_callB call_isA (by rfl) T.n_isinstance (by decide +kernel) (pa_cons (pv 0) (pa_cons (pe_glob rfl T.c_Turning.g (v := .ref (ca 12)) rfl) pa_nil))) (pa_cons (pe_callB call_isA (by rfl) T.n_isinstance (by decide +kernel) (pa_cons (pv 0) (pa_cons (pe_glob rfl T.c_NotNow.g (v := .ref (ca 19)) rfl) pa_nil))) (pa_cons (pe_callB call_isA (by rfl) T.n_isinstance (by decide +kernel) (pa_cons (pv 0) (pa_cons (pe_glob rfl T.c_Turned.g (v := .ref (ca 20)) rfl) pa_nil))) pa_nil))))))
      (pss_cons (ps_set (i := 1) sc_l_kinds_of.nd rfl (Or.inl rfl) (pe_op op_cat (pv 1) (pe_lst (pa_cons (pe_callB call_isA (by rfl) T.n_isinstance (by decide +kernel) (pa_cons (pv 0) (pa_cons (pe_glob rfl T.c_Ring.g (v := .ref (ca 21)) rfl) pa_nil))) (pa_cons (pe_callB call_isA (by rfl) T.n_isinstance (by decide +kernel) (pa_cons (pv 0) (pa_cons (pe_glob rfl T.c_TooMany.g (v := .ref (ca 6)) rfl) pa_nil))) (pa_cons (pe_callB call_isA (by rfl) T.n_isinstance (by decide +kernel) (pa_cons (pv 0) (pa_cons (pe_glob rfl T.c_Unlike.g (v := .ref (ca 8)) rfl) pa_nil))) pa_nil))))))
      (pss_one (ps_ret (pe_op op_cat (pv 1) (pe_lst (pa_cons (pe_callB call_isA (by rfl) T.n_isinstance (by decide +kernel) (pa_cons (pv 0) (pa_cons (pe_glob rfl T.c_NothingToUndo.g (v := .ref (ca 23)) rfl) pa_nil))) pa_nil))))))))))))), ?_⟩
    refine seqS (fun x H' => ∃ (l : Addr), x = .ref l ∧ Same H H' ∧ H' l = some (.lst (([14, 10, 18] : List Nat).map fun j => V.bl (decide (j = i))))) (fun Q k' => ?_) ?_
    · refine lst0 (cons0 (isi1 T hi0 hi1 (by decide) (by decide) rfl ee (cons0 (isi1 T hi0 hi1 (by decide) (by decide) rfl ee (cons0 (isi1 T hi0 hi1 (by decide) (by decide) rfl ee (⟨by show 3 ≤ sizeLine; decide, fun l nl => k' _ _ ⟨l, rfl, same_new nl, upd_same⟩⟩)))))))
    rintro _ H0 ⟨l, rfl, s0, hl⟩
    refine seqS (fun x H' => ∃ (l : Addr), x = .ref l ∧ Same H H' ∧ H' l = some (.lst (([14, 10, 18, 5, 26, 4] : List Nat).map fun j => V.bl (decide (j = i))))) (fun Q k' => ?_) ?_
    · refine ⟨_, rfl, lst0 (cons0 (isi1 T hi0 hi1 (by decide) (by decide) rfl (ee.mono s0) (cons0 (isi1 T hi0 hi1 (by decide) (by decide) rfl (ee.mono s0) (cons0 (isi1 T hi0 hi1 (by decide) (by decide) rfl (ee.mono s0) (⟨by show 3 ≤ sizeLine; decide, fun l1 nl1 => ⟨l, l1, _, _, rfl, rfl, same_new nl1 _ _ hl, upd_same, by show 6 ≤ sizeLine; decide, fun l2 nl2 => k' _ _ ⟨l2, rfl, s0.trans ((same_new nl1).trans (same_new nl2)), upd_same⟩⟩⟩)))))))⟩
    rintro _ H0 ⟨l, rfl, s0, hl⟩
    refine seqS (fun x H' => ∃ (l : Addr), x = .ref l ∧ Same H H' ∧ H' l = some (.lst (([14, 10, 18, 5, 26, 4, 11, 2, 15] : List Nat).map fun j => V.bl (decide (j = i))))) (fun Q k' => ?_) ?_
    · refine ⟨_, rfl, lst0 (cons0 (isi1 T hi0 hi1 (by decide) (by decide) rfl (ee.mono s0) (cons0 (isi1 T hi0 hi1 (by decide) (by decide) rfl (ee.mono s0) (cons0 (isi1 T hi0 hi1 (by decide) (by decide) rfl (ee.mono s0) (⟨by show 3 ≤ sizeLine; decide, fun l1 nl1 => ⟨l, l1, _, _, rfl, rfl, same_new nl1 _ _ hl, upd_same, by show 9 ≤ sizeLine; decide, fun l2 nl2 => k' _ _ ⟨l2, rfl, s0.trans ((same_new nl1).trans (same_new nl2)), upd_same⟩⟩⟩)))))))⟩
    rintro _ H0 ⟨l, rfl, s0, hl⟩
    refine seqS (fun x H' => ∃ (l : Addr), x = .ref l ∧ Same H H' ∧ H' l = some (.lst (([14, 10, 18, 5, 26, 4, 11, 2, 15, 13, 17, 25] : List Nat).map fun j => V.bl (decide (j = i))))) (fun Q k' => ?_) ?_
    · refine ⟨_, rfl, lst0 (cons0 (isi1 T hi0 hi1 (by decide) (by decide) rfl (ee.mono s0) (cons0 (isi1 T hi0 hi1 (by decide) (by decide) rfl (ee.mono s0) (cons0 (isi1 T hi0 hi1 (by decide) (by decide) rfl (ee.mono s0) (⟨by show 3 ≤ sizeLine; decide, fun l1 nl1 => ⟨l, l1, _, _, rfl, rfl, same_new nl1 _ _ hl, upd_same, by show 12 ≤ sizeLine; decide, fun l2 nl2 => k' _ _ ⟨l2, rfl, s0.trans ((same_new nl1).trans (same_new nl2)), upd_same⟩⟩⟩)))))))⟩
    rintro _ H0 ⟨l, rfl, s0, hl⟩
    refine seqS (fun x H' => ∃ (l : Addr), x = .ref l ∧ Same H H' ∧ H' l = some (.lst (([14, 10, 18, 5, 26, 4, 11, 2, 15, 13, 17, 25, 9, 24, 16] : List Nat).map fun j => V.bl (decide (j = i))))) (fun Q k' => ?_) ?_
    · refine ⟨_, rfl, lst0 (cons0 (isi1 T hi0 hi1 (by decide) (by decide) rfl (ee.mono s0) (cons0 (isi1 T hi0 hi1 (by decide) (by decide) rfl (ee.mono s0) (cons0 (isi1 T hi0 hi1 (by decide) (by decide) rfl (ee.mono s0) (⟨by show 3 ≤ sizeLine; decide, fun l1 nl1 => ⟨l, l1, _, _, rfl, rfl, same_new nl1 _ _ hl, upd_same, by show 15 ≤ sizeLine; decide, fun l2 nl2 => k' _ _ ⟨l2, rfl, s0.trans ((same_new nl1).trans (same_new nl2)), upd_same⟩⟩⟩)))))))⟩
    rintro _ H0 ⟨l, rfl, s0, hl⟩
    refine seqS (fun x H' => ∃ (l : Addr), x = .ref l ∧ Same H H' ∧ H' l = some (.lst (([14, 10, 18, 5, 26, 4, 11, 2, 15, 13, 17, 25, 9, 24, 16, 7, 22, 3] : List Nat).map fun j => V.bl (decide (j = i))))) (fun Q k' => ?_) ?_
    · refine ⟨_, rfl, lst0 (cons0 (isi1 T hi0 hi1 (by decide) (by decide) rfl (ee.mono s0) (cons0 (isi1 T hi0 hi1 (by decide) (by decide) rfl (ee.mono s0) (cons0 (isi1 T hi0 hi1 (by decide) (by decide) rfl (ee.mono s0) (⟨by show 3 ≤ sizeLine; decide, fun l1 nl1 => ⟨l, l1, _, _, rfl, rfl, same_new nl1 _ _ hl, upd_same, by show 18 ≤ sizeLine; decide, fun l2 nl2 => k' _ _ ⟨l2, rfl, s0.trans ((same_new nl1).trans (same_new nl2)), upd_same⟩⟩⟩)))))))⟩
    rintro _ H0 ⟨l, rfl, s0, hl⟩
    refine seqS (fun x H' => ∃ (l : Addr), x = .ref l ∧ Same H H' ∧ H' l = some (.lst (([14, 10, 18, 5, 26, 4, 11, 2, 15, 13, 17, 25, 9, 24, 16, 7, 22, 3, 12, 19, 20] : List Nat).map fun j => V.bl (decide (j = i))))) (fun Q k' => ?_) ?_
    · refine ⟨_, rfl, lst0 (cons0 (isi1 T hi0 hi1 (by decide) (by decide) rfl (ee.mono s0) (cons0 (isi1 T hi0 hi1 (by decide) (by decide) rfl (ee.mono s0) (cons0 (isi1 T hi0 hi1 (by decide) (by decide) rfl (ee.mono s0) (⟨by show 3 ≤ sizeLine; decide, fun l1 nl1 => ⟨l, l1, _, _, rfl, rfl, same_new nl1 _ _ hl, upd_same, by show 21 ≤ sizeLine; decide, fun l2 nl2 => k' _ _ ⟨l2, rfl, s0.trans ((same_new nl1).trans (same_new nl2)), upd_same⟩⟩⟩)))))))⟩
    rintro _ H0 ⟨l, rfl, s0, hl⟩
    refine seqS (fun x H' => ∃ (l : Addr), x = .ref l ∧ Same H H' ∧ H' l = some (.lst (([14, 10, 18, 5, 26, 4, 11, 2, 15, 13, 17, 25, 9, 24, 16, 7, 22, 3, 12, 19, 20, 21, 6, 8] : List Nat).map fun j => V.bl (decide (j = i))))) (fun Q k' => ?_) ?_
    · refine ⟨_, rfl, lst0 (cons0 (isi1 T hi0 hi1 (by decide) (by decide) rfl (ee.mono s0) (cons0 (isi1 T hi0 hi1 (by decide) (by decide) rfl (ee.mono s0) (cons0 (isi1 T hi0 hi1 (by decide) (by decide) rfl (ee.mono s0) (⟨by show 3 ≤ sizeLine; decide, fun l1 nl1 => ⟨l, l1, _, _, rfl, rfl, same_new nl1 _ _ hl, upd_same, by show 24 ≤ sizeLine; decide, fun l2 nl2 => k' _ _ ⟨l2, rfl, s0.trans ((same_new nl1).trans (same_new nl2)), upd_same⟩⟩⟩)))))))⟩
    rintro _ H0 ⟨l, rfl, s0, hl⟩
    refine ret (fun x H' => ∃ (l : Addr), x = .ref l ∧ Same H H' ∧ H' l = some (.lst (([14, 10, 18, 5, 26, 4, 11, 2, 15, 13, 17, 25, 9, 24, 16, 7, 22, 3, 12, 19, 20, 21, 6, 8, 23] : List Nat).map fun j => V.bl (decide (j = i))))) (fun Q k' => ?_) ?_
    · refine ⟨_, rfl, lst0 (cons0 (isi1 T hi0 hi1 (by decide) (by decide) rfl (ee.mono s0) (⟨by show 1 ≤ sizeLine; decide, fun l1 nl1 => ⟨l, l1, _, _, rfl, rfl, same_new nl1 _ _ hl, upd_same, by show 25 ≤ sizeLine; decide, fun l2 nl2 => k' _ _ ⟨l2, rfl, s0.trans ((same_new nl1).trans (same_new nl2)), upd_same⟩⟩⟩)))⟩
    · rintro _ H' ⟨l, rfl, s0, hl⟩
      exact k l H' s0 hl
end
end Toy
set_option Elab.async false
set_option linter.all false
set_option maxRecDepth 100000
set_option maxHeartbeats 4000000
namespace Toy
open PySem L2 Q
def spCaught (K : PySem.W.Frag) : Sp := fun vs H Q _ => ∃ (v : V) (D : PyData), vs = [v] ∧ Dd K H v D ∧ Shows D ∧ ∀ H', Same H H' → Q (.bl true) H'
section
variable {P : Program} {w : World} {K : PySem.W.Frag} {mg : Str → Option Value} {base : Heap} {ca ia fa : Nat → Addr} {fd fi : Nat → FuncData}
theorem Txt.exm (T : Txt K mg ca ia fa fd fi) {i : Nat} (h0 : 2 ≤ i) (h1 : i ≤ 26) : PySem.W.exmOne K (.ref (ca i)) (.ref (ca 1)) = some true := by
  obtain ⟨_, c⟩ := T.err i h0 h1
  obtain ⟨d1, d2, d3⟩ := cls_of T.cN.xL
  refine PySem.W.exm_ref ?_ d2 d3 ?_
  · obtain ⟨_, _, _, _, _, _, _, _, _, _, _, _, _, _, e⟩ := T.cN.xL
    show PySem.W.mroIn K (ca 1) _ = _
    unfold PySem.W.mroIn PySem.W.clsIn
    rw [e]
    rfl
  · rw [c.sub]
    congr 1
    simp
theorem ok_caught (T : Txt K mg ca ia fa fd fi) : FnG P w K mg base CX0 4 (fa 35) (fd 35) ["_law_value"] (spCaught K) := by
  refine okG T.F_l_is_caught sc_l_is_caught (fun vs H Q E h => ?_) (fun cdv A outer s H vs Q E hgd hr h => ?_)
  · obtain ⟨v, D, rfl, _⟩ := h
    rfl
  · obtain ⟨v, D, rfl, hd, hs, k⟩ := h
    refine ⟨_, (pss_cons (ps_set (i := 1) sc_l_is_caught.nd rfl (Or.inl rfl) pe_non)
      (pss_cons (ps_try_keep (i := 2) (tb := _) (ts := _) (Wout := fun _ _ _ _ => False) rfl rfl rfl sc_l_is_caught.nd rfl rfl ⟨rfl, by decide, Or.inl T.cN.g⟩ takes0
      (fun W pn xe tk _ => pss_one (ps_raise rfl tk (pmk_oex T.c_NoLink.oex T.iC_NoLink T.tI_NoLink (in_NoLink T) (hr.mono (by decide)) T.bi_NoLink .nil pass0 rfl T.c_NoLink.g (pa_cons (pv 0) pa_nil))))
      (fun a oe cls d pn hz hf => (pss_one (ps_set (i := 1) sc_l_is_caught.nd rfl (Or.inl rfl) (pv 2)))))
      (pss_one (ps_ret (pe_and (pe_callB call_isA (by rfl) T.n_isinstance (by decide +kernel) (pa_cons (pv 1) (pa_cons (pe_glob rfl T.c_NoLink.g (v := .ref (ca 7)) rfl) pa_nil))) (pe_one (pe_cmpR op_eq (pe_repr hgd hr T.n_repr (pe_errf (pv 1))) (pe_repr hgd hr T.n_repr (pv 0)) (nomark _)))))))), ?_⟩
    refine seqS (fun x H' => x = .non ∧ H = H') (fun Q k' => k' _ _ ⟨rfl, rfl⟩) ?_
    rintro _ _ ⟨rfl, rfl⟩
    refine ⟨_, rfl, (by show 1 ≤ 1000; decide), fun a na => ⟨a, v, rfl, upd_same, fun d H1 b nd ea ed => ⟨rfl, d, _, ea, ed, ?_, ?_⟩⟩⟩
    · cases q : H d with
      | none => rfl
      | some o =>
        rw [same_new na _ _ q] at nd
        cases nd
    have nd0 : H d = none := by
      cases q : H d with
      | none => rfl
      | some o =>
        rw [same_new na _ _ q] at nd
        cases nd
    have s1 : Same H (upd (del H1 a) d (.xd [("value", v)])) := fun c o e => by
      rw [upd_ne (ne_of_none e nd0), del_ne (ne_of_none e na)]
      exact b c o (ne_of_none e na) (same_new na _ _ e)
    refine ⟨true, T.exm (by decide) (by decide), fun _ => ⟨ca 7, rfl, fun a2 na2 => ⟨_, rfl, ?_⟩⟩, fun z => nomatch z⟩
    refine nxt ?_
    refine stepH (G := Ends.nx _) (H0 := upd _ a2 (exv a2 (ca 7) (some d))) (fun H2 => ErrAt H2 a2 (ca 7) [("value", v)] ∧ Same H H2) ⟨⟨d, .inr upd_same, .inr ?_⟩, s1.trans (same_new na2)⟩ ?_
    · refine same_new na2 _ _ upd_same
    rintro H2 ⟨ee, s2⟩
    have hd2 := hd.same s2
    refine ⟨_, rfl, .inr ⟨a2, ca 7, .ref (ca 7), .ref (ca 7), _, rfl, .own _, ee.i, T.exc (by decide) (by decide), T.kit (by decide) (by decide) (by decide) (by decide), ?_⟩⟩
    refine ⟨_, rfl, ?_⟩
    rw [if_pos (by decide)]
    refine ⟨_, rfl, a2, ca 7, _, v, rfl, ee, T.exc (by decide) (by decide), T.no_NoLink_value, rfl, v, D, rfl, hd2, hs, _, rfl, v, D, rfl, hd2, hs, rfl, ?_⟩
    rw [decide_eq_true rfl]
    exact k H2 s2
end
end Toy
set_option Elab.async false
set_option linter.all false
set_option maxRecDepth 100000
set_option maxHeartbeats 8000000
namespace Toy
open PySem L2 Q
/-! ### small data -/
structure Sm (n k : Nat) (d : PyData) : Prop where
  ok : d.showable = true
  len : d.shown.length ≤ n
  dp : d.depth ≤ k
theorem Sm.mono {n k n' k' : Nat} {d : PyData} (h : Sm n k d) (a : n ≤ n') (b : k ≤ k') : Sm n' k' d :=
  ⟨h.ok, Nat.le_trans h.len a, Nat.le_trans h.dp b⟩
theorem Sm.shows {n k : Nat} {d : PyData} (h : Sm n k d) (a : n ≤ 100000) (b : k ≤ 100) : Shows d :=
  ⟨h.ok, Nat.le_trans h.len (Nat.le_trans a (by decide)), Nat.le_trans h.dp b⟩
theorem sm_all {n k : Nat} : ∀ {xs : List PyData}, (∀ x ∈ xs, Sm n k x) →
    PyData.showableAll xs = true ∧ piled (PyData.shownAll xs) ≤ xs.length * (n + 2) ∧ PyData.depthAll xs ≤ k
  | [], _ => ⟨rfl, Nat.zero_le _, Nat.zero_le _⟩
  | x :: xs, h => by
    obtain ⟨h1, h2, h3⟩ := sm_all (xs := xs) fun y m => h y (List.mem_cons_of_mem _ m)
    obtain ⟨q1, q2, q3⟩ := h x (List.mem_cons_self ..)
    refine ⟨?_, ?_, ?_⟩
    · simp only [PyData.showableAll, q1, h1, Bool.and_self]
    · simp only [PyData.shownAll, piled_cons, List.length_cons, Nat.succ_mul]
      omega
    · simp only [PyData.depthAll]
      omega
theorem sm_tuple {n k : Nat} {xs : List PyData} (h : ∀ x ∈ xs, Sm n k x) : Sm (xs.length * (n + 2) + 2) (k + 1) (.tuple xs) := by
  obtain ⟨h1, h2, h3⟩ := sm_all h
  refine ⟨?_, ?_, ?_⟩
  · simp only [PyData.showable, h1]
  · simp only [PyData.shown]
    exact Nat.le_trans (fmt_text _) (by omega)
  · simp only [PyData.depth]
    omega
theorem sm_odd : ∀ d ∈ oddDs, Sm 20 2 d := by
  have h : ∀ d ∈ oddDs, d.showable = true ∧ d.shown.length ≤ 20 ∧ d.depth ≤ 2 := by
    intro d hd
    simp only [oddDs, List.mem_cons, List.not_mem_nil, or_false] at hd
    rcases hd with rfl | rfl | rfl | rfl | rfl | rfl | rfl | rfl | rfl | rfl | rfl | rfl | rfl | rfl | rfl | rfl <;> decide +kernel
  exact fun d m => ⟨(h d m).1, (h d m).2.1, (h d m).2.2⟩
theorem sm_int {n : Nat} (h : n < 99) : Sm 20 2 (.int (n : Int)) := by
  have q : ∀ m : _root_.Fin 99, (PyData.int (m.val : Int)).showable = true ∧ (PyData.int (m.val : Int)).shown.length ≤ 20 ∧ (PyData.int (m.val : Int)).depth ≤ 2 := by decide +kernel
  have z := q ⟨n, h⟩
  exact ⟨z.1, z.2.1, z.2.2⟩
theorem sm_a : Sm 20 2 (.str "a") := ⟨by decide +kernel, by decide +kernel, by decide +kernel⟩
theorem sm_ab : Sm 20 2 (.tuple [.str "a", .tuple [.str "b", .int 1]]) := ⟨by decide +kernel, by decide +kernel, by decide +kernel⟩
theorem sm_1a : Sm 20 2 (.tuple [.int 1, .str "a"]) := ⟨by decide +kernel, by decide +kernel, by decide +kernel⟩
theorem sm_none : Sm 20 2 .none := ⟨by decide +kernel, by decide +kernel, by decide +kernel⟩
end Toy
set_option Elab.async false
set_option linter.all false
set_option maxRecDepth 100000
set_option maxHeartbeats 8000000
namespace Toy
open PySem L2 Q
theorem seqIf0 {t : TT} {a u : TS} {D : Ends} {σ : L2.St} {H : Hp} (P : Hp → Prop) (h : ∀ Q : Bool → Hp → Prop, (∀ H', P H' → Q false H') → t σ H Q)
    (k : ∀ H', P H' → u D σ H') : tSeq (tIfS t a tNext) u D σ H := h _ fun H' p => by
  show (if false = true then _ else _)
  rw [if_neg Bool.false_ne_true]
  exact k H' p
theorem for_en {K : PySem.W.Frag} {a : Addr} {xs : List V} {g : TG} {tb : TS} {D : Ends} {σ : L2.St} {H : Hp} (Pv : Nat → L2.St → Hp → Prop) (h0 : Pv 0 σ H)
    (hl : ∀ i σ H, i ≤ xs.length → Pv i σ H → SqL K H a xs)
    (hs : ∀ i x T σ H, xs[i]? = some x → Pv i σ H → H T = none → g (.ref T) σ (upd H T (.tup [.int (i : Nat), x])) fun σ2 H2 => tb { D with nx := Pv (i + 1), ct := Pv (i + 1), bk := D.nx } σ2 H2)
    (hd : ∀ σ H, Pv xs.length σ H → D.nx σ H) :
    ∃ W : Nat → Nat → L2.St → Hp → Prop, (∃ m, W 0 m σ H) ∧ ∀ i m σ H, W i m σ H → ((Ite K a).stop i H ∧ D.nx σ H) ∨ ((Ite K a).go i H ∧
      ∃ N : L2.St → Hp → Prop, (∀ σ' H', N σ' H' → ∃ m', m' < m ∧ W (i + 1) m' σ' H') ∧ ∀ x H', (Ite K a).yld i H x H' → g x σ H' fun σ2 H2 => tb { D with nx := N, ct := N, bk := D.nx } σ2 H2) := by
  refine ⟨fun i m σ H => m + i = xs.length ∧ Pv i σ H, ⟨xs.length, rfl, h0⟩, ?_⟩
  rintro i m σ H ⟨e, q⟩
  have sq := hl i σ H (by omega) q
  by_cases hi : i < xs.length
  · have at_ := List.getElem?_eq_getElem hi
    refine .inr ⟨⟨xs, xs[i], sq, at_⟩, Pv (i + 1), fun σ' H' z => ⟨m - 1, by omega, by omega, z⟩, ?_⟩
    rintro x H' ⟨T, y, rfl, nT, rfl, hy⟩
    exact hs i y T σ H (hy xs sq) q nT
  · have e0 : i = xs.length := by omega
    subst e0
    exact .inl ⟨⟨xs, sq, Nat.le_refl _⟩, hd σ H q⟩
abbrev WVJ : List Nat := [14, 10, 18, 5, 26, 4, 11, 2, 15, 13, 17, 25, 9, 24, 16, 7, 22, 3]
theorem paired_get {α : Type} {F : α → Addr → Prop} {ca : Nat → Addr} : ∀ {es : List α} {js : List Nat} {i : Nat} {a : α}, Paired F es (js.map ca) → es[i]? = some a → ∃ j, js[i]? = some j ∧ F a (ca j)
  | _, [], _, _, .nil, e => by simp at e
  | _ :: _, j :: js, 0, a, .cons h t, e => ⟨j, rfl, by simp at e; subst e; exact h⟩
  | _ :: _, j :: js, i + 1, a, .cons h t, e => by
    obtain ⟨k, hk, hf⟩ := paired_get (es := _) (js := js) (i := i) (a := a) t (by simpa using e)
    exact ⟨k, by simpa using hk, hf⟩
theorem paired_len {α β : Type} {F : α → β → Prop} : ∀ {l : List α} {r : List β}, Paired F l r → l.length = r.length
  | _, _, .nil => rfl
  | _, _, .cons _ t => by simp [paired_len t]
theorem kinds_eq : ∀ at_ : _root_.Fin 25, ∀ j, KO[at_.val]? = some j → KO.map (fun k => decide (k = j)) = (List.range 25).map (fun k => decide (k = at_.val)) := by
  decide +kernel
theorem bools_lay (f : Nat → Bool) : ∀ l : List Nat, PyData.canLayAll0 (l.map fun k => PyData.bool (f k)) = true ∧ PyData.depthAll (l.map fun k => PyData.bool (f k)) = 0
  | [] => ⟨rfl, rfl⟩
  | k :: l => by
    obtain ⟨h1, h2⟩ := bools_lay f l
    refine ⟨?_, ?_⟩
    · simp only [List.map_cons, PyData.canLayAll0, PyData.canLay0, h1, Bool.and_self]
    · simp only [List.map_cons, PyData.depthAll, PyData.depth, h2, Nat.max_self]
theorem bools_shaped (l : List Nat) (f : Nat → Bool) : SeqAt.shaped (.list (l.map fun k => PyData.bool (f k))) = true := by
  obtain ⟨h1, h2⟩ := bools_lay f l
  unfold SeqAt.shaped
  simp only [PyData.canLay0, h1, PyData.depth, h2, Bool.true_and]
  decide
def spFine (K : PySem.W.Frag) : Sp := fun vs H Q _ => ∃ p : Addr, vs = [.ref p] ∧ Pot H p 0 ∧ ∀ H', But p H H' → Q (.bl true) H'
theorem pot_new {H : Hp} {p a : Addr} {B : Nat} {o : HO} (h : Pot H p B) (n : H a = none) : Pot (upd H a o) p B ∧ a ≠ p := by
  refine ⟨h.same (same_new n), ?_⟩
  obtain ⟨_, _, _, e, _⟩ := h
  exact (ne_of_none e n).symm
section
variable {P : Program} {w : World} {K : PySem.W.Frag} {mg : Str → Option Value} {base : Heap} {ca ia fa : Nat → Addr} {fd fi : Nat → FuncData}
theorem Txt.noV (T : Txt K mg ca ia fa fd fi) {j : Nat} (h : j ∈ WVJ) : PySem.W.findIn K (.ref (ca j)) "value" = some none := by
  simp only [WVJ, List.mem_cons, List.not_mem_nil, or_false] at h
  rcases h with rfl | rfl | rfl | rfl | rfl | rfl | rfl | rfl | rfl | rfl | rfl | rfl | rfl | rfl | rfl | rfl | rfl | rfl
  · exact T.no_BadCaps_value
  · exact T.no_BadDemands_value
  · exact T.no_BadEvent_value
  · exact T.no_BadLength_value
  · exact T.no_BadLine_value
  · exact T.no_BadLink_value
  · exact T.no_BadMoment_value
  · exact T.no_BadNet_value
  · exact T.no_BadOffers_value
  · exact T.no_BadRates_value
  · exact T.no_BadRows_value
  · exact T.no_BadRun_value
  · exact T.no_BadShift_value
  · exact T.no_BadText_value
  · exact T.no_NoEnd_value
  · exact T.no_NoLink_value
  · exact T.no_NoPacket_value
  · exact T.no_NoRouter_value
theorem ok_fine (T : Txt K mg ca ia fa fd fi) : FnG P w K mg base CX0 5 (fa 36) (fd 36) ["_law_pot_here"] (spFine K) := by
  have G_l_take := ok_take (P := P) (w := w) (base := base) T
  have G_l_of := ok_of (P := P) (w := w) (base := base) T
  have G_l_odd := ok_odd (P := P) (w := w) (base := base) T
  have G_l_with_value := ok_with (P := P) (w := w) (base := base) T
  have G_l_kinds_of := ok_kinds (P := P) (w := w) (base := base) T
  have G_l_is_caught := ok_caught (P := P) (w := w) (base := base) T
  refine okG T.F_l_fine sc_l_fine (fun vs H Q E h => ?_) (fun cdv A outer s H vs Q E hgd hr h => ?_)
  · obtain ⟨p, rfl, _⟩ := h
    rfl
  · obtain ⟨p, rfl, hp, k⟩ := h
    refine ⟨_, (pss_cons (ps_set (i := 1) sc_l_fine.nd rfl (Or.inr rfl) (pe_call G_l_of (hr.mono (by decide)) rfl T.g_l_of T.k_l_of T.b_l_of .nil pass0 (pa_cons (pv 0) (pa_cons (pe_lst (pa_cons (pe_call G_l_odd (hr.mono (by decide)) rfl T.g_l_odd T.k_l_odd T.b_l_odd .nil pass0 (pa_cons (pv 0) pa_nil)) (pa_cons (pe_tup (pa_cons (pe_call G_l_odd (hr.mono (by decide)) rfl T.g_l_odd T.k_l_odd T.b_l_odd .nil pass0 (pa_cons (pv 0) pa_nil)) (pa_cons (pe_call G_l_odd (hr.mono (by decide)) rfl T.g_l_odd T.k_l_odd T.b_l_odd .nil pass0 (pa_cons (pv 0) pa_nil)) pa_nil))) (pa_cons (pe_call G_l_take (hr.mono (by decide)) rfl T.g_l_take T.k_l_take T.b_l_take .nil pass0 (pa_cons (pv 0) (pa_cons pe_int pa_nil))) (pa_cons pe_str (pa_cons (pe_tup (pa_cons pe_str (pa_cons (pe_tup (pa_cons pe_str (pa_cons pe_int pa_nil))) pa_nil))) pa_nil)))))) pa_nil))))
      (pss_cons (ps_set (i := 2) sc_l_fine.nd rfl (Or.inl rfl) (pe_call G_l_of (hr.mono (by decide)) rfl T.g_l_of T.k_l_of T.b_l_of .nil pass0 (pa_cons (pv 0) (pa_cons (pe_lst (pa_cons (pe_call G_l_odd (hr.mono (by decide)) rfl T.g_l_odd T.k_l_odd T.b_l_odd .nil pass0 (pa_cons (pv 0) pa_nil)) (pa_cons (pe_tup (pa_cons pe_int (pa_cons pe_str pa_nil))) (pa_cons pe_non pa_nil)))) pa_nil))))
      (pss_cons (ps_set (i := 3) sc_l_fine.nd rfl (Or.inl rfl) (pe_call G_l_with_value (hr.mono (by decide)) rfl T.g_l_with_value T.k_l_with_value T.b_l_with_value .nil pass0 (pa_cons (pv 1) pa_nil)))
      (pss_cons (ps_if (pt_not (pt_val (pe_callB (cr_all rfl) (by rfl) T.n_all (by decide +kernel) (pa_cons (pe_lc (own := [("_law_error", 4)]) (g := (gName 4)) (tt := tYes) (te := (tOp rEq (tCB (rRepr K) (tCons (tErrF K "value" (tVar 4)) tNil)) (tCB (rRepr K) (tCons (tVar 1) tNil)))) rfl sc_l_fine.nd (pi_list (pv 3)) (blkOk_by (own := [("_law_error", 4)]) (N := N_l_fine) (sc := defScope s_l_fine) (by decide +kernel)) (fun _ _ _ _ _ => (pg_name (i := 4) sc_l_fine.nd rfl (Or.inl rfl))) (fun _ _ _ _ _ => pts_nil) (fun _ _ _ _ _ => by exact (pe_cmpR op_eq (pe_repr hgd hr T.n_repr (pe_errf (pv 4))) (pe_repr hgd hr T.n_repr (pv 1)) (nomark _)))) pa_nil)))) (pss_one (ps_ret pe_bl)) pss_nil)
      (pss_cons (ps_asg (pe_tup (pa_cons (pe_mkv T.c_Turning.oex T.iC_Turning T.tI_Turning (in_Turning T) (hr.mono (by decide)) T.bi_Turning .nil pass0 rfl T.c_Turning.g (pa_cons (pv 1) pa_nil)) (pa_cons (pe_mkv T.c_NotNow.oex T.iC_NotNow T.tI_NotNow (in_NotNow T) (hr.mono (by decide)) T.bi_NotNow .nil pass0 rfl T.c_NotNow.g (pa_cons (pv 2) pa_nil)) (pa_cons (pe_mkv T.c_Turned.oex T.iC_Turned T.tI_Turned (in_Turned T) (hr.mono (by decide)) T.bi_Turned .nil pass0 rfl T.c_Turned.g (pa_cons (pv 1) (pa_cons (pv 2) pa_nil))) (pa_cons (pe_mkv T.c_Ring.oex T.iC_Ring T.tI_Ring (in_Ring T) (hr.mono (by decide)) T.bi_Ring .nil pass0 rfl T.c_Ring.g (pa_cons (pv 2) pa_nil)) pa_nil))))) (pg_tup rfl (pgs_cons (pg_name (i := 5) sc_l_fine.nd rfl (Or.inl rfl)) (pgs_cons (pg_name (i := 6) sc_l_fine.nd rfl (Or.inl rfl)) (pgs_cons (pg_name (i := 7) sc_l_fine.nd rfl (Or.inl rfl)) (pgs_cons (pg_name (i := 8) sc_l_fine.nd rfl (Or.inl rfl)) pgs_nil))))))
      (pss_cons (ps_set (i := 9) sc_l_fine.nd rfl (Or.inl rfl) (pe_tup (pa_cons (pe_errf (pv 5)) (pa_cons (pe_errf (pv 6)) (pa_cons (pe_errf (pv 7)) (pa_cons (pe_errf (pv 7)) (pa_cons (pe_errf (pv 8)) pa_nil)))))))
      (pss_cons (ps_if (pt_cmpR op_ne (pe_repr hgd hr T.n_repr (pv 9)) (pe_repr hgd hr T.n_repr (pe_tup (pa_cons (pv 1) (pa_cons (pv 2) (pa_cons (pv 1) (pa_cons (pv 2) (pa_cons (pv 2) pa_nil))))))) (nomark _)) (pss_one (ps_ret pe_bl)) pss_nil)
      (pss_cons (ps_set (i := 3) sc_l_fine.nd rfl (Or.inl rfl) (pe_op op_cat (pv 3) (pe_lst (pa_cons (pv 5) (pa_cons (pv 6) (pa_cons (pv 7) (pa_cons (pv 8) (pa_cons (pe_mk0 PySem.F.excBase_ValueError T.x_TooMany T.c_TooMany.g T.c_TooMany.kC (by rfl)) (pa_cons (pe_mk0 PySem.F.excBase_ValueError T.x_Unlike T.c_Unlike.g T.c_Unlike.kC (by rfl)) (pa_cons (pe_mk0 PySem.F.excBase_ValueError T.x_NothingToUndo T.c_NothingToUndo.g T.c_NothingToUndo.kC (by rfl)) pa_nil))))))))))
      (pss_cons (ps_for PassesOwn.never rfl (pi_enum (by rfl) T.n_enumerate (pa_cons (pv 3) pa_nil)) (pg_tup rfl (pgs_cons (pg_name (i := 10) sc_l_fine.nd rfl (Or.inr rfl)) (pgs_cons (pg_name (i := 4) sc_l_fine.nd rfl (Or.inl rfl)) pgs_nil))) (pss_cons (ps_if (pt_cmpR (op_neD hr.units) (pe_call G_l_kinds_of (hr.mono (by decide)) rfl T.g_l_kinds_of T.k_l_kinds_of T.b_l_kinds_of .nil pass0 (pa_cons (pv 4) pa_nil)) (pe_lc (own := [("_law_k", 11)]) (g := (gName 11)) (tt := tYes) rfl sc_l_fine.nd (pi_range1 rfl T.n_range (pa_cons (pe_callB call_len (by rfl) T.n_len (by decide +kernel) (pa_cons (pv 3) pa_nil)) pa_nil)) (blkOk_by (own := [("_law_k", 11)]) (N := N_l_fine) (sc := defScope s_l_fine) (by decide +kernel)) (fun _ _ _ _ _ => (pg_name (i := 11) sc_l_fine.nd rfl (Or.inl rfl))) (fun _ _ _ _ _ => pts_nil) (fun _ _ _ _ _ => by exact (pe_cmpR op_eq (pv 11) (pv 10) (nomark _)))) (nomark _)) (pss_one (ps_ret pe_bl)) pss_nil)
      (pss_one (ps_if (PW.pt (pw_or (pt_not (pt_val (pe_callB call_isA (by rfl) T.n_isinstance (by decide +kernel) (pa_cons (pv 4) (pa_cons (pe_glob rfl T.cN.g (v := .ref (ca 1)) rfl) pa_nil))))) (pw_or1 (pt_not (pt_val (pe_callB call_isA (by rfl) T.n_isinstance (by decide +kernel) (pa_cons (pv 4) (pa_cons (pe_bltn (v := .ty "ValueError") (by rfl) T.n_ValueError (by decide +kernel) rfl) pa_nil)))))))) (pss_one (ps_ret pe_bl)) pss_nil))))
      (pss_one (ps_ret (pe_callG G_l_is_caught hgd (hr.mono (by decide)) rfl T.g_l_is_caught T.k_l_is_caught T.b_l_is_caught .nil pass0 (pa_cons (pv 1) pa_nil))))))))))))), ?_⟩
    -- the value
    refine seqS (fun v H' => ∃ D, Dd K (off H' p) v D ∧ Sm 60 3 D ∧ Pot H' p 5 ∧ But p H H') (fun Q k' => ?_) ?_
    · refine ⟨_, rfl, lst0 (cons0 ⟨_, rfl, p, 0, rfl, hp, by decide, fun v1 d1 H1 b1 p1 h1 m1 => ?_⟩)⟩
      refine cons0 (tup0 (cons0 ⟨_, rfl, p, _, rfl, p1, by decide, fun v2 d2 H2 b2 p2 h2 m2 => cons0 ⟨_, rfl, p, _, rfl, p2, by decide, fun v3 d3 H3 b3 p3 h3 m3 => ⟨by show 2 ≤ sizeLine; decide, fun t nt => ?_⟩⟩⟩))
      obtain ⟨p4, ntp⟩ := pot_new (o := .tup [v2, v3]) p3 nt
      have s4 := same_new (o := .tup [v2, v3]) nt
      refine cons0 ⟨_, rfl, p, 99, _, rfl, p4, by decide, by decide, by decide, fun n H5 hn b5 p5 => ?_⟩
      refine ⟨by show 2 ≤ sizeLine; decide, fun t2 n2 => ⟨by show 2 ≤ sizeLine; decide, fun t3 n3 => ⟨by show 5 ≤ sizeLine; decide, fun l nl => ?_⟩⟩⟩
      obtain ⟨p6, n2p⟩ := pot_new (o := .tup [.str "b", .int 1]) p5 n2
      obtain ⟨p7, n3p⟩ := pot_new (o := .tup [.str "a", .ref t2]) p6 n3
      obtain ⟨p8, nlp⟩ := pot_new (o := .lst [v1, .ref t, .int n, .str "a", .ref t3]) p7 nl
      have s6 := same_new (o := .tup [.str "b", .int 1]) n2
      have s7 := same_new (o := .tup [.str "a", .ref t2]) n3
      have s8 := same_new (o := .lst [v1, .ref t, .int n, .str "a", .ref t3]) nl
      have f1 := h1.same b2.off
      have f2 := (h2.same b3.off).same (But.of s4).off
      have f3 := h3.same (But.of s4 (p := p)).off
      have f1' := (f1.same b3.off).same (But.of s4).off
      have e5 := (b5.trans (But.of (s6.trans (s7.trans s8)))).off
      have dat : DdAll K (off _ p) [v1, .ref t, .int n, .str "a", .ref t3] [d1, .tuple [d2, d3], .int n, .str "a", .tuple [.str "a", .tuple [.str "b", .int 1]]] :=
        .cons (f1'.same e5) (.cons (Dd.same e5 (.tup (SqT.of (off_at upd_same ntp)) (.cons f2 (.cons f3 .nil)))) (.cons (.int _) (.cons (.str _)
          (.cons (.tup (SqT.of (off_at (s8 _ _ upd_same) n3p)) (.cons (.str _) (.cons (.tup (SqT.of (off_at ((s7.trans s8) _ _ upd_same) n2p)) (.cons (.str _) (.cons (.int _) .nil))) .nil))) .nil))))
      refine ⟨p, .ref l, _, _, rfl, p8, by decide, .inl ⟨l, rfl, nlp, SqL.of upd_same⟩, (by show 0 < 5; decide), (by show 5 < 1073741824; decide), fun d v H9 hv b9 p9 => ?_⟩
      obtain ⟨D, hm, hD⟩ := dd_get dat hv
      refine k' v H9 ⟨D, hD.same b9.off, ?_, p9.mono (by decide), ?_⟩
      · have o1 := sm_odd d1 m1
        have o2 := sm_odd d2 m2
        have o3 := sm_odd d3 m3
        simp only [List.mem_cons, List.not_mem_nil, or_false] at hm
        rcases hm with rfl | rfl | rfl | rfl | rfl
        · exact o1.mono (by decide) (by decide)
        · refine (sm_tuple (n := 20) (k := 2) fun x hx => ?_).mono (by show 2 * (20 + 2) + 2 ≤ 60; decide) (by decide)
          simp only [List.mem_cons, List.not_mem_nil, or_false] at hx
          rcases hx with rfl | rfl
          · exact o2
          · exact o3
        · exact (sm_int (by omega)).mono (by decide) (by decide)
        · exact sm_a.mono (by decide) (by decide)
        · exact sm_ab.mono (by decide) (by decide)
      · exact (((b1.trans b2).trans b3).trans (But.of s4)).trans (b5.trans ((But.of (s6.trans (s7.trans s8))).trans b9))
    rintro v H1 ⟨D, hv, hsm, hp1, b1⟩
    -- the other value
    refine seqS (fun u H' => ∃ D', Dd K (off H' p) u D' ∧ Sm 60 3 D' ∧ But p H1 H') (fun Q k' => ?_) ?_
    · refine ⟨_, rfl, lst0 (cons0 ⟨_, rfl, p, _, rfl, hp1, by decide, fun v1 d1 H2 b2 p2 h2 m2 => ?_⟩)⟩
      refine ⟨by show 2 ≤ sizeLine; decide, fun t nt => ⟨by show 3 ≤ sizeLine; decide, fun l nl => ?_⟩⟩
      obtain ⟨p3, ntp⟩ := pot_new (o := .tup [.int 1, .str "a"]) p2 nt
      obtain ⟨p4, nlp⟩ := pot_new (o := .lst [v1, .ref t, .non]) p3 nl
      have s3 := same_new (o := .tup [.int 1, .str "a"]) nt
      have s4 := same_new (o := .lst [v1, .ref t, .non]) nl
      have e2 := (But.of (s3.trans s4) (p := p)).off
      have dat : DdAll K (off _ p) [v1, .ref t, .non] [d1, .tuple [.int 1, .str "a"], .none] :=
        .cons (h2.same e2) (.cons (.tup (SqT.of (off_at (s4 _ _ upd_same) ntp)) (.cons (.int _) (.cons (.str _) .nil))) (.cons .non .nil))
      refine ⟨p, .ref l, _, _, rfl, p4, by decide, .inl ⟨l, rfl, nlp, SqL.of upd_same⟩, (by show 0 < 3; decide), (by show 3 < 1073741824; decide), fun d u H9 hu b9 p9 => ?_⟩
      obtain ⟨D', hm, hD⟩ := dd_get dat hu
      refine k' u H9 ⟨D', hD.same b9.off, ?_, b2.trans ((But.of (s3.trans s4)).trans b9)⟩
      simp only [List.mem_cons, List.not_mem_nil, or_false] at hm
      rcases hm with rfl | rfl | rfl
      · exact (sm_odd _ m2).mono (by decide) (by decide)
      · exact sm_1a.mono (by decide) (by decide)
      · exact sm_none.mono (by decide) (by decide)
    rintro u H2 ⟨D', hu, hsm', b2⟩
    have hv2 := (hv.same b2.off).same (off_same H2 p)
    have hu2 := hu.same (off_same H2 p)
    have bb := b1.trans b2
    -- the errors that keep one value
    refine seqS (fun x H' => ∃ (l : Addr) (es : List Addr), x = .ref l ∧ Same H2 H' ∧ H' l = some (.lst (es.map V.ref)) ∧ ErrsV H' v es [ca 14, ca 10, ca 18, ca 5, ca 26, ca 4, ca 11, ca 2, ca 15, ca 13, ca 17, ca 25, ca 9, ca 24, ca 16, ca 7, ca 22, ca 3]) (fun Q k' => ?_) ?_
    · exact ⟨_, rfl, v, rfl, fun l es H' s hl he => k' _ _ ⟨l, es, rfl, s, hl, he⟩⟩
    rintro _ H3 ⟨l, es, rfl, s3, hl, he⟩
    have hv3 := hv2.same s3
    have hu3 := hu2.same s3
    have shv := hsm.shows (by decide) (by decide)
    -- they keep it
    refine seqIf0 (fun H' => Same H3 H') (fun Q k' => ?_) ?_
    · refine ⟨_, rfl, l, rfl, ⟨_, SqL.of hl⟩, fun D0 hD => lc_list (K := K) (a := l) (xs := es.map V.ref) (fun i H' => Same H3 H' ∧ H' D0 = some (.lst ((List.replicate i true).map V.bl)))
        ⟨same_new hD, upd_same⟩ (fun i H' _ z => z.1.seq (SqL.of hl)) ?_ ?_⟩
      · rintro i x H' hx ⟨s, hD'⟩
        refine ⟨rfl, ?_⟩
        dsimp only [tYes]
        rw [if_pos rfl]
        rw [List.getElem?_map] at hx
        obtain ⟨a, ha, rfl⟩ := Option.map_eq_some_iff.mp hx
        obtain ⟨j, hj, ee⟩ := paired_get (js := WVJ) he ha
        have mj : j ∈ WVJ := List.mem_of_getElem? hj
        have rj : 2 ≤ j ∧ j ≤ 26 := by
          have q : ∀ j ∈ WVJ, 2 ≤ j ∧ j ≤ 26 := by decide
          exact q j mj
        have li : i < 18 := by
          have q := (List.getElem?_eq_some_iff.mp hj).1
          exact q
        refine ⟨_, rfl, a, ca j, _, v, rfl, ee.mono s, T.exc rj.1 rj.2, T.noV mj, rfl, v, D, rfl, hv3.same s, shv, _, rfl, v, D, rfl, hv3.same s, shv, rfl, ?_⟩
        refine ⟨_, hD', ?_, fun b o e => ?_, ?_⟩
        · rw [List.length_map, List.length_replicate]
          exact small1000 (by omega)
        · rw [upd_ne (ne_of_none e hD)]
          exact s b o e
        · rw [upd_same, decide_eq_true rfl, List.replicate_succ', List.map_append]
          rfl
      · rintro H' ⟨s, hD'⟩
        refine ⟨D0, _, rfl, SqL.of hD', _, rfl, ?_⟩
        have e : (List.replicate (es.map V.ref).length true).all id = true := by simp
        rw [e]
        exact k' H' s
    intro H4 s4
    have hv4 := hv3.same s4
    have hu4 := hu3.same s4
    -- four more
    refine seqA (fun x H' => ∃ (t a1 a2 a3 a4 : Addr), x = .ref t ∧ H' t = some (.tup [.ref a1, .ref a2, .ref a3, .ref a4]) ∧ Same H4 H' ∧ ErrAt H' a1 (ca 12) [("destination", v)] ∧
      ErrAt H' a2 (ca 19) [("event", u)] ∧ ErrAt H' a3 (ca 20) [("router", u), ("packet", v)] ∧ ErrAt H' a4 (ca 21) [("ring", u)]) (fun Q k' => ?_) ?_
    · refine tup0 (cons0 (mk1 (var rfl) fun a1 G1 g1 e1 _ => ?_))
      refine cons0 (mk1 (var rfl) fun a2 G2 g2 e2 _ => ?_)
      refine cons0 (mk2 (var rfl) (var rfl) fun a3 G3 g3 e3 _ => ?_)
      refine cons0 (mk1 (var rfl) fun a4 G4 g4 e4 _ => ?_)
      refine ⟨by show 4 ≤ sizeLine; decide, fun t nt => ?_⟩
      have n := same_new (o := .tup [.ref a1, .ref a2, .ref a3, .ref a4]) nt
      exact k' _ _ ⟨t, a1, a2, a3, a4, rfl, upd_same, g1.trans (g2.trans (g3.trans (g4.trans n))), e1.mono (g2.trans (g3.trans (g4.trans n))), e2.mono (g3.trans (g4.trans n)), e3.mono (g4.trans n), e4.mono n⟩
    rintro _ H5 ⟨t, a1, a2, a3, a4, rfl, ht, s5, e1, e2, e3, e4⟩
    refine ⟨t, _, rfl, SqT.of ht, rfl, _, _, rfl, _, _, rfl, _, _, rfl, _, _, rfl, rfl, ?_⟩
    have hv5 := hv4.same s5
    have hu5 := hu4.same s5
    -- what they keep
    refine seqS (fun x H' => ∃ t9, x = .ref t9 ∧ H' t9 = some (.tup [v, u, v, u, u]) ∧ Same H5 H') (fun Q k' => ?_) ?_
    · refine ⟨_, rfl, a1, ca 12, _, v, rfl, e1, T.exc (by decide) (by decide), T.no_Turning_destination, rfl, ?_⟩
      refine ⟨_, rfl, a2, ca 19, _, u, rfl, e2, T.exc (by decide) (by decide), T.no_NotNow_event, rfl, ?_⟩
      refine ⟨_, rfl, a3, ca 20, _, v, rfl, e3, T.exc (by decide) (by decide), T.no_Turned_packet, rfl, ?_⟩
      refine ⟨_, rfl, a3, ca 20, _, u, rfl, e3, T.exc (by decide) (by decide), T.no_Turned_router, rfl, ?_⟩
      refine ⟨_, rfl, a4, ca 21, _, u, rfl, e4, T.exc (by decide) (by decide), T.no_Ring_ring, rfl, ?_⟩
      exact ⟨by show 5 ≤ sizeLine; decide, fun t9 n9 => k' _ _ ⟨t9, rfl, upd_same, same_new n9⟩⟩
    rintro _ H6 ⟨t9, rfl, h9, s6⟩
    have hv6 := hv5.same s6
    have hu6 := hu5.same s6
    have big : Shows (.tuple [D, D', D, D', D']) := by
      refine Sm.shows (sm_tuple (n := 60) (k := 3) fun x hx => ?_) (by show 5 * (60 + 2) + 2 ≤ 100000; decide) (by decide)
      simp only [List.mem_cons, List.not_mem_nil, or_false] at hx
      rcases hx with rfl | rfl | rfl | rfl | rfl <;> assumption
    refine seqIf0 (fun H' => Same H6 H') (fun Q k' => ?_) ?_
    · have five : ∀ {G : Hp} {t : Addr}, Same H6 G → G t = some (.tup [v, u, v, u, u]) → Dd K G (.ref t) (.tuple [D, D', D, D', D']) := fun g e =>
        .tup (SqT.of e) (.cons (hv6.same g) (.cons (hu6.same g) (.cons (hv6.same g) (.cons (hu6.same g) (.cons (hu6.same g) .nil)))))
      refine ⟨_, rfl, _, _, rfl, five (Same.refl _) h9, big, ?_⟩
      refine ⟨_, rfl, _, rfl, _, rfl, _, rfl, _, rfl, by show 5 ≤ sizeLine; decide, fun t2 n2 => ?_⟩
      refine ⟨_, _, rfl, five (same_new n2) upd_same, big, rfl, _, rfl, ?_⟩
      rw [decide_eq_true rfl]
      exact k' _ (same_new n2)
    intro H7 s7
    -- all of them
    have S37 : Same H3 H7 := s4.trans (s5.trans (s6.trans s7))
    have S57 : Same H5 H7 := s6.trans s7
    refine seqS (fun x H' => ∃ (l2 : Addr) (es' : List Addr), x = .ref l2 ∧ Same H7 H' ∧ H' l2 = some (.lst (es'.map V.ref)) ∧ Paired (fun a C => ErrI H' a C) es' (KO.map ca)) (fun Q k' => ?_) ?_
    · refine ⟨_, rfl, _, rfl, _, rfl, _, rfl, _, rfl, fun a5 n5 => fun a6 n6 => fun a7 n7 => ?_⟩
      have m5 := same_new (o := exv a5 (ca 6) none) n5
      have m6 := same_new (o := exv a6 (ca 8) none) n6
      have m7 := same_new (o := exv a7 (ca 23) none) n7
      refine ⟨by show 7 ≤ sizeLine; decide, fun l1 nl1 => ?_⟩
      have m8 := same_new (o := .lst [.ref a1, .ref a2, .ref a3, .ref a4, .ref a5, .ref a6, .ref a7]) nl1
      have mm := m5.trans (m6.trans (m7.trans m8))
      have len := paired_len he
      refine ⟨l, l1, _, _, rfl, rfl, mm _ _ (S37 _ _ hl), upd_same, ?_, fun l2 nl2 => ?_⟩
      · rw [List.length_map, len]
        show 18 + 7 ≤ sizeLine
        decide
      have m9 := same_new (o := .lst (es.map V.ref ++ [.ref a1, .ref a2, .ref a3, .ref a4, .ref a5, .ref a6, .ref a7])) nl2
      refine k' _ _ ⟨l2, es ++ [a1, a2, a3, a4, a5, a6, a7], rfl, mm.trans m9, ?_, ?_⟩
      · rw [upd_same, List.map_append]
        rfl
      · have p1 : Paired (fun a C => ErrI _ a C) es (WVJ.map ca) := Paired.mapP he fun _ _ z => (z.i.mono S37).mono (mm.trans m9)
        refine paired_app (r₂ := ([12, 19, 20, 21, 6, 8, 23] : List Nat).map ca) p1 ?_
        refine .cons ((e1.i.mono S57).mono (mm.trans m9)) (.cons ((e2.i.mono S57).mono (mm.trans m9)) (.cons ((e3.i.mono S57).mono (mm.trans m9)) (.cons ((e4.i.mono S57).mono (mm.trans m9)) ?_)))
        exact .cons (.inl (.inr (((m6.trans (m7.trans m8)).trans m9) _ _ upd_same))) (.cons (.inl (.inr (((m7.trans m8).trans m9) _ _ upd_same))) (.cons (.inl (.inr ((m8.trans m9) _ _ upd_same))) .nil))
    rintro _ H8 ⟨l2, es', rfl, s8, hl2, he'⟩
    have hv8 := (hv6.same s7).same s8
    have len' : es'.length = 25 := paired_len he'
    -- each is of its kind alone
    refine ⟨_, rfl, l2, _, rfl, SqL.of hl2, ?_⟩
    refine for_en (K := K) (a := l2) (xs := es'.map V.ref) (fun i σ H' => ∃ (x4 x10 x11 : Option V), σ = [some (.ref p), some v, some u, some (.ref l2), x4, some (.ref a1), some (.ref a2), some (.ref a3), some (.ref a4), some (.ref t9), x10, x11] ∧ Same H8 H')
      ⟨none, none, none, rfl, Same.refl _⟩ (fun i σ H' _ ⟨_, _, _, _, s⟩ => s.seq (SqL.of hl2)) ?_ ?_
    · rintro i x TT σ G hx ⟨x4, x10, x11, rfl, sG⟩ nT
      rw [List.getElem?_map] at hx
      obtain ⟨a, ha, rfl⟩ := Option.map_eq_some_iff.mp hx
      obtain ⟨j, hj, ee⟩ := paired_get (js := KO) he' ha
      have rj : 2 ≤ j ∧ j ≤ 26 := by
        have q : ∀ j ∈ KO, 2 ≤ j ∧ j ≤ 26 := by decide
        exact q j (List.mem_of_getElem? hj)
      have li : i < 25 := (List.getElem?_eq_some_iff.mp hj).1
      have sT := same_new (o := .tup [.int (i : Nat), .ref a]) nT
      refine ⟨TT, _, rfl, SqT.of upd_same, rfl, _, _, rfl, _, _, rfl, rfl, ?_⟩
      refine seqIf0 (fun H' => Same H8 H') (fun Q k' => ?_) ?_
      · refine ⟨_, rfl, a, j, rfl, rj.1, rj.2, ee.mono (sG.trans sT), fun lk G1 g1 hk => ?_⟩
        have sl2 : SqL K G1 l2 (es'.map V.ref) := ((sG.trans sT).trans g1).seq (SqL.of hl2)
        refine ⟨_, rfl, _, _, rfl, .inl ⟨_, sl2, rfl⟩, _, rfl, ?_, ?_, fun D0 hD => ?_⟩
        · rw [List.length_map, len']; decide
        · rw [List.length_map, len']; decide
        refine lc_range (lo := 0) (n := ((es'.map V.ref).length : Int).toNat) (fun m H' => Same G1 H' ∧ H' D0 = some (.lst ((List.range m).map fun k => V.bl (decide (k = i))))) ⟨same_new hD, upd_same⟩ ?_ ?_
        · rintro m G2 hm ⟨g2, h2⟩
          refine ⟨rfl, ?_⟩
          dsimp only [tYes]
          rw [if_pos rfl]
          have hm25 : m < 25 := by
            rw [List.length_map, len'] at hm
            exact hm
          refine ⟨_, rfl, _, rfl, rfl, _, h2, ?_, fun b o e => ?_, ?_⟩
          · rw [List.length_map, List.length_range]
            exact small1000 (by omega)
          · rw [upd_ne (ne_of_none e hD)]
            exact g2 b o e
          · have e1 : decide (V.int (0 + (m : Int)) = V.int (i : Int)) = decide (m = i) := by
              rw [Int.zero_add]
              by_cases z : m = i
              · simp [z]
              · rw [decide_eq_false z, decide_eq_false]
                intro q
                injection q with q
                exact z (by omega)
            rw [upd_same, e1, List.range_succ, List.map_append]
            rfl
        · rintro G2 ⟨g2, h2⟩
          have en : ((es'.map V.ref).length : Int).toNat = 25 := by rw [List.length_map, len']; rfl
          rw [en] at h2
          have bd : ∀ (l : List Nat) (f : Nat → Bool), DpAll K G2 (l.map fun k => V.bl (f k)) (l.map fun k => PyData.bool (f k)) := fun l f => by
            induction l with
            | nil => exact .nil
            | cons k l ih => exact .cons (.bl _) ih
          have shp : ∀ (l : List Nat) (f : Nat → Bool), SeqAt.shaped (.list (l.map fun k => PyData.bool (f k))) = true := bools_shaped
          have eqd : (KO.map fun k => PyData.bool (decide (k = j))) = ((List.range 25).map fun k => PyData.bool (decide (k = i))) := by
            have q := congrArg (List.map PyData.bool) (kinds_eq ⟨i, li⟩ j hj)
            rw [List.map_map, List.map_map] at q
            exact q
          refine ⟨.list (KO.map fun k => PyData.bool (decide (k = j))), .list ((List.range 25).map fun k => PyData.bool (decide (k = i))), .lst (SqL.of (g2 _ _ hk)) (bd _ _), .lst (SqL.of h2) (bd _ _), shp _ _, shp _ _, _, rfl, ?_⟩
          rw [eqd, SeqAt.eqv_refl _ (SeqAt.canLay_of_shaped (shp _ _))]
          exact k' G2 (((sG.trans sT).trans g1).trans g2)
      · intro G1 g1
        have ek := ee.mono g1
        obtain ⟨_, c⟩ := T.err j rj.1 rj.2
        have kN : PySem.W.kitOne K (.ref (ca j)) (.ref (ca 1)) = some true := by
          obtain ⟨d1, _, d2⟩ := cls_of T.cN.xL
          rw [c.kit d1 d2]
          simp
        have no1 : ∀ (R : Bool → Hp → Prop), R false G1 → (tOr (tNot (tB (tCB (rIsA K) (tCons (tVar 4) (tCons (tC (V.ref (ca 1))) tNil))))) (tNot (tB (tCB (rIsA K) (tCons (tVar 4) (tCons (tC (V.ty "ValueError")) tNil))))))
            [some (.ref p), some v, some u, some (.ref l2), some (.ref a), some (.ref a1), some (.ref a2), some (.ref a3), some (.ref a4), some (.ref t9), some (.int (i : Nat)), x11] G1 R := by
          intro R r
          refine ⟨_, rfl, .inr ⟨a, ca j, _, .ref (ca 1), true, rfl, .own _, ek, T.exc rj.1 rj.2, kN, _, rfl, ?_⟩⟩
          show (if (!true) = true then _ else _)
          rw [if_neg (by decide)]
          exact ⟨_, rfl, .inr ⟨a, ca j, _, .type "ValueError", true, rfl, .ty _, ek, T.exc rj.1 rj.2, c.kitVE, _, rfl, r⟩⟩
        refine no1 _ ?_
        show (if false = true then _ else _)
        rw [if_neg Bool.false_ne_true]
        exact ⟨_, _, _, rfl, g1⟩
    · rintro σ G ⟨x4, x10, x11, rfl, sG⟩
      refine ⟨_, rfl, v, D, rfl, hv8.same sG, shv, fun H' s' => k H' ?_⟩
      exact bb.trans (But.of (s3.trans (S37.trans (s8.trans (sG.trans s')))))
end
end Toy
set_option Elab.async false
set_option linter.all false
set_option maxRecDepth 100000
set_option maxHeartbeats 8000000
namespace Toy
open PySem L2 Q
def spLaw (K : PySem.W.Frag) : Sp := fun vs H Q _ => ∃ (a : Addr) (ns : List Int), vs = [.ref a] ∧ SqL K H a (ns.map V.int) ∧ ns.length ≤ 63 ∧ ∀ H', Q (.bl true) H'
section
variable {P : Program} {w : World} {K : PySem.W.Frag} {mg : Str → Option Value} {base : Heap} {ca ia fa : Nat → Addr} {fd fi : Nat → FuncData}
theorem ok_law (T : Txt K mg ca ia fa fd fi) : FnG P w K mg base CX0 6 (fa 37) (fd 37) ["_law_script"] (spLaw K) := by
  have G_l_pots := ok_pots (P := P) (w := w) (base := base) T
  have G_l_fine := ok_fine (P := P) (w := w) (base := base) T
  refine okG T.F_law sc_law (fun vs H Q E h => ?_) (fun cdv A outer s H vs Q E hgd hr h => ?_)
  · obtain ⟨a, ns, rfl, _⟩ := h
    rfl
  · obtain ⟨a, ns, rfl, hS, hl, k⟩ := h
    refine ⟨_, (pss_one (ps_ret (pe_callB (cr_all rfl) (by rfl) T.n_all (by decide +kernel) (pa_cons (pe_lc (own := [("_law_pot_here", 1)]) (g := (gName 1)) (tt := tYes) rfl sc_law.nd (pi_list (pe_call G_l_pots (hr.mono (by decide)) rfl T.g_l_pots T.k_l_pots T.b_l_pots .nil pass0 (pa_cons (pv 0) (pa_cons pe_int pa_nil)))) (blkOk_by (own := [("_law_pot_here", 1)]) (N := N_law) (sc := defScope s_law) (by decide +kernel)) (fun _ _ _ _ _ => (pg_name (i := 1) sc_law.nd rfl (Or.inl rfl))) (fun _ _ _ _ _ => pts_nil) (fun _ _ _ _ _ => by exact (pe_callG G_l_fine hgd (hr.mono (by decide)) rfl T.g_l_fine T.k_l_fine T.b_l_fine .nil pass0 (pa_cons (pv 1) pa_nil)))) pa_nil)))), ?_⟩
    refine ⟨_, rfl, a, ns, 3, rfl, hS, by decide, hl, fun l ps H1 s1 hl1 hlen nd nl hp => ?_⟩
    refine ⟨l, rfl, ⟨_, SqL.of hl1⟩, fun D hD => ?_⟩
    have nDp : ∀ p ∈ ps, p ≠ D := fun p m z => by
      obtain ⟨_, _, _, e, _⟩ := hp p m
      rw [z, hD] at e
      cases e
    have nDl : l ≠ D := ne_of_none hl1 hD
    refine lc_list (K := K) (a := l) (xs := ps.map V.ref) (fun i H' => H' D = some (.lst ((List.replicate i true).map V.bl)) ∧ H' l = some (.lst (ps.map V.ref)) ∧ ∀ j p, ps[j]? = some p → i ≤ j → Pot H' p 0)
      ⟨upd_same, same_new hD _ _ hl1, fun j p e _ => (hp p (List.mem_of_getElem? e)).same (same_new hD)⟩ (fun i H' _ z => SqL.of z.2.1) ?_ ?_
    · rintro i x H' hx ⟨h1, h2, h3⟩
      refine ⟨rfl, ?_⟩
      dsimp only [tYes]
      rw [if_pos rfl]
      rw [List.getElem?_map] at hx
      obtain ⟨p, hpi, rfl⟩ := Option.map_eq_some_iff.mp hx
      have mp := List.mem_of_getElem? hpi
      have li : i < ps.length := (List.getElem?_eq_some_iff.mp hpi).1
      refine ⟨_, rfl, p, rfl, h3 i p hpi (Nat.le_refl _), fun H2 b => ?_⟩
      have e1 := b D _ (Ne.symm (nDp p mp)) h1
      have e2 := b l _ (fun z => nl (z ▸ mp)) h2
      refine ⟨_, e1, ?_, ?_, ?_, ?_⟩
      · rw [List.length_map, List.length_replicate]
        exact small1000 (by omega)
      · rw [upd_same, List.replicate_succ', List.map_append]
        rfl
      · rw [upd_ne nDl]
        exact e2
      · intro j q hj hij
        have nq : q ≠ p := fun z => by
          have := nd_ix nd hj (z ▸ hpi)
          omega
        obtain ⟨o, sd, c, e, r⟩ := h3 j q hj (by omega)
        refine ⟨o, sd, c, ?_, r⟩
        rw [upd_ne (nDp q (List.mem_of_getElem? hj))]
        exact b q _ nq e
    · rintro H' ⟨h1, h2, _⟩
      refine ⟨D, _, rfl, SqL.of h1, ?_⟩
      have e : (List.replicate (ps.map V.ref).length true).all id = true := by simp
      rw [e]
      exact k H'
end
theorem all_mk {P : Program} {w : World} {K : PySem.W.Frag} {h : Heap} {mg : Str → Option Value} {fl : Addr} (X : K.In h) (G : h.Ns mainGlobals mg) (hfl : mg "law" = some (.ref fl))
    {f28 : Addr} {od28 an28 : Option Addr} {sl28 : Array (Option Value)} {oc28 kV28 dc28 pm28 cd28 ct28 : Value}
    {f29 : Addr} {od29 an29 : Option Addr} {sl29 : Array (Option Value)} {oc29 kV29 dc29 pm29 cd29 ct29 : Value}
    {f30 : Addr} {od30 an30 : Option Addr} {sl30 : Array (Option Value)} {oc30 kV30 dc30 pm30 cd30 ct30 : Value}
    {f31 : Addr} {od31 an31 : Option Addr} {sl31 : Array (Option Value)} {oc31 kV31 dc31 pm31 cd31 ct31 : Value}
    {f32 : Addr} {od32 an32 : Option Addr} {sl32 : Array (Option Value)} {oc32 kV32 dc32 pm32 cd32 ct32 : Value}
    {f33 : Addr} {od33 an33 : Option Addr} {sl33 : Array (Option Value)} {oc33 kV33 dc33 pm33 cd33 ct33 : Value}
    {f34 : Addr} {od34 an34 : Option Addr} {sl34 : Array (Option Value)} {oc34 kV34 dc34 pm34 cd34 ct34 : Value}
    {f35 : Addr} {od35 an35 : Option Addr} {sl35 : Array (Option Value)} {oc35 kV35 dc35 pm35 cd35 ct35 : Value}
    {f36 : Addr} {od36 an36 : Option Addr} {sl36 : Array (Option Value)} {oc36 kV36 dc36 pm36 cd36 ct36 : Value}
    {f37 : Addr} {od37 an37 : Option Addr} {sl37 : Array (Option Value)} {oc37 kV37 dc37 pm37 cd37 ct37 : Value}
    {C1 N1 : Addr} {nm1 q1 : Str} {bs1 sub1 : List Value} {sn1 : List Str} {ab1 : Bool} {col1 : Option Bool} {dd1 : Option Addr} {m01 m11 m21 m31 m51 : Option Value}
    {C2 N2 : Addr} {nm2 q2 : Str} {bs2 sub2 : List Value} {sn2 : List Str} {ab2 : Bool} {col2 : Option Bool} {dd2 : Option Addr} {m02 m12 m22 m32 m52 : Option Value}
    {g2 : Addr} {god2 gan2 : Option Addr} {gsl2 : Array (Option Value)} {goc2 gkV2 gdc2 gpm2 gcd2 gct2 : Value}
    {C3 N3 : Addr} {nm3 q3 : Str} {bs3 sub3 : List Value} {sn3 : List Str} {ab3 : Bool} {col3 : Option Bool} {dd3 : Option Addr} {m03 m13 m23 m33 m53 : Option Value}
    {g3 : Addr} {god3 gan3 : Option Addr} {gsl3 : Array (Option Value)} {goc3 gkV3 gdc3 gpm3 gcd3 gct3 : Value}
    {C4 N4 : Addr} {nm4 q4 : Str} {bs4 sub4 : List Value} {sn4 : List Str} {ab4 : Bool} {col4 : Option Bool} {dd4 : Option Addr} {m04 m14 m24 m34 m54 : Option Value}
    {g4 : Addr} {god4 gan4 : Option Addr} {gsl4 : Array (Option Value)} {goc4 gkV4 gdc4 gpm4 gcd4 gct4 : Value}
    {C5 N5 : Addr} {nm5 q5 : Str} {bs5 sub5 : List Value} {sn5 : List Str} {ab5 : Bool} {col5 : Option Bool} {dd5 : Option Addr} {m05 m15 m25 m35 m55 : Option Value}
    {g5 : Addr} {god5 gan5 : Option Addr} {gsl5 : Array (Option Value)} {goc5 gkV5 gdc5 gpm5 gcd5 gct5 : Value}
    {C6 N6 : Addr} {nm6 q6 : Str} {bs6 sub6 : List Value} {sn6 : List Str} {ab6 : Bool} {col6 : Option Bool} {dd6 : Option Addr} {m06 m16 m26 m36 m56 : Option Value}
    {C7 N7 : Addr} {nm7 q7 : Str} {bs7 sub7 : List Value} {sn7 : List Str} {ab7 : Bool} {col7 : Option Bool} {dd7 : Option Addr} {m07 m17 m27 m37 m57 : Option Value}
    {g7 : Addr} {god7 gan7 : Option Addr} {gsl7 : Array (Option Value)} {goc7 gkV7 gdc7 gpm7 gcd7 gct7 : Value}
    {C8 N8 : Addr} {nm8 q8 : Str} {bs8 sub8 : List Value} {sn8 : List Str} {ab8 : Bool} {col8 : Option Bool} {dd8 : Option Addr} {m08 m18 m28 m38 m58 : Option Value}
    {C9 N9 : Addr} {nm9 q9 : Str} {bs9 sub9 : List Value} {sn9 : List Str} {ab9 : Bool} {col9 : Option Bool} {dd9 : Option Addr} {m09 m19 m29 m39 m59 : Option Value}
    {g9 : Addr} {god9 gan9 : Option Addr} {gsl9 : Array (Option Value)} {goc9 gkV9 gdc9 gpm9 gcd9 gct9 : Value}
    {C10 N10 : Addr} {nm10 q10 : Str} {bs10 sub10 : List Value} {sn10 : List Str} {ab10 : Bool} {col10 : Option Bool} {dd10 : Option Addr} {m010 m110 m210 m310 m510 : Option Value}
    {g10 : Addr} {god10 gan10 : Option Addr} {gsl10 : Array (Option Value)} {goc10 gkV10 gdc10 gpm10 gcd10 gct10 : Value}
    {C11 N11 : Addr} {nm11 q11 : Str} {bs11 sub11 : List Value} {sn11 : List Str} {ab11 : Bool} {col11 : Option Bool} {dd11 : Option Addr} {m011 m111 m211 m311 m511 : Option Value}
    {g11 : Addr} {god11 gan11 : Option Addr} {gsl11 : Array (Option Value)} {goc11 gkV11 gdc11 gpm11 gcd11 gct11 : Value}
    {C12 N12 : Addr} {nm12 q12 : Str} {bs12 sub12 : List Value} {sn12 : List Str} {ab12 : Bool} {col12 : Option Bool} {dd12 : Option Addr} {m012 m112 m212 m312 m512 : Option Value}
    {g12 : Addr} {god12 gan12 : Option Addr} {gsl12 : Array (Option Value)} {goc12 gkV12 gdc12 gpm12 gcd12 gct12 : Value}
    {C13 N13 : Addr} {nm13 q13 : Str} {bs13 sub13 : List Value} {sn13 : List Str} {ab13 : Bool} {col13 : Option Bool} {dd13 : Option Addr} {m013 m113 m213 m313 m513 : Option Value}
    {g13 : Addr} {god13 gan13 : Option Addr} {gsl13 : Array (Option Value)} {goc13 gkV13 gdc13 gpm13 gcd13 gct13 : Value}
    {C14 N14 : Addr} {nm14 q14 : Str} {bs14 sub14 : List Value} {sn14 : List Str} {ab14 : Bool} {col14 : Option Bool} {dd14 : Option Addr} {m014 m114 m214 m314 m514 : Option Value}
    {g14 : Addr} {god14 gan14 : Option Addr} {gsl14 : Array (Option Value)} {goc14 gkV14 gdc14 gpm14 gcd14 gct14 : Value}
    {C15 N15 : Addr} {nm15 q15 : Str} {bs15 sub15 : List Value} {sn15 : List Str} {ab15 : Bool} {col15 : Option Bool} {dd15 : Option Addr} {m015 m115 m215 m315 m515 : Option Value}
    {g15 : Addr} {god15 gan15 : Option Addr} {gsl15 : Array (Option Value)} {goc15 gkV15 gdc15 gpm15 gcd15 gct15 : Value}
    {C16 N16 : Addr} {nm16 q16 : Str} {bs16 sub16 : List Value} {sn16 : List Str} {ab16 : Bool} {col16 : Option Bool} {dd16 : Option Addr} {m016 m116 m216 m316 m516 : Option Value}
    {g16 : Addr} {god16 gan16 : Option Addr} {gsl16 : Array (Option Value)} {goc16 gkV16 gdc16 gpm16 gcd16 gct16 : Value}
    {C17 N17 : Addr} {nm17 q17 : Str} {bs17 sub17 : List Value} {sn17 : List Str} {ab17 : Bool} {col17 : Option Bool} {dd17 : Option Addr} {m017 m117 m217 m317 m517 : Option Value}
    {g17 : Addr} {god17 gan17 : Option Addr} {gsl17 : Array (Option Value)} {goc17 gkV17 gdc17 gpm17 gcd17 gct17 : Value}
    {C18 N18 : Addr} {nm18 q18 : Str} {bs18 sub18 : List Value} {sn18 : List Str} {ab18 : Bool} {col18 : Option Bool} {dd18 : Option Addr} {m018 m118 m218 m318 m518 : Option Value}
    {g18 : Addr} {god18 gan18 : Option Addr} {gsl18 : Array (Option Value)} {goc18 gkV18 gdc18 gpm18 gcd18 gct18 : Value}
    {C19 N19 : Addr} {nm19 q19 : Str} {bs19 sub19 : List Value} {sn19 : List Str} {ab19 : Bool} {col19 : Option Bool} {dd19 : Option Addr} {m019 m119 m219 m319 m519 : Option Value}
    {g19 : Addr} {god19 gan19 : Option Addr} {gsl19 : Array (Option Value)} {goc19 gkV19 gdc19 gpm19 gcd19 gct19 : Value}
    {C20 N20 : Addr} {nm20 q20 : Str} {bs20 sub20 : List Value} {sn20 : List Str} {ab20 : Bool} {col20 : Option Bool} {dd20 : Option Addr} {m020 m120 m220 m320 m520 : Option Value}
    {g20 : Addr} {god20 gan20 : Option Addr} {gsl20 : Array (Option Value)} {goc20 gkV20 gdc20 gpm20 gcd20 gct20 : Value}
    {C21 N21 : Addr} {nm21 q21 : Str} {bs21 sub21 : List Value} {sn21 : List Str} {ab21 : Bool} {col21 : Option Bool} {dd21 : Option Addr} {m021 m121 m221 m321 m521 : Option Value}
    {g21 : Addr} {god21 gan21 : Option Addr} {gsl21 : Array (Option Value)} {goc21 gkV21 gdc21 gpm21 gcd21 gct21 : Value}
    {C22 N22 : Addr} {nm22 q22 : Str} {bs22 sub22 : List Value} {sn22 : List Str} {ab22 : Bool} {col22 : Option Bool} {dd22 : Option Addr} {m022 m122 m222 m322 m522 : Option Value}
    {g22 : Addr} {god22 gan22 : Option Addr} {gsl22 : Array (Option Value)} {goc22 gkV22 gdc22 gpm22 gcd22 gct22 : Value}
    {C23 N23 : Addr} {nm23 q23 : Str} {bs23 sub23 : List Value} {sn23 : List Str} {ab23 : Bool} {col23 : Option Bool} {dd23 : Option Addr} {m023 m123 m223 m323 m523 : Option Value}
    {C24 N24 : Addr} {nm24 q24 : Str} {bs24 sub24 : List Value} {sn24 : List Str} {ab24 : Bool} {col24 : Option Bool} {dd24 : Option Addr} {m024 m124 m224 m324 m524 : Option Value}
    {g24 : Addr} {god24 gan24 : Option Addr} {gsl24 : Array (Option Value)} {goc24 gkV24 gdc24 gpm24 gcd24 gct24 : Value}
    {C25 N25 : Addr} {nm25 q25 : Str} {bs25 sub25 : List Value} {sn25 : List Str} {ab25 : Bool} {col25 : Option Bool} {dd25 : Option Addr} {m025 m125 m225 m325 m525 : Option Value}
    {g25 : Addr} {god25 gan25 : Option Addr} {gsl25 : Array (Option Value)} {goc25 gkV25 gdc25 gpm25 gcd25 gct25 : Value}
    {C26 N26 : Addr} {nm26 q26 : Str} {bs26 sub26 : List Value} {sn26 : List Str} {ab26 : Bool} {col26 : Option Bool} {dd26 : Option Addr} {m026 m126 m226 m326 m526 : Option Value}
    {g26 : Addr} {god26 gan26 : Option Addr} {gsl26 : Array (Option Value)} {goc26 gkV26 gdc26 gpm26 gcd26 gct26 : Value}
    (a28 : PySem.W.nsIn K mainGlobals "_law_pot" = some (some (.ref f28)))
    (l28 : K.lookup f28 = some ⟨oc28, od28, .func (PySem.W.fnOf "_law_pot" "_law_pot" (defArgs s_l_pot) (defBody s_l_pot) (defScope s_l_pot) .none kV28 dc28 pm28 an28 cd28 ct28), sl28⟩)
    (c28 : PySem.W.codeIn K cd28 "_law_pot" = true)
    (k28 : PySem.W.keepIn K (.ref f28) = true)
    (a29 : PySem.W.nsIn K mainGlobals "_law_take" = some (some (.ref f29)))
    (l29 : K.lookup f29 = some ⟨oc29, od29, .func (PySem.W.fnOf "_law_take" "_law_take" (defArgs s_l_take) (defBody s_l_take) (defScope s_l_take) .none kV29 dc29 pm29 an29 cd29 ct29), sl29⟩)
    (c29 : PySem.W.codeIn K cd29 "_law_take" = true)
    (k29 : PySem.W.keepIn K (.ref f29) = true)
    (a30 : PySem.W.nsIn K mainGlobals "_law_pots" = some (some (.ref f30)))
    (l30 : K.lookup f30 = some ⟨oc30, od30, .func (PySem.W.fnOf "_law_pots" "_law_pots" (defArgs s_l_pots) (defBody s_l_pots) (defScope s_l_pots) .none kV30 dc30 pm30 an30 cd30 ct30), sl30⟩)
    (c30 : PySem.W.codeIn K cd30 "_law_pots" = true)
    (k30 : PySem.W.keepIn K (.ref f30) = true)
    (a31 : PySem.W.nsIn K mainGlobals "_law_of" = some (some (.ref f31)))
    (l31 : K.lookup f31 = some ⟨oc31, od31, .func (PySem.W.fnOf "_law_of" "_law_of" (defArgs s_l_of) (defBody s_l_of) (defScope s_l_of) .none kV31 dc31 pm31 an31 cd31 ct31), sl31⟩)
    (c31 : PySem.W.codeIn K cd31 "_law_of" = true)
    (k31 : PySem.W.keepIn K (.ref f31) = true)
    (a32 : PySem.W.nsIn K mainGlobals "_law_odd" = some (some (.ref f32)))
    (l32 : K.lookup f32 = some ⟨oc32, od32, .func (PySem.W.fnOf "_law_odd" "_law_odd" (defArgs s_l_odd) (defBody s_l_odd) (defScope s_l_odd) .none kV32 dc32 pm32 an32 cd32 ct32), sl32⟩)
    (c32 : PySem.W.codeIn K cd32 "_law_odd" = true)
    (k32 : PySem.W.keepIn K (.ref f32) = true)
    (a33 : PySem.W.nsIn K mainGlobals "_law_kinds_of" = some (some (.ref f33)))
    (l33 : K.lookup f33 = some ⟨oc33, od33, .func (PySem.W.fnOf "_law_kinds_of" "_law_kinds_of" (defArgs s_l_kinds_of) (defBody s_l_kinds_of) (defScope s_l_kinds_of) .none kV33 dc33 pm33 an33 cd33 ct33), sl33⟩)
    (c33 : PySem.W.codeIn K cd33 "_law_kinds_of" = true)
    (k33 : PySem.W.keepIn K (.ref f33) = true)
    (a34 : PySem.W.nsIn K mainGlobals "_law_with_value" = some (some (.ref f34)))
    (l34 : K.lookup f34 = some ⟨oc34, od34, .func (PySem.W.fnOf "_law_with_value" "_law_with_value" (defArgs s_l_with_value) (defBody s_l_with_value) (defScope s_l_with_value) .none kV34 dc34 pm34 an34 cd34 ct34), sl34⟩)
    (c34 : PySem.W.codeIn K cd34 "_law_with_value" = true)
    (k34 : PySem.W.keepIn K (.ref f34) = true)
    (a35 : PySem.W.nsIn K mainGlobals "_law_is_caught" = some (some (.ref f35)))
    (l35 : K.lookup f35 = some ⟨oc35, od35, .func (PySem.W.fnOf "_law_is_caught" "_law_is_caught" (defArgs s_l_is_caught) (defBody s_l_is_caught) (defScope s_l_is_caught) .none kV35 dc35 pm35 an35 cd35 ct35), sl35⟩)
    (c35 : PySem.W.codeIn K cd35 "_law_is_caught" = true)
    (k35 : PySem.W.keepIn K (.ref f35) = true)
    (a36 : PySem.W.nsIn K mainGlobals "_law_fine" = some (some (.ref f36)))
    (l36 : K.lookup f36 = some ⟨oc36, od36, .func (PySem.W.fnOf "_law_fine" "_law_fine" (defArgs s_l_fine) (defBody s_l_fine) (defScope s_l_fine) .none kV36 dc36 pm36 an36 cd36 ct36), sl36⟩)
    (c36 : PySem.W.codeIn K cd36 "_law_fine" = true)
    (k36 : PySem.W.keepIn K (.ref f36) = true)
    (a37 : PySem.W.nsIn K mainGlobals "law" = some (some (.ref f37)))
    (l37 : K.lookup f37 = some ⟨oc37, od37, .func (PySem.W.fnOf "law" "law" (defArgs s_law) (defBody s_law) (defScope s_law) .none kV37 dc37 pm37 an37 cd37 ct37), sl37⟩)
    (c37 : PySem.W.codeIn K cd37 "law" = true)
    (k37 : PySem.W.keepIn K (.ref f37) = true)
    (aC1 : PySem.W.nsIn K mainGlobals "NetError" = some (some (.ref C1)))
    (xL1 : K.lookup C1 = some (excClassObj nm1 q1 C1 N1 bs1 [.type "ValueError", .type "Exception", .type "BaseException", .type "object"] true sn1 sub1 ab1 col1 dd1 m01 m11 m21 m31 m51 "ValueError.__new__"))
    (aC2 : PySem.W.nsIn K mainGlobals "BadNet" = some (some (.ref C2)))
    (xL2 : K.lookup C2 = some (excClassObj nm2 q2 C2 N2 bs2 [.ref C1, .type "ValueError", .type "Exception", .type "BaseException", .type "object"] true sn2 sub2 ab2 col2 dd2 m02 m12 m22 m32 m52 "ValueError.__new__"))
    (sa2 : PySem.W.findIn K (.ref C2) "__setattr__" = some (some (.builtin "object.__setattr__")))
    (ga2 : PySem.W.findIn K (.ref C2) "__getattribute__" = some (some (.builtin "BaseException.__getattribute__")))
    (gg2 : PySem.W.findIn K (.ref C2) "__getattr__" = some none)
    (hc2 : PySem.W.findIn K (.ref C2) "__class__" = some (some (.builtin "object.__class__")))
    (kC2 : PySem.W.keepIn K (.ref C2) = true)
    (ii2 : PySem.W.findIn K (.ref C2) "__init__" = some (some (.ref g2)))
    (gl2 : K.lookup g2 = some ⟨goc2, god2, .func (PySem.W.fnOf "__init__" "BadNet.__init__" (defArgs (inClass (topS 2) 0)) (defBody (inClass (topS 2) 0)) (defScope (inClass (topS 2) 0)) .none gkV2 gdc2 gpm2 gan2 gcd2 gct2), gsl2⟩)
    (gc2 : PySem.W.codeIn K gcd2 "BadNet.__init__" = true)
    (gk2 : PySem.W.keepIn K (.ref g2) = true)
    (gt2 : PySem.W.typeIn K (.ref g2) = some (.type "function"))
    (no2value : PySem.W.findIn K (.ref C2) "value" = some none)
    (aC3 : PySem.W.nsIn K mainGlobals "NoRouter" = some (some (.ref C3)))
    (xL3 : K.lookup C3 = some (excClassObj nm3 q3 C3 N3 bs3 [.ref C1, .type "ValueError", .type "Exception", .type "BaseException", .type "object"] true sn3 sub3 ab3 col3 dd3 m03 m13 m23 m33 m53 "ValueError.__new__"))
    (sa3 : PySem.W.findIn K (.ref C3) "__setattr__" = some (some (.builtin "object.__setattr__")))
    (ga3 : PySem.W.findIn K (.ref C3) "__getattribute__" = some (some (.builtin "BaseException.__getattribute__")))
    (gg3 : PySem.W.findIn K (.ref C3) "__getattr__" = some none)
    (hc3 : PySem.W.findIn K (.ref C3) "__class__" = some (some (.builtin "object.__class__")))
    (kC3 : PySem.W.keepIn K (.ref C3) = true)
    (ii3 : PySem.W.findIn K (.ref C3) "__init__" = some (some (.ref g3)))
    (gl3 : K.lookup g3 = some ⟨goc3, god3, .func (PySem.W.fnOf "__init__" "NoRouter.__init__" (defArgs (inClass (topS 3) 0)) (defBody (inClass (topS 3) 0)) (defScope (inClass (topS 3) 0)) .none gkV3 gdc3 gpm3 gan3 gcd3 gct3), gsl3⟩)
    (gc3 : PySem.W.codeIn K gcd3 "NoRouter.__init__" = true)
    (gk3 : PySem.W.keepIn K (.ref g3) = true)
    (gt3 : PySem.W.typeIn K (.ref g3) = some (.type "function"))
    (no3value : PySem.W.findIn K (.ref C3) "value" = some none)
    (aC4 : PySem.W.nsIn K mainGlobals "BadLink" = some (some (.ref C4)))
    (xL4 : K.lookup C4 = some (excClassObj nm4 q4 C4 N4 bs4 [.ref C1, .type "ValueError", .type "Exception", .type "BaseException", .type "object"] true sn4 sub4 ab4 col4 dd4 m04 m14 m24 m34 m54 "ValueError.__new__"))
    (sa4 : PySem.W.findIn K (.ref C4) "__setattr__" = some (some (.builtin "object.__setattr__")))
    (ga4 : PySem.W.findIn K (.ref C4) "__getattribute__" = some (some (.builtin "BaseException.__getattribute__")))
    (gg4 : PySem.W.findIn K (.ref C4) "__getattr__" = some none)
    (hc4 : PySem.W.findIn K (.ref C4) "__class__" = some (some (.builtin "object.__class__")))
    (kC4 : PySem.W.keepIn K (.ref C4) = true)
    (ii4 : PySem.W.findIn K (.ref C4) "__init__" = some (some (.ref g4)))
    (gl4 : K.lookup g4 = some ⟨goc4, god4, .func (PySem.W.fnOf "__init__" "BadLink.__init__" (defArgs (inClass (topS 4) 0)) (defBody (inClass (topS 4) 0)) (defScope (inClass (topS 4) 0)) .none gkV4 gdc4 gpm4 gan4 gcd4 gct4), gsl4⟩)
    (gc4 : PySem.W.codeIn K gcd4 "BadLink.__init__" = true)
    (gk4 : PySem.W.keepIn K (.ref g4) = true)
    (gt4 : PySem.W.typeIn K (.ref g4) = some (.type "function"))
    (no4value : PySem.W.findIn K (.ref C4) "value" = some none)
    (aC5 : PySem.W.nsIn K mainGlobals "BadLength" = some (some (.ref C5)))
    (xL5 : K.lookup C5 = some (excClassObj nm5 q5 C5 N5 bs5 [.ref C1, .type "ValueError", .type "Exception", .type "BaseException", .type "object"] true sn5 sub5 ab5 col5 dd5 m05 m15 m25 m35 m55 "ValueError.__new__"))
    (sa5 : PySem.W.findIn K (.ref C5) "__setattr__" = some (some (.builtin "object.__setattr__")))
    (ga5 : PySem.W.findIn K (.ref C5) "__getattribute__" = some (some (.builtin "BaseException.__getattribute__")))
    (gg5 : PySem.W.findIn K (.ref C5) "__getattr__" = some none)
    (hc5 : PySem.W.findIn K (.ref C5) "__class__" = some (some (.builtin "object.__class__")))
    (kC5 : PySem.W.keepIn K (.ref C5) = true)
    (ii5 : PySem.W.findIn K (.ref C5) "__init__" = some (some (.ref g5)))
    (gl5 : K.lookup g5 = some ⟨goc5, god5, .func (PySem.W.fnOf "__init__" "BadLength.__init__" (defArgs (inClass (topS 5) 0)) (defBody (inClass (topS 5) 0)) (defScope (inClass (topS 5) 0)) .none gkV5 gdc5 gpm5 gan5 gcd5 gct5), gsl5⟩)
    (gc5 : PySem.W.codeIn K gcd5 "BadLength.__init__" = true)
    (gk5 : PySem.W.keepIn K (.ref g5) = true)
    (gt5 : PySem.W.typeIn K (.ref g5) = some (.type "function"))
    (no5value : PySem.W.findIn K (.ref C5) "value" = some none)
    (aC6 : PySem.W.nsIn K mainGlobals "TooMany" = some (some (.ref C6)))
    (xL6 : K.lookup C6 = some (excClassObj nm6 q6 C6 N6 bs6 [.ref C1, .type "ValueError", .type "Exception", .type "BaseException", .type "object"] true sn6 sub6 ab6 col6 dd6 m06 m16 m26 m36 m56 "ValueError.__new__"))
    (sa6 : PySem.W.findIn K (.ref C6) "__setattr__" = some (some (.builtin "object.__setattr__")))
    (ga6 : PySem.W.findIn K (.ref C6) "__getattribute__" = some (some (.builtin "BaseException.__getattribute__")))
    (gg6 : PySem.W.findIn K (.ref C6) "__getattr__" = some none)
    (hc6 : PySem.W.findIn K (.ref C6) "__class__" = some (some (.builtin "object.__class__")))
    (kC6 : PySem.W.keepIn K (.ref C6) = true)
    (ex6 : PySem.W.excIn K C6 [.type "ValueError", .type "Exception", .type "BaseException", .type "object"] "ValueError.__new__" = true)
    (aC7 : PySem.W.nsIn K mainGlobals "NoLink" = some (some (.ref C7)))
    (xL7 : K.lookup C7 = some (excClassObj nm7 q7 C7 N7 bs7 [.ref C1, .type "ValueError", .type "Exception", .type "BaseException", .type "object"] true sn7 sub7 ab7 col7 dd7 m07 m17 m27 m37 m57 "ValueError.__new__"))
    (sa7 : PySem.W.findIn K (.ref C7) "__setattr__" = some (some (.builtin "object.__setattr__")))
    (ga7 : PySem.W.findIn K (.ref C7) "__getattribute__" = some (some (.builtin "BaseException.__getattribute__")))
    (gg7 : PySem.W.findIn K (.ref C7) "__getattr__" = some none)
    (hc7 : PySem.W.findIn K (.ref C7) "__class__" = some (some (.builtin "object.__class__")))
    (kC7 : PySem.W.keepIn K (.ref C7) = true)
    (ii7 : PySem.W.findIn K (.ref C7) "__init__" = some (some (.ref g7)))
    (gl7 : K.lookup g7 = some ⟨goc7, god7, .func (PySem.W.fnOf "__init__" "NoLink.__init__" (defArgs (inClass (topS 7) 0)) (defBody (inClass (topS 7) 0)) (defScope (inClass (topS 7) 0)) .none gkV7 gdc7 gpm7 gan7 gcd7 gct7), gsl7⟩)
    (gc7 : PySem.W.codeIn K gcd7 "NoLink.__init__" = true)
    (gk7 : PySem.W.keepIn K (.ref g7) = true)
    (gt7 : PySem.W.typeIn K (.ref g7) = some (.type "function"))
    (no7value : PySem.W.findIn K (.ref C7) "value" = some none)
    (aC8 : PySem.W.nsIn K mainGlobals "Unlike" = some (some (.ref C8)))
    (xL8 : K.lookup C8 = some (excClassObj nm8 q8 C8 N8 bs8 [.ref C1, .type "ValueError", .type "Exception", .type "BaseException", .type "object"] true sn8 sub8 ab8 col8 dd8 m08 m18 m28 m38 m58 "ValueError.__new__"))
    (sa8 : PySem.W.findIn K (.ref C8) "__setattr__" = some (some (.builtin "object.__setattr__")))
    (ga8 : PySem.W.findIn K (.ref C8) "__getattribute__" = some (some (.builtin "BaseException.__getattribute__")))
    (gg8 : PySem.W.findIn K (.ref C8) "__getattr__" = some none)
    (hc8 : PySem.W.findIn K (.ref C8) "__class__" = some (some (.builtin "object.__class__")))
    (kC8 : PySem.W.keepIn K (.ref C8) = true)
    (ex8 : PySem.W.excIn K C8 [.type "ValueError", .type "Exception", .type "BaseException", .type "object"] "ValueError.__new__" = true)
    (aC9 : PySem.W.nsIn K mainGlobals "BadShift" = some (some (.ref C9)))
    (xL9 : K.lookup C9 = some (excClassObj nm9 q9 C9 N9 bs9 [.ref C1, .type "ValueError", .type "Exception", .type "BaseException", .type "object"] true sn9 sub9 ab9 col9 dd9 m09 m19 m29 m39 m59 "ValueError.__new__"))
    (sa9 : PySem.W.findIn K (.ref C9) "__setattr__" = some (some (.builtin "object.__setattr__")))
    (ga9 : PySem.W.findIn K (.ref C9) "__getattribute__" = some (some (.builtin "BaseException.__getattribute__")))
    (gg9 : PySem.W.findIn K (.ref C9) "__getattr__" = some none)
    (hc9 : PySem.W.findIn K (.ref C9) "__class__" = some (some (.builtin "object.__class__")))
    (kC9 : PySem.W.keepIn K (.ref C9) = true)
    (ii9 : PySem.W.findIn K (.ref C9) "__init__" = some (some (.ref g9)))
    (gl9 : K.lookup g9 = some ⟨goc9, god9, .func (PySem.W.fnOf "__init__" "BadShift.__init__" (defArgs (inClass (topS 9) 0)) (defBody (inClass (topS 9) 0)) (defScope (inClass (topS 9) 0)) .none gkV9 gdc9 gpm9 gan9 gcd9 gct9), gsl9⟩)
    (gc9 : PySem.W.codeIn K gcd9 "BadShift.__init__" = true)
    (gk9 : PySem.W.keepIn K (.ref g9) = true)
    (gt9 : PySem.W.typeIn K (.ref g9) = some (.type "function"))
    (no9value : PySem.W.findIn K (.ref C9) "value" = some none)
    (aC10 : PySem.W.nsIn K mainGlobals "BadDemands" = some (some (.ref C10)))
    (xL10 : K.lookup C10 = some (excClassObj nm10 q10 C10 N10 bs10 [.ref C1, .type "ValueError", .type "Exception", .type "BaseException", .type "object"] true sn10 sub10 ab10 col10 dd10 m010 m110 m210 m310 m510 "ValueError.__new__"))
    (sa10 : PySem.W.findIn K (.ref C10) "__setattr__" = some (some (.builtin "object.__setattr__")))
    (ga10 : PySem.W.findIn K (.ref C10) "__getattribute__" = some (some (.builtin "BaseException.__getattribute__")))
    (gg10 : PySem.W.findIn K (.ref C10) "__getattr__" = some none)
    (hc10 : PySem.W.findIn K (.ref C10) "__class__" = some (some (.builtin "object.__class__")))
    (kC10 : PySem.W.keepIn K (.ref C10) = true)
    (ii10 : PySem.W.findIn K (.ref C10) "__init__" = some (some (.ref g10)))
    (gl10 : K.lookup g10 = some ⟨goc10, god10, .func (PySem.W.fnOf "__init__" "BadDemands.__init__" (defArgs (inClass (topS 10) 0)) (defBody (inClass (topS 10) 0)) (defScope (inClass (topS 10) 0)) .none gkV10 gdc10 gpm10 gan10 gcd10 gct10), gsl10⟩)
    (gc10 : PySem.W.codeIn K gcd10 "BadDemands.__init__" = true)
    (gk10 : PySem.W.keepIn K (.ref g10) = true)
    (gt10 : PySem.W.typeIn K (.ref g10) = some (.type "function"))
    (no10value : PySem.W.findIn K (.ref C10) "value" = some none)
    (aC11 : PySem.W.nsIn K mainGlobals "BadMoment" = some (some (.ref C11)))
    (xL11 : K.lookup C11 = some (excClassObj nm11 q11 C11 N11 bs11 [.ref C1, .type "ValueError", .type "Exception", .type "BaseException", .type "object"] true sn11 sub11 ab11 col11 dd11 m011 m111 m211 m311 m511 "ValueError.__new__"))
    (sa11 : PySem.W.findIn K (.ref C11) "__setattr__" = some (some (.builtin "object.__setattr__")))
    (ga11 : PySem.W.findIn K (.ref C11) "__getattribute__" = some (some (.builtin "BaseException.__getattribute__")))
    (gg11 : PySem.W.findIn K (.ref C11) "__getattr__" = some none)
    (hc11 : PySem.W.findIn K (.ref C11) "__class__" = some (some (.builtin "object.__class__")))
    (kC11 : PySem.W.keepIn K (.ref C11) = true)
    (ii11 : PySem.W.findIn K (.ref C11) "__init__" = some (some (.ref g11)))
    (gl11 : K.lookup g11 = some ⟨goc11, god11, .func (PySem.W.fnOf "__init__" "BadMoment.__init__" (defArgs (inClass (topS 11) 0)) (defBody (inClass (topS 11) 0)) (defScope (inClass (topS 11) 0)) .none gkV11 gdc11 gpm11 gan11 gcd11 gct11), gsl11⟩)
    (gc11 : PySem.W.codeIn K gcd11 "BadMoment.__init__" = true)
    (gk11 : PySem.W.keepIn K (.ref g11) = true)
    (gt11 : PySem.W.typeIn K (.ref g11) = some (.type "function"))
    (no11value : PySem.W.findIn K (.ref C11) "value" = some none)
    (aC12 : PySem.W.nsIn K mainGlobals "Turning" = some (some (.ref C12)))
    (xL12 : K.lookup C12 = some (excClassObj nm12 q12 C12 N12 bs12 [.ref C1, .type "ValueError", .type "Exception", .type "BaseException", .type "object"] true sn12 sub12 ab12 col12 dd12 m012 m112 m212 m312 m512 "ValueError.__new__"))
    (sa12 : PySem.W.findIn K (.ref C12) "__setattr__" = some (some (.builtin "object.__setattr__")))
    (ga12 : PySem.W.findIn K (.ref C12) "__getattribute__" = some (some (.builtin "BaseException.__getattribute__")))
    (gg12 : PySem.W.findIn K (.ref C12) "__getattr__" = some none)
    (hc12 : PySem.W.findIn K (.ref C12) "__class__" = some (some (.builtin "object.__class__")))
    (kC12 : PySem.W.keepIn K (.ref C12) = true)
    (ii12 : PySem.W.findIn K (.ref C12) "__init__" = some (some (.ref g12)))
    (gl12 : K.lookup g12 = some ⟨goc12, god12, .func (PySem.W.fnOf "__init__" "Turning.__init__" (defArgs (inClass (topS 12) 0)) (defBody (inClass (topS 12) 0)) (defScope (inClass (topS 12) 0)) .none gkV12 gdc12 gpm12 gan12 gcd12 gct12), gsl12⟩)
    (gc12 : PySem.W.codeIn K gcd12 "Turning.__init__" = true)
    (gk12 : PySem.W.keepIn K (.ref g12) = true)
    (gt12 : PySem.W.typeIn K (.ref g12) = some (.type "function"))
    (no12destination : PySem.W.findIn K (.ref C12) "destination" = some none)
    (aC13 : PySem.W.nsIn K mainGlobals "BadRates" = some (some (.ref C13)))
    (xL13 : K.lookup C13 = some (excClassObj nm13 q13 C13 N13 bs13 [.ref C1, .type "ValueError", .type "Exception", .type "BaseException", .type "object"] true sn13 sub13 ab13 col13 dd13 m013 m113 m213 m313 m513 "ValueError.__new__"))
    (sa13 : PySem.W.findIn K (.ref C13) "__setattr__" = some (some (.builtin "object.__setattr__")))
    (ga13 : PySem.W.findIn K (.ref C13) "__getattribute__" = some (some (.builtin "BaseException.__getattribute__")))
    (gg13 : PySem.W.findIn K (.ref C13) "__getattr__" = some none)
    (hc13 : PySem.W.findIn K (.ref C13) "__class__" = some (some (.builtin "object.__class__")))
    (kC13 : PySem.W.keepIn K (.ref C13) = true)
    (ii13 : PySem.W.findIn K (.ref C13) "__init__" = some (some (.ref g13)))
    (gl13 : K.lookup g13 = some ⟨goc13, god13, .func (PySem.W.fnOf "__init__" "BadRates.__init__" (defArgs (inClass (topS 13) 0)) (defBody (inClass (topS 13) 0)) (defScope (inClass (topS 13) 0)) .none gkV13 gdc13 gpm13 gan13 gcd13 gct13), gsl13⟩)
    (gc13 : PySem.W.codeIn K gcd13 "BadRates.__init__" = true)
    (gk13 : PySem.W.keepIn K (.ref g13) = true)
    (gt13 : PySem.W.typeIn K (.ref g13) = some (.type "function"))
    (no13value : PySem.W.findIn K (.ref C13) "value" = some none)
    (aC14 : PySem.W.nsIn K mainGlobals "BadCaps" = some (some (.ref C14)))
    (xL14 : K.lookup C14 = some (excClassObj nm14 q14 C14 N14 bs14 [.ref C1, .type "ValueError", .type "Exception", .type "BaseException", .type "object"] true sn14 sub14 ab14 col14 dd14 m014 m114 m214 m314 m514 "ValueError.__new__"))
    (sa14 : PySem.W.findIn K (.ref C14) "__setattr__" = some (some (.builtin "object.__setattr__")))
    (ga14 : PySem.W.findIn K (.ref C14) "__getattribute__" = some (some (.builtin "BaseException.__getattribute__")))
    (gg14 : PySem.W.findIn K (.ref C14) "__getattr__" = some none)
    (hc14 : PySem.W.findIn K (.ref C14) "__class__" = some (some (.builtin "object.__class__")))
    (kC14 : PySem.W.keepIn K (.ref C14) = true)
    (ii14 : PySem.W.findIn K (.ref C14) "__init__" = some (some (.ref g14)))
    (gl14 : K.lookup g14 = some ⟨goc14, god14, .func (PySem.W.fnOf "__init__" "BadCaps.__init__" (defArgs (inClass (topS 14) 0)) (defBody (inClass (topS 14) 0)) (defScope (inClass (topS 14) 0)) .none gkV14 gdc14 gpm14 gan14 gcd14 gct14), gsl14⟩)
    (gc14 : PySem.W.codeIn K gcd14 "BadCaps.__init__" = true)
    (gk14 : PySem.W.keepIn K (.ref g14) = true)
    (gt14 : PySem.W.typeIn K (.ref g14) = some (.type "function"))
    (no14value : PySem.W.findIn K (.ref C14) "value" = some none)
    (aC15 : PySem.W.nsIn K mainGlobals "BadOffers" = some (some (.ref C15)))
    (xL15 : K.lookup C15 = some (excClassObj nm15 q15 C15 N15 bs15 [.ref C1, .type "ValueError", .type "Exception", .type "BaseException", .type "object"] true sn15 sub15 ab15 col15 dd15 m015 m115 m215 m315 m515 "ValueError.__new__"))
    (sa15 : PySem.W.findIn K (.ref C15) "__setattr__" = some (some (.builtin "object.__setattr__")))
    (ga15 : PySem.W.findIn K (.ref C15) "__getattribute__" = some (some (.builtin "BaseException.__getattribute__")))
    (gg15 : PySem.W.findIn K (.ref C15) "__getattr__" = some none)
    (hc15 : PySem.W.findIn K (.ref C15) "__class__" = some (some (.builtin "object.__class__")))
    (kC15 : PySem.W.keepIn K (.ref C15) = true)
    (ii15 : PySem.W.findIn K (.ref C15) "__init__" = some (some (.ref g15)))
    (gl15 : K.lookup g15 = some ⟨goc15, god15, .func (PySem.W.fnOf "__init__" "BadOffers.__init__" (defArgs (inClass (topS 15) 0)) (defBody (inClass (topS 15) 0)) (defScope (inClass (topS 15) 0)) .none gkV15 gdc15 gpm15 gan15 gcd15 gct15), gsl15⟩)
    (gc15 : PySem.W.codeIn K gcd15 "BadOffers.__init__" = true)
    (gk15 : PySem.W.keepIn K (.ref g15) = true)
    (gt15 : PySem.W.typeIn K (.ref g15) = some (.type "function"))
    (no15value : PySem.W.findIn K (.ref C15) "value" = some none)
    (aC16 : PySem.W.nsIn K mainGlobals "NoEnd" = some (some (.ref C16)))
    (xL16 : K.lookup C16 = some (excClassObj nm16 q16 C16 N16 bs16 [.ref C1, .type "ValueError", .type "Exception", .type "BaseException", .type "object"] true sn16 sub16 ab16 col16 dd16 m016 m116 m216 m316 m516 "ValueError.__new__"))
    (sa16 : PySem.W.findIn K (.ref C16) "__setattr__" = some (some (.builtin "object.__setattr__")))
    (ga16 : PySem.W.findIn K (.ref C16) "__getattribute__" = some (some (.builtin "BaseException.__getattribute__")))
    (gg16 : PySem.W.findIn K (.ref C16) "__getattr__" = some none)
    (hc16 : PySem.W.findIn K (.ref C16) "__class__" = some (some (.builtin "object.__class__")))
    (kC16 : PySem.W.keepIn K (.ref C16) = true)
    (ii16 : PySem.W.findIn K (.ref C16) "__init__" = some (some (.ref g16)))
    (gl16 : K.lookup g16 = some ⟨goc16, god16, .func (PySem.W.fnOf "__init__" "NoEnd.__init__" (defArgs (inClass (topS 16) 0)) (defBody (inClass (topS 16) 0)) (defScope (inClass (topS 16) 0)) .none gkV16 gdc16 gpm16 gan16 gcd16 gct16), gsl16⟩)
    (gc16 : PySem.W.codeIn K gcd16 "NoEnd.__init__" = true)
    (gk16 : PySem.W.keepIn K (.ref g16) = true)
    (gt16 : PySem.W.typeIn K (.ref g16) = some (.type "function"))
    (no16value : PySem.W.findIn K (.ref C16) "value" = some none)
    (aC17 : PySem.W.nsIn K mainGlobals "BadRows" = some (some (.ref C17)))
    (xL17 : K.lookup C17 = some (excClassObj nm17 q17 C17 N17 bs17 [.ref C1, .type "ValueError", .type "Exception", .type "BaseException", .type "object"] true sn17 sub17 ab17 col17 dd17 m017 m117 m217 m317 m517 "ValueError.__new__"))
    (sa17 : PySem.W.findIn K (.ref C17) "__setattr__" = some (some (.builtin "object.__setattr__")))
    (ga17 : PySem.W.findIn K (.ref C17) "__getattribute__" = some (some (.builtin "BaseException.__getattribute__")))
    (gg17 : PySem.W.findIn K (.ref C17) "__getattr__" = some none)
    (hc17 : PySem.W.findIn K (.ref C17) "__class__" = some (some (.builtin "object.__class__")))
    (kC17 : PySem.W.keepIn K (.ref C17) = true)
    (ii17 : PySem.W.findIn K (.ref C17) "__init__" = some (some (.ref g17)))
    (gl17 : K.lookup g17 = some ⟨goc17, god17, .func (PySem.W.fnOf "__init__" "BadRows.__init__" (defArgs (inClass (topS 17) 0)) (defBody (inClass (topS 17) 0)) (defScope (inClass (topS 17) 0)) .none gkV17 gdc17 gpm17 gan17 gcd17 gct17), gsl17⟩)
    (gc17 : PySem.W.codeIn K gcd17 "BadRows.__init__" = true)
    (gk17 : PySem.W.keepIn K (.ref g17) = true)
    (gt17 : PySem.W.typeIn K (.ref g17) = some (.type "function"))
    (no17value : PySem.W.findIn K (.ref C17) "value" = some none)
    (aC18 : PySem.W.nsIn K mainGlobals "BadEvent" = some (some (.ref C18)))
    (xL18 : K.lookup C18 = some (excClassObj nm18 q18 C18 N18 bs18 [.ref C1, .type "ValueError", .type "Exception", .type "BaseException", .type "object"] true sn18 sub18 ab18 col18 dd18 m018 m118 m218 m318 m518 "ValueError.__new__"))
    (sa18 : PySem.W.findIn K (.ref C18) "__setattr__" = some (some (.builtin "object.__setattr__")))
    (ga18 : PySem.W.findIn K (.ref C18) "__getattribute__" = some (some (.builtin "BaseException.__getattribute__")))
    (gg18 : PySem.W.findIn K (.ref C18) "__getattr__" = some none)
    (hc18 : PySem.W.findIn K (.ref C18) "__class__" = some (some (.builtin "object.__class__")))
    (kC18 : PySem.W.keepIn K (.ref C18) = true)
    (ii18 : PySem.W.findIn K (.ref C18) "__init__" = some (some (.ref g18)))
    (gl18 : K.lookup g18 = some ⟨goc18, god18, .func (PySem.W.fnOf "__init__" "BadEvent.__init__" (defArgs (inClass (topS 18) 0)) (defBody (inClass (topS 18) 0)) (defScope (inClass (topS 18) 0)) .none gkV18 gdc18 gpm18 gan18 gcd18 gct18), gsl18⟩)
    (gc18 : PySem.W.codeIn K gcd18 "BadEvent.__init__" = true)
    (gk18 : PySem.W.keepIn K (.ref g18) = true)
    (gt18 : PySem.W.typeIn K (.ref g18) = some (.type "function"))
    (no18value : PySem.W.findIn K (.ref C18) "value" = some none)
    (aC19 : PySem.W.nsIn K mainGlobals "NotNow" = some (some (.ref C19)))
    (xL19 : K.lookup C19 = some (excClassObj nm19 q19 C19 N19 bs19 [.ref C1, .type "ValueError", .type "Exception", .type "BaseException", .type "object"] true sn19 sub19 ab19 col19 dd19 m019 m119 m219 m319 m519 "ValueError.__new__"))
    (sa19 : PySem.W.findIn K (.ref C19) "__setattr__" = some (some (.builtin "object.__setattr__")))
    (ga19 : PySem.W.findIn K (.ref C19) "__getattribute__" = some (some (.builtin "BaseException.__getattribute__")))
    (gg19 : PySem.W.findIn K (.ref C19) "__getattr__" = some none)
    (hc19 : PySem.W.findIn K (.ref C19) "__class__" = some (some (.builtin "object.__class__")))
    (kC19 : PySem.W.keepIn K (.ref C19) = true)
    (ii19 : PySem.W.findIn K (.ref C19) "__init__" = some (some (.ref g19)))
    (gl19 : K.lookup g19 = some ⟨goc19, god19, .func (PySem.W.fnOf "__init__" "NotNow.__init__" (defArgs (inClass (topS 19) 0)) (defBody (inClass (topS 19) 0)) (defScope (inClass (topS 19) 0)) .none gkV19 gdc19 gpm19 gan19 gcd19 gct19), gsl19⟩)
    (gc19 : PySem.W.codeIn K gcd19 "NotNow.__init__" = true)
    (gk19 : PySem.W.keepIn K (.ref g19) = true)
    (gt19 : PySem.W.typeIn K (.ref g19) = some (.type "function"))
    (no19event : PySem.W.findIn K (.ref C19) "event" = some none)
    (aC20 : PySem.W.nsIn K mainGlobals "Turned" = some (some (.ref C20)))
    (xL20 : K.lookup C20 = some (excClassObj nm20 q20 C20 N20 bs20 [.ref C1, .type "ValueError", .type "Exception", .type "BaseException", .type "object"] true sn20 sub20 ab20 col20 dd20 m020 m120 m220 m320 m520 "ValueError.__new__"))
    (sa20 : PySem.W.findIn K (.ref C20) "__setattr__" = some (some (.builtin "object.__setattr__")))
    (ga20 : PySem.W.findIn K (.ref C20) "__getattribute__" = some (some (.builtin "BaseException.__getattribute__")))
    (gg20 : PySem.W.findIn K (.ref C20) "__getattr__" = some none)
    (hc20 : PySem.W.findIn K (.ref C20) "__class__" = some (some (.builtin "object.__class__")))
    (kC20 : PySem.W.keepIn K (.ref C20) = true)
    (ii20 : PySem.W.findIn K (.ref C20) "__init__" = some (some (.ref g20)))
    (gl20 : K.lookup g20 = some ⟨goc20, god20, .func (PySem.W.fnOf "__init__" "Turned.__init__" (defArgs (inClass (topS 20) 0)) (defBody (inClass (topS 20) 0)) (defScope (inClass (topS 20) 0)) .none gkV20 gdc20 gpm20 gan20 gcd20 gct20), gsl20⟩)
    (gc20 : PySem.W.codeIn K gcd20 "Turned.__init__" = true)
    (gk20 : PySem.W.keepIn K (.ref g20) = true)
    (gt20 : PySem.W.typeIn K (.ref g20) = some (.type "function"))
    (no20packet : PySem.W.findIn K (.ref C20) "packet" = some none)
    (no20router : PySem.W.findIn K (.ref C20) "router" = some none)
    (aC21 : PySem.W.nsIn K mainGlobals "Ring" = some (some (.ref C21)))
    (xL21 : K.lookup C21 = some (excClassObj nm21 q21 C21 N21 bs21 [.ref C1, .type "ValueError", .type "Exception", .type "BaseException", .type "object"] true sn21 sub21 ab21 col21 dd21 m021 m121 m221 m321 m521 "ValueError.__new__"))
    (sa21 : PySem.W.findIn K (.ref C21) "__setattr__" = some (some (.builtin "object.__setattr__")))
    (ga21 : PySem.W.findIn K (.ref C21) "__getattribute__" = some (some (.builtin "BaseException.__getattribute__")))
    (gg21 : PySem.W.findIn K (.ref C21) "__getattr__" = some none)
    (hc21 : PySem.W.findIn K (.ref C21) "__class__" = some (some (.builtin "object.__class__")))
    (kC21 : PySem.W.keepIn K (.ref C21) = true)
    (ii21 : PySem.W.findIn K (.ref C21) "__init__" = some (some (.ref g21)))
    (gl21 : K.lookup g21 = some ⟨goc21, god21, .func (PySem.W.fnOf "__init__" "Ring.__init__" (defArgs (inClass (topS 21) 0)) (defBody (inClass (topS 21) 0)) (defScope (inClass (topS 21) 0)) .none gkV21 gdc21 gpm21 gan21 gcd21 gct21), gsl21⟩)
    (gc21 : PySem.W.codeIn K gcd21 "Ring.__init__" = true)
    (gk21 : PySem.W.keepIn K (.ref g21) = true)
    (gt21 : PySem.W.typeIn K (.ref g21) = some (.type "function"))
    (no21ring : PySem.W.findIn K (.ref C21) "ring" = some none)
    (aC22 : PySem.W.nsIn K mainGlobals "NoPacket" = some (some (.ref C22)))
    (xL22 : K.lookup C22 = some (excClassObj nm22 q22 C22 N22 bs22 [.ref C1, .type "ValueError", .type "Exception", .type "BaseException", .type "object"] true sn22 sub22 ab22 col22 dd22 m022 m122 m222 m322 m522 "ValueError.__new__"))
    (sa22 : PySem.W.findIn K (.ref C22) "__setattr__" = some (some (.builtin "object.__setattr__")))
    (ga22 : PySem.W.findIn K (.ref C22) "__getattribute__" = some (some (.builtin "BaseException.__getattribute__")))
    (gg22 : PySem.W.findIn K (.ref C22) "__getattr__" = some none)
    (hc22 : PySem.W.findIn K (.ref C22) "__class__" = some (some (.builtin "object.__class__")))
    (kC22 : PySem.W.keepIn K (.ref C22) = true)
    (ii22 : PySem.W.findIn K (.ref C22) "__init__" = some (some (.ref g22)))
    (gl22 : K.lookup g22 = some ⟨goc22, god22, .func (PySem.W.fnOf "__init__" "NoPacket.__init__" (defArgs (inClass (topS 22) 0)) (defBody (inClass (topS 22) 0)) (defScope (inClass (topS 22) 0)) .none gkV22 gdc22 gpm22 gan22 gcd22 gct22), gsl22⟩)
    (gc22 : PySem.W.codeIn K gcd22 "NoPacket.__init__" = true)
    (gk22 : PySem.W.keepIn K (.ref g22) = true)
    (gt22 : PySem.W.typeIn K (.ref g22) = some (.type "function"))
    (no22value : PySem.W.findIn K (.ref C22) "value" = some none)
    (aC23 : PySem.W.nsIn K mainGlobals "NothingToUndo" = some (some (.ref C23)))
    (xL23 : K.lookup C23 = some (excClassObj nm23 q23 C23 N23 bs23 [.ref C1, .type "ValueError", .type "Exception", .type "BaseException", .type "object"] true sn23 sub23 ab23 col23 dd23 m023 m123 m223 m323 m523 "ValueError.__new__"))
    (sa23 : PySem.W.findIn K (.ref C23) "__setattr__" = some (some (.builtin "object.__setattr__")))
    (ga23 : PySem.W.findIn K (.ref C23) "__getattribute__" = some (some (.builtin "BaseException.__getattribute__")))
    (gg23 : PySem.W.findIn K (.ref C23) "__getattr__" = some none)
    (hc23 : PySem.W.findIn K (.ref C23) "__class__" = some (some (.builtin "object.__class__")))
    (kC23 : PySem.W.keepIn K (.ref C23) = true)
    (ex23 : PySem.W.excIn K C23 [.type "ValueError", .type "Exception", .type "BaseException", .type "object"] "ValueError.__new__" = true)
    (aC24 : PySem.W.nsIn K mainGlobals "BadText" = some (some (.ref C24)))
    (xL24 : K.lookup C24 = some (excClassObj nm24 q24 C24 N24 bs24 [.ref C1, .type "ValueError", .type "Exception", .type "BaseException", .type "object"] true sn24 sub24 ab24 col24 dd24 m024 m124 m224 m324 m524 "ValueError.__new__"))
    (sa24 : PySem.W.findIn K (.ref C24) "__setattr__" = some (some (.builtin "object.__setattr__")))
    (ga24 : PySem.W.findIn K (.ref C24) "__getattribute__" = some (some (.builtin "BaseException.__getattribute__")))
    (gg24 : PySem.W.findIn K (.ref C24) "__getattr__" = some none)
    (hc24 : PySem.W.findIn K (.ref C24) "__class__" = some (some (.builtin "object.__class__")))
    (kC24 : PySem.W.keepIn K (.ref C24) = true)
    (ii24 : PySem.W.findIn K (.ref C24) "__init__" = some (some (.ref g24)))
    (gl24 : K.lookup g24 = some ⟨goc24, god24, .func (PySem.W.fnOf "__init__" "BadText.__init__" (defArgs (inClass (topS 24) 0)) (defBody (inClass (topS 24) 0)) (defScope (inClass (topS 24) 0)) .none gkV24 gdc24 gpm24 gan24 gcd24 gct24), gsl24⟩)
    (gc24 : PySem.W.codeIn K gcd24 "BadText.__init__" = true)
    (gk24 : PySem.W.keepIn K (.ref g24) = true)
    (gt24 : PySem.W.typeIn K (.ref g24) = some (.type "function"))
    (no24value : PySem.W.findIn K (.ref C24) "value" = some none)
    (aC25 : PySem.W.nsIn K mainGlobals "BadRun" = some (some (.ref C25)))
    (xL25 : K.lookup C25 = some (excClassObj nm25 q25 C25 N25 bs25 [.ref C1, .type "ValueError", .type "Exception", .type "BaseException", .type "object"] true sn25 sub25 ab25 col25 dd25 m025 m125 m225 m325 m525 "ValueError.__new__"))
    (sa25 : PySem.W.findIn K (.ref C25) "__setattr__" = some (some (.builtin "object.__setattr__")))
    (ga25 : PySem.W.findIn K (.ref C25) "__getattribute__" = some (some (.builtin "BaseException.__getattribute__")))
    (gg25 : PySem.W.findIn K (.ref C25) "__getattr__" = some none)
    (hc25 : PySem.W.findIn K (.ref C25) "__class__" = some (some (.builtin "object.__class__")))
    (kC25 : PySem.W.keepIn K (.ref C25) = true)
    (ii25 : PySem.W.findIn K (.ref C25) "__init__" = some (some (.ref g25)))
    (gl25 : K.lookup g25 = some ⟨goc25, god25, .func (PySem.W.fnOf "__init__" "BadRun.__init__" (defArgs (inClass (topS 25) 0)) (defBody (inClass (topS 25) 0)) (defScope (inClass (topS 25) 0)) .none gkV25 gdc25 gpm25 gan25 gcd25 gct25), gsl25⟩)
    (gc25 : PySem.W.codeIn K gcd25 "BadRun.__init__" = true)
    (gk25 : PySem.W.keepIn K (.ref g25) = true)
    (gt25 : PySem.W.typeIn K (.ref g25) = some (.type "function"))
    (no25value : PySem.W.findIn K (.ref C25) "value" = some none)
    (aC26 : PySem.W.nsIn K mainGlobals "BadLine" = some (some (.ref C26)))
    (xL26 : K.lookup C26 = some (excClassObj nm26 q26 C26 N26 bs26 [.ref C1, .type "ValueError", .type "Exception", .type "BaseException", .type "object"] true sn26 sub26 ab26 col26 dd26 m026 m126 m226 m326 m526 "ValueError.__new__"))
    (sa26 : PySem.W.findIn K (.ref C26) "__setattr__" = some (some (.builtin "object.__setattr__")))
    (ga26 : PySem.W.findIn K (.ref C26) "__getattribute__" = some (some (.builtin "BaseException.__getattribute__")))
    (gg26 : PySem.W.findIn K (.ref C26) "__getattr__" = some none)
    (hc26 : PySem.W.findIn K (.ref C26) "__class__" = some (some (.builtin "object.__class__")))
    (kC26 : PySem.W.keepIn K (.ref C26) = true)
    (ii26 : PySem.W.findIn K (.ref C26) "__init__" = some (some (.ref g26)))
    (gl26 : K.lookup g26 = some ⟨goc26, god26, .func (PySem.W.fnOf "__init__" "BadLine.__init__" (defArgs (inClass (topS 26) 0)) (defBody (inClass (topS 26) 0)) (defScope (inClass (topS 26) 0)) .none gkV26 gdc26 gpm26 gan26 gcd26 gct26), gsl26⟩)
    (gc26 : PySem.W.codeIn K gcd26 "BadLine.__init__" = true)
    (gk26 : PySem.W.keepIn K (.ref g26) = true)
    (gt26 : PySem.W.typeIn K (.ref g26) = some (.type "function"))
    (no26value : PySem.W.findIn K (.ref C26) "value" = some none)
    (zlen : PySem.W.nsIn K mainGlobals "len" = some none)
    (zabs : PySem.W.nsIn K mainGlobals "abs" = some none)
    (zmax : PySem.W.nsIn K mainGlobals "max" = some none)
    (zmin : PySem.W.nsIn K mainGlobals "min" = some none)
    (zall : PySem.W.nsIn K mainGlobals "all" = some none)
    (zrepr : PySem.W.nsIn K mainGlobals "repr" = some none)
    (zisinstance : PySem.W.nsIn K mainGlobals "isinstance" = some none)
    (zint : PySem.W.nsIn K mainGlobals "int" = some none)
    (zrange : PySem.W.nsIn K mainGlobals "range" = some none)
    (zenumerate : PySem.W.nsIn K mainGlobals "enumerate" = some none)
    (zValueError : PySem.W.nsIn K mainGlobals "ValueError" = some none)
    (hn : PySem.W.specialIn K (.builtin "object.__class__") "__get__" = some (some (.builtin "getset_descriptor.__get__")))
    (ht : PySem.W.takesIn K (.builtin "object.__class__") = some true)
    (inj : ([C1, C2, C3, C4, C5, C6, C7, C8, C9, C10, C11, C12, C13, C14, C15, C16, C17, C18, C19, C20, C21, C22, C23, C24, C25, C26] : List Addr).Nodup) :
    ∃ fd : FuncData, (∀ (s : Shared) (v : Value), BindsTo s fd ⟨[v], []⟩ [("_law_script", v)]) ∧ ∀ base : Heap, K.In base → base.Ns mainGlobals mg → FnG P w K mg base CX0 6 fl fd ["_law_script"] (spLaw K) := by
  have e := hfl.symm.trans (PySem.W.mg_of X G a37)
  obtain rfl : f37 = fl := by
    injection e with e
    injection e with e
    exact e.symm
  have T : Txt K mg (fun i => ([0, C1, C2, C3, C4, C5, C6, C7, C8, C9, C10, C11, C12, C13, C14, C15, C16, C17, C18, C19, C20, C21, C22, C23, C24, C25, C26] : List Addr).getD i 0) (fun i => ([0, 0, g2, g3, g4, g5, 0, g7, 0, g9, g10, g11, g12, g13, g14, g15, g16, g17, g18, g19, g20, g21, g22, 0, g24, g25, g26] : List Addr).getD i 0) (fun i => ([f28, f29, f30, f31, f32, f33, f34, f35, f36, f37] : List Addr).getD (i - 28) 0) (fun i => ([(PySem.W.fnOf "_law_pot" "_law_pot" (defArgs s_l_pot) (defBody s_l_pot) (defScope s_l_pot) .none kV28 dc28 pm28 an28 cd28 ct28), (PySem.W.fnOf "_law_take" "_law_take" (defArgs s_l_take) (defBody s_l_take) (defScope s_l_take) .none kV29 dc29 pm29 an29 cd29 ct29), (PySem.W.fnOf "_law_pots" "_law_pots" (defArgs s_l_pots) (defBody s_l_pots) (defScope s_l_pots) .none kV30 dc30 pm30 an30 cd30 ct30), (PySem.W.fnOf "_law_of" "_law_of" (defArgs s_l_of) (defBody s_l_of) (defScope s_l_of) .none kV31 dc31 pm31 an31 cd31 ct31), (PySem.W.fnOf "_law_odd" "_law_odd" (defArgs s_l_odd) (defBody s_l_odd) (defScope s_l_odd) .none kV32 dc32 pm32 an32 cd32 ct32), (PySem.W.fnOf "_law_kinds_of" "_law_kinds_of" (defArgs s_l_kinds_of) (defBody s_l_kinds_of) (defScope s_l_kinds_of) .none kV33 dc33 pm33 an33 cd33 ct33), (PySem.W.fnOf "_law_with_value" "_law_with_value" (defArgs s_l_with_value) (defBody s_l_with_value) (defScope s_l_with_value) .none kV34 dc34 pm34 an34 cd34 ct34), (PySem.W.fnOf "_law_is_caught" "_law_is_caught" (defArgs s_l_is_caught) (defBody s_l_is_caught) (defScope s_l_is_caught) .none kV35 dc35 pm35 an35 cd35 ct35), (PySem.W.fnOf "_law_fine" "_law_fine" (defArgs s_l_fine) (defBody s_l_fine) (defScope s_l_fine) .none kV36 dc36 pm36 an36 cd36 ct36), (PySem.W.fnOf "law" "law" (defArgs s_law) (defBody s_law) (defScope s_law) .none kV37 dc37 pm37 an37 cd37 ct37)] : List FuncData).getD (i - 28) (PySem.W.fnOf "law" "law" (defArgs s_law) (defBody s_law) (defScope s_law) .none kV37 dc37 pm37 an37 cd37 ct37)) (fun i => ([(PySem.W.fnOf "law" "law" (defArgs s_law) (defBody s_law) (defScope s_law) .none kV37 dc37 pm37 an37 cd37 ct37), (PySem.W.fnOf "law" "law" (defArgs s_law) (defBody s_law) (defScope s_law) .none kV37 dc37 pm37 an37 cd37 ct37), (PySem.W.fnOf "__init__" "BadNet.__init__" (defArgs (inClass (topS 2) 0)) (defBody (inClass (topS 2) 0)) (defScope (inClass (topS 2) 0)) .none gkV2 gdc2 gpm2 gan2 gcd2 gct2), (PySem.W.fnOf "__init__" "NoRouter.__init__" (defArgs (inClass (topS 3) 0)) (defBody (inClass (topS 3) 0)) (defScope (inClass (topS 3) 0)) .none gkV3 gdc3 gpm3 gan3 gcd3 gct3), (PySem.W.fnOf "__init__" "BadLink.__init__" (defArgs (inClass (topS 4) 0)) (defBody (inClass (topS 4) 0)) (defScope (inClass (topS 4) 0)) .none gkV4 gdc4 gpm4 gan4 gcd4 gct4), (PySem.W.fnOf "__init__" "BadLength.__init__" (defArgs (inClass (topS 5) 0)) (defBody (inClass (topS 5) 0)) (defScope (inClass (topS 5) 0)) .none gkV5 gdc5 gpm5 gan5 gcd5 gct5), (PySem.W.fnOf "law" "law" (defArgs s_law) (defBody s_law) (defScope s_law) .none kV37 dc37 pm37 an37 cd37 ct37), (PySem.W.fnOf "__init__" "NoLink.__init__" (defArgs (inClass (topS 7) 0)) (defBody (inClass (topS 7) 0)) (defScope (inClass (topS 7) 0)) .none gkV7 gdc7 gpm7 gan7 gcd7 gct7), (PySem.W.fnOf "law" "law" (defArgs s_law) (defBody s_law) (defScope s_law) .none kV37 dc37 pm37 an37 cd37 ct37), (PySem.W.fnOf "__init__" "BadShift.__init__" (defArgs (inClass (topS 9) 0)) (defBody (inClass (topS 9) 0)) (defScope (inClass (topS 9) 0)) .none gkV9 gdc9 gpm9 gan9 gcd9 gct9), (PySem.W.fnOf "__init__" "BadDemands.__init__" (defArgs (inClass (topS 10) 0)) (defBody (inClass (topS 10) 0)) (defScope (inClass (topS 10) 0)) .none gkV10 gdc10 gpm10 gan10 gcd10 gct10), (PySem.W.fnOf "__init__" "BadMoment.__init__" (defArgs (inClass (topS 11) 0)) (defBody (inClass (topS 11) 0)) (defScope (inClass (topS 11) 0)) .none gkV11 gdc11 gpm11 gan11 gcd11 gct11), (PySem.W.fnOf "__init__" "Turning.__init__" (defArgs (inClass (topS 12) 0)) (defBody (inClass (topS 12) 0)) (defScope (inClass (topS 12) 0)) .none gkV12 gdc12 gpm12 gan12 gcd12 gct12), (PySem.W.fnOf "__init__" "BadRates.__init__" (defArgs (inClass (topS 13) 0)) (defBody (inClass (topS 13) 0)) (defScope (inClass (topS 13) 0)) .none gkV13 gdc13 gpm13 gan13 gcd13 gct13), (PySem.W.fnOf "__init__" "BadCaps.__init__" (defArgs (inClass (topS 14) 0)) (defBody (inClass (topS 14) 0)) (defScope (inClass (topS 14) 0)) .none gkV14 gdc14 gpm14 gan14 gcd14 gct14), (PySem.W.fnOf "__init__" "BadOffers.__init__" (defArgs (inClass (topS 15) 0)) (defBody (inClass (topS 15) 0)) (defScope (inClass (topS 15) 0)) .none gkV15 gdc15 gpm15 gan15 gcd15 gct15), (PySem.W.fnOf "__init__" "NoEnd.__init__" (defArgs (inClass (topS 16) 0)) (defBody (inClass (topS 16) 0)) (defScope (inClass (topS 16) 0)) .none gkV16 gdc16 gpm16 gan16 gcd16 gct16), (PySem.W.fnOf "__init__" "BadRows.__init__" (defArgs (inClass (topS 17) 0)) (defBody (inClass (topS 17) 0)) (defScope (inClass (topS 17) 0)) .none gkV17 gdc17 gpm17 gan17 gcd17 gct17), (PySem.W.fnOf "__init__" "BadEvent.__init__" (defArgs (inClass (topS 18) 0)) (defBody (inClass (topS 18) 0)) (defScope (inClass (topS 18) 0)) .none gkV18 gdc18 gpm18 gan18 gcd18 gct18), (PySem.W.fnOf "__init__" "NotNow.__init__" (defArgs (inClass (topS 19) 0)) (defBody (inClass (topS 19) 0)) (defScope (inClass (topS 19) 0)) .none gkV19 gdc19 gpm19 gan19 gcd19 gct19), (PySem.W.fnOf "__init__" "Turned.__init__" (defArgs (inClass (topS 20) 0)) (defBody (inClass (topS 20) 0)) (defScope (inClass (topS 20) 0)) .none gkV20 gdc20 gpm20 gan20 gcd20 gct20), (PySem.W.fnOf "__init__" "Ring.__init__" (defArgs (inClass (topS 21) 0)) (defBody (inClass (topS 21) 0)) (defScope (inClass (topS 21) 0)) .none gkV21 gdc21 gpm21 gan21 gcd21 gct21), (PySem.W.fnOf "__init__" "NoPacket.__init__" (defArgs (inClass (topS 22) 0)) (defBody (inClass (topS 22) 0)) (defScope (inClass (topS 22) 0)) .none gkV22 gdc22 gpm22 gan22 gcd22 gct22), (PySem.W.fnOf "law" "law" (defArgs s_law) (defBody s_law) (defScope s_law) .none kV37 dc37 pm37 an37 cd37 ct37), (PySem.W.fnOf "__init__" "BadText.__init__" (defArgs (inClass (topS 24) 0)) (defBody (inClass (topS 24) 0)) (defScope (inClass (topS 24) 0)) .none gkV24 gdc24 gpm24 gan24 gcd24 gct24), (PySem.W.fnOf "__init__" "BadRun.__init__" (defArgs (inClass (topS 25) 0)) (defBody (inClass (topS 25) 0)) (defScope (inClass (topS 25) 0)) .none gkV25 gdc25 gpm25 gan25 gcd25 gct25), (PySem.W.fnOf "__init__" "BadLine.__init__" (defArgs (inClass (topS 26) 0)) (defBody (inClass (topS 26) 0)) (defScope (inClass (topS 26) 0)) .none gkV26 gdc26 gpm26 gan26 gcd26 gct26)] : List FuncData).getD i (PySem.W.fnOf "law" "law" (defArgs s_law) (defBody s_law) (defScope s_law) .none kV37 dc37 pm37 an37 cd37 ct37)) :=
    { F_l_pot := fun_mk (st := s_l_pot) l28 c28 k28
      g_l_pot := PySem.W.mg_of X G a28
      F_l_take := fun_mk (st := s_l_take) l29 c29 k29
      g_l_take := PySem.W.mg_of X G a29
      F_l_pots := fun_mk (st := s_l_pots) l30 c30 k30
      g_l_pots := PySem.W.mg_of X G a30
      F_l_of := fun_mk (st := s_l_of) l31 c31 k31
      g_l_of := PySem.W.mg_of X G a31
      F_l_odd := fun_mk (st := s_l_odd) l32 c32 k32
      g_l_odd := PySem.W.mg_of X G a32
      F_l_kinds_of := fun_mk (st := s_l_kinds_of) l33 c33 k33
      g_l_kinds_of := PySem.W.mg_of X G a33
      F_l_with_value := fun_mk (st := s_l_with_value) l34 c34 k34
      g_l_with_value := PySem.W.mg_of X G a34
      F_l_is_caught := fun_mk (st := s_l_is_caught) l35 c35 k35
      g_l_is_caught := PySem.W.mg_of X G a35
      F_l_fine := fun_mk (st := s_l_fine) l36 c36 k36
      g_l_fine := PySem.W.mg_of X G a36
      F_law := fun_mk (st := s_law) l37 c37 k37
      g_law := PySem.W.mg_of X G a37
      cN := ⟨PySem.W.mg_of X G aC1, ⟨_, _, _, _, _, _, _, _, _, _, _, _, _, _, xL1⟩⟩
      c_BadNet := ⟨PySem.W.mg_of X G aC2, ⟨_, _, _, _, _, _, _, _, _, _, _, _, _, _, xL2⟩, sa2, ga2, gg2, hc2, kC2⟩
      FI_BadNet := fun_mk (st := inClass (topS 2) 0) gl2 gc2 gk2
      iC_BadNet := ii2
      tI_BadNet := gt2
      no_BadNet_value := no2value
      c_NoRouter := ⟨PySem.W.mg_of X G aC3, ⟨_, _, _, _, _, _, _, _, _, _, _, _, _, _, xL3⟩, sa3, ga3, gg3, hc3, kC3⟩
      FI_NoRouter := fun_mk (st := inClass (topS 3) 0) gl3 gc3 gk3
      iC_NoRouter := ii3
      tI_NoRouter := gt3
      no_NoRouter_value := no3value
      c_BadLink := ⟨PySem.W.mg_of X G aC4, ⟨_, _, _, _, _, _, _, _, _, _, _, _, _, _, xL4⟩, sa4, ga4, gg4, hc4, kC4⟩
      FI_BadLink := fun_mk (st := inClass (topS 4) 0) gl4 gc4 gk4
      iC_BadLink := ii4
      tI_BadLink := gt4
      no_BadLink_value := no4value
      c_BadLength := ⟨PySem.W.mg_of X G aC5, ⟨_, _, _, _, _, _, _, _, _, _, _, _, _, _, xL5⟩, sa5, ga5, gg5, hc5, kC5⟩
      FI_BadLength := fun_mk (st := inClass (topS 5) 0) gl5 gc5 gk5
      iC_BadLength := ii5
      tI_BadLength := gt5
      no_BadLength_value := no5value
      c_TooMany := ⟨PySem.W.mg_of X G aC6, ⟨_, _, _, _, _, _, _, _, _, _, _, _, _, _, xL6⟩, sa6, ga6, gg6, hc6, kC6⟩
      x_TooMany := ex6
      c_NoLink := ⟨PySem.W.mg_of X G aC7, ⟨_, _, _, _, _, _, _, _, _, _, _, _, _, _, xL7⟩, sa7, ga7, gg7, hc7, kC7⟩
      FI_NoLink := fun_mk (st := inClass (topS 7) 0) gl7 gc7 gk7
      iC_NoLink := ii7
      tI_NoLink := gt7
      no_NoLink_value := no7value
      c_Unlike := ⟨PySem.W.mg_of X G aC8, ⟨_, _, _, _, _, _, _, _, _, _, _, _, _, _, xL8⟩, sa8, ga8, gg8, hc8, kC8⟩
      x_Unlike := ex8
      c_BadShift := ⟨PySem.W.mg_of X G aC9, ⟨_, _, _, _, _, _, _, _, _, _, _, _, _, _, xL9⟩, sa9, ga9, gg9, hc9, kC9⟩
      FI_BadShift := fun_mk (st := inClass (topS 9) 0) gl9 gc9 gk9
      iC_BadShift := ii9
      tI_BadShift := gt9
      no_BadShift_value := no9value
      c_BadDemands := ⟨PySem.W.mg_of X G aC10, ⟨_, _, _, _, _, _, _, _, _, _, _, _, _, _, xL10⟩, sa10, ga10, gg10, hc10, kC10⟩
      FI_BadDemands := fun_mk (st := inClass (topS 10) 0) gl10 gc10 gk10
      iC_BadDemands := ii10
      tI_BadDemands := gt10
      no_BadDemands_value := no10value
      c_BadMoment := ⟨PySem.W.mg_of X G aC11, ⟨_, _, _, _, _, _, _, _, _, _, _, _, _, _, xL11⟩, sa11, ga11, gg11, hc11, kC11⟩
      FI_BadMoment := fun_mk (st := inClass (topS 11) 0) gl11 gc11 gk11
      iC_BadMoment := ii11
      tI_BadMoment := gt11
      no_BadMoment_value := no11value
      c_Turning := ⟨PySem.W.mg_of X G aC12, ⟨_, _, _, _, _, _, _, _, _, _, _, _, _, _, xL12⟩, sa12, ga12, gg12, hc12, kC12⟩
      FI_Turning := fun_mk (st := inClass (topS 12) 0) gl12 gc12 gk12
      iC_Turning := ii12
      tI_Turning := gt12
      no_Turning_destination := no12destination
      c_BadRates := ⟨PySem.W.mg_of X G aC13, ⟨_, _, _, _, _, _, _, _, _, _, _, _, _, _, xL13⟩, sa13, ga13, gg13, hc13, kC13⟩
      FI_BadRates := fun_mk (st := inClass (topS 13) 0) gl13 gc13 gk13
      iC_BadRates := ii13
      tI_BadRates := gt13
      no_BadRates_value := no13value
      c_BadCaps := ⟨PySem.W.mg_of X G aC14, ⟨_, _, _, _, _, _, _, _, _, _, _, _, _, _, xL14⟩, sa14, ga14, gg14, hc14, kC14⟩
      FI_BadCaps := fun_mk (st := inClass (topS 14) 0) gl14 gc14 gk14
      iC_BadCaps := ii14
      tI_BadCaps := gt14
      no_BadCaps_value := no14value
      c_BadOffers := ⟨PySem.W.mg_of X G aC15, ⟨_, _, _, _, _, _, _, _, _, _, _, _, _, _, xL15⟩, sa15, ga15, gg15, hc15, kC15⟩
      FI_BadOffers := fun_mk (st := inClass (topS 15) 0) gl15 gc15 gk15
      iC_BadOffers := ii15
      tI_BadOffers := gt15
      no_BadOffers_value := no15value
      c_NoEnd := ⟨PySem.W.mg_of X G aC16, ⟨_, _, _, _, _, _, _, _, _, _, _, _, _, _, xL16⟩, sa16, ga16, gg16, hc16, kC16⟩
      FI_NoEnd := fun_mk (st := inClass (topS 16) 0) gl16 gc16 gk16
      iC_NoEnd := ii16
      tI_NoEnd := gt16
      no_NoEnd_value := no16value
      c_BadRows := ⟨PySem.W.mg_of X G aC17, ⟨_, _, _, _, _, _, _, _, _, _, _, _, _, _, xL17⟩, sa17, ga17, gg17, hc17, kC17⟩
      FI_BadRows := fun_mk (st := inClass (topS 17) 0) gl17 gc17 gk17
      iC_BadRows := ii17
      tI_BadRows := gt17
      no_BadRows_value := no17value
      c_BadEvent := ⟨PySem.W.mg_of X G aC18, ⟨_, _, _, _, _, _, _, _, _, _, _, _, _, _, xL18⟩, sa18, ga18, gg18, hc18, kC18⟩
      FI_BadEvent := fun_mk (st := inClass (topS 18) 0) gl18 gc18 gk18
      iC_BadEvent := ii18
      tI_BadEvent := gt18
      no_BadEvent_value := no18value
      c_NotNow := ⟨PySem.W.mg_of X G aC19, ⟨_, _, _, _, _, _, _, _, _, _, _, _, _, _, xL19⟩, sa19, ga19, gg19, hc19, kC19⟩
      FI_NotNow := fun_mk (st := inClass (topS 19) 0) gl19 gc19 gk19
      iC_NotNow := ii19
      tI_NotNow := gt19
      no_NotNow_event := no19event
      c_Turned := ⟨PySem.W.mg_of X G aC20, ⟨_, _, _, _, _, _, _, _, _, _, _, _, _, _, xL20⟩, sa20, ga20, gg20, hc20, kC20⟩
      FI_Turned := fun_mk (st := inClass (topS 20) 0) gl20 gc20 gk20
      iC_Turned := ii20
      tI_Turned := gt20
      no_Turned_packet := no20packet
      no_Turned_router := no20router
      c_Ring := ⟨PySem.W.mg_of X G aC21, ⟨_, _, _, _, _, _, _, _, _, _, _, _, _, _, xL21⟩, sa21, ga21, gg21, hc21, kC21⟩
      FI_Ring := fun_mk (st := inClass (topS 21) 0) gl21 gc21 gk21
      iC_Ring := ii21
      tI_Ring := gt21
      no_Ring_ring := no21ring
      c_NoPacket := ⟨PySem.W.mg_of X G aC22, ⟨_, _, _, _, _, _, _, _, _, _, _, _, _, _, xL22⟩, sa22, ga22, gg22, hc22, kC22⟩
      FI_NoPacket := fun_mk (st := inClass (topS 22) 0) gl22 gc22 gk22
      iC_NoPacket := ii22
      tI_NoPacket := gt22
      no_NoPacket_value := no22value
      c_NothingToUndo := ⟨PySem.W.mg_of X G aC23, ⟨_, _, _, _, _, _, _, _, _, _, _, _, _, _, xL23⟩, sa23, ga23, gg23, hc23, kC23⟩
      x_NothingToUndo := ex23
      c_BadText := ⟨PySem.W.mg_of X G aC24, ⟨_, _, _, _, _, _, _, _, _, _, _, _, _, _, xL24⟩, sa24, ga24, gg24, hc24, kC24⟩
      FI_BadText := fun_mk (st := inClass (topS 24) 0) gl24 gc24 gk24
      iC_BadText := ii24
      tI_BadText := gt24
      no_BadText_value := no24value
      c_BadRun := ⟨PySem.W.mg_of X G aC25, ⟨_, _, _, _, _, _, _, _, _, _, _, _, _, _, xL25⟩, sa25, ga25, gg25, hc25, kC25⟩
      FI_BadRun := fun_mk (st := inClass (topS 25) 0) gl25 gc25 gk25
      iC_BadRun := ii25
      tI_BadRun := gt25
      no_BadRun_value := no25value
      c_BadLine := ⟨PySem.W.mg_of X G aC26, ⟨_, _, _, _, _, _, _, _, _, _, _, _, _, _, xL26⟩, sa26, ga26, gg26, hc26, kC26⟩
      FI_BadLine := fun_mk (st := inClass (topS 26) 0) gl26 gc26 gk26
      iC_BadLine := ii26
      tI_BadLine := gt26
      no_BadLine_value := no26value
      n_len := PySem.W.mg_none_of X G zlen
      n_abs := PySem.W.mg_none_of X G zabs
      n_max := PySem.W.mg_none_of X G zmax
      n_min := PySem.W.mg_none_of X G zmin
      n_all := PySem.W.mg_none_of X G zall
      n_repr := PySem.W.mg_none_of X G zrepr
      n_isinstance := PySem.W.mg_none_of X G zisinstance
      n_int := PySem.W.mg_none_of X G zint
      n_range := PySem.W.mg_none_of X G zrange
      n_enumerate := PySem.W.mg_none_of X G zenumerate
      n_ValueError := PySem.W.mg_none_of X G zValueError
      hn := hn
      ht := ht
      inj := inj }
  exact ⟨(PySem.W.fnOf "law" "law" (defArgs s_law) (defBody s_law) (defScope s_law) .none kV37 dc37 pm37 an37 cd37 ct37), fun s v => .of_eq rfl, fun base _ _ => ok_law T⟩

end Toy
set_option Elab.async false
open PySem PySem.W PyProof.Rows in
set_option maxRecDepth 100000 in
set_option maxHeartbeats 0 in
theorem PySem.Challenge.cw_quietturns_k00_errors_holds : PySem.Challenge.rw_quietturns_k00_errors.Holds := by
  w_on; o_law; k_head; (case hw => w_witness2)
  k_fill
  refine Q.walkG (l := PySem.Challenge.rw_quietturns_k00_errors) (n := 63) (k := 6) (x := "_law_script") (sp := Toy.spLaw) rfl (by decide) rfl ⟨rfl, by decide, by decide⟩ (fun w h Y => PySem.W.kIn_of Y) ?F (fun K H a ns hn _ hS => ⟨a, ns, rfl, hS, hn, fun _ => rfl⟩)
  case F =>
    intro w mg fa h KX G hmg
    refine' Toy.all_mk KX G hmg ?a28 ?l28 ?c28 ?k28 ?a29 ?l29 ?c29 ?k29 ?a30 ?l30 ?c30 ?k30 ?a31 ?l31 ?c31 ?k31 ?a32 ?l32 ?c32 ?k32 ?a33 ?l33 ?c33 ?k33 ?a34 ?l34 ?c34 ?k34 ?a35 ?l35 ?c35 ?k35 ?a36 ?l36 ?c36 ?k36 ?a37 ?l37 ?c37 ?k37 ?aC1 ?xL1 ?aC2 ?xL2 ?sa2 ?ga2 ?gg2 ?hc2 ?kC2 ?ii2 ?gl2 ?gc2 ?gk2 ?gt2 ?no2value ?aC3 ?xL3 ?sa3 ?ga3 ?gg3 ?hc3 ?kC3 ?ii3 ?gl3 ?gc3 ?gk3 ?gt3 ?no3value ?aC4 ?xL4 ?sa4 ?ga4 ?gg4 ?hc4 ?kC4 ?ii4 ?gl4 ?gc4 ?gk4 ?gt4 ?no4value ?aC5 ?xL5 ?sa5 ?ga5 ?gg5 ?hc5 ?kC5 ?ii5 ?gl5 ?gc5 ?gk5 ?gt5 ?no5value ?aC6 ?xL6 ?sa6 ?ga6 ?gg6 ?hc6 ?kC6 ?ex6 ?aC7 ?xL7 ?sa7 ?ga7 ?gg7 ?hc7 ?kC7 ?ii7 ?gl7 ?gc7 ?gk7 ?gt7 ?no7value ?aC8 ?xL8 ?sa8 ?ga8 ?gg8 ?hc8 ?kC8 ?ex8 ?aC9 ?xL9 ?sa9 ?ga9 ?gg9 ?hc9 ?kC9 ?ii9 ?gl9 ?gc9 ?gk9 ?gt9 ?no9value ?aC10 ?xL10 ?sa10 ?ga10 ?gg10 ?hc10 ?kC10 ?ii10 ?gl10 ?gc10 ?gk10 ?gt10 ?no10value ?aC11 ?xL11 ?sa11 ?ga11 ?gg11 ?hc11 ?kC11 ?ii11 ?gl11 ?gc11 ?gk11 ?gt11 ?no11value ?aC12 ?xL12 ?sa12 ?ga12 ?gg12 ?hc12 ?kC12 ?ii12 ?gl12 ?gc12 ?gk12 ?gt12 ?no12destination ?aC13 ?xL13 ?sa13 ?ga13 ?gg13 ?hc13 ?kC13 ?ii13 ?gl13 ?gc13 ?gk13 ?gt13 ?no13value ?aC14 ?xL14 ?sa14 ?ga14 ?gg14 ?hc14 ?kC14 ?ii14 ?gl14 ?gc14 ?gk14 ?gt14 ?no14value ?aC15 ?xL15 ?sa15 ?ga15 ?gg15 ?hc15 ?kC15 ?ii15 ?gl15 ?gc15 ?gk15 ?gt15 ?no15value ?aC16 ?xL16 ?sa16 ?ga16 ?gg16 ?hc16 ?kC16 ?ii16 ?gl16 ?gc16 ?gk16 ?gt16 ?no16value ?aC17 ?xL17 ?sa17 ?ga17 ?gg17 ?hc17 ?kC17 ?ii17 ?gl17 ?gc17 ?gk17 ?gt17 ?no17value ?aC18 ?xL18 ?sa18 ?ga18 ?gg18 ?hc18 ?kC18 ?ii18 ?gl18 ?gc18 ?gk18 ?gt18 ?no18value ?aC19 ?xL19 ?sa19 ?ga19 ?gg19 ?hc19 ?kC19 ?ii19 ?gl19 ?gc19 ?gk19 ?gt19 ?no19event ?aC20 ?xL20 ?sa20 ?ga20 ?gg20 ?hc20 ?kC20 ?ii20 ?gl20 ?gc20 ?gk20 ?gt20 ?no20packet ?no20router ?aC21 ?xL21 ?sa21 ?ga21 ?gg21 ?hc21 ?kC21 ?ii21 ?gl21 ?gc21 ?gk21 ?gt21 ?no21ring ?aC22 ?xL22 ?sa22 ?ga22 ?gg22 ?hc22 ?kC22 ?ii22 ?gl22 ?gc22 ?gk22 ?gt22 ?no22value ?aC23 ?xL23 ?sa23 ?ga23 ?gg23 ?hc23 ?kC23 ?ex23 ?aC24 ?xL24 ?sa24 ?ga24 ?gg24 ?hc24 ?kC24 ?ii24 ?gl24 ?gc24 ?gk24 ?gt24 ?no24value ?aC25 ?xL25 ?sa25 ?ga25 ?gg25 ?hc25 ?kC25 ?ii25 ?gl25 ?gc25 ?gk25 ?gt25 ?no25value ?aC26 ?xL26 ?sa26 ?ga26 ?gg26 ?hc26 ?kC26 ?ii26 ?gl26 ?gc26 ?gk26 ?gt26 ?no26value ?zlen ?zabs ?zmax ?zmin ?zall ?zrepr ?zisinstance ?zint ?zrange ?zenumerate ?zValueError ?hn ?ht ?inj
    (case a28 => k_is)
    (case l28 => k_is)
    (case c28 => k_is)
    (case k28 => k_is)
    (case a29 => k_is)
    (case l29 => k_is)
    (case c29 => k_is)
    (case k29 => k_is)
    (case a30 => k_is)
    (case l30 => k_is)
    (case c30 => k_is)
    (case k30 => k_is)
    (case a31 => k_is)
    (case l31 => k_is)
    (case c31 => k_is)
    (case k31 => k_is)
    (case a32 => k_is)
    (case l32 => k_is)
    (case c32 => k_is)
    (case k32 => k_is)
    (case a33 => k_is)
    (case l33 => k_is)
    (case c33 => k_is)
    (case k33 => k_is)
    (case a34 => k_is)
    (case l34 => k_is)
    (case c34 => k_is)
    (case k34 => k_is)
    (case a35 => k_is)
    (case l35 => k_is)
    (case c35 => k_is)
    (case k35 => k_is)
    (case a36 => k_is)
    (case l36 => k_is)
    (case c36 => k_is)
    (case k36 => k_is)
    (case a37 => k_is)
    (case l37 => k_is)
    (case c37 => k_is)
    (case k37 => k_is)
    (case aC1 => k_is)
    (case xL1 => k_is)
    (case aC2 => k_is)
    (case xL2 => k_is)
    (case sa2 => k_is)
    (case ga2 => k_is)
    (case gg2 => k_is)
    (case hc2 => k_is)
    (case kC2 => k_is)
    (case ii2 => k_is)
    (case gl2 => k_is)
    (case gc2 => k_is)
    (case gk2 => k_is)
    (case gt2 => k_is)
    (case no2value => k_is)
    (case aC3 => k_is)
    (case xL3 => k_is)
    (case sa3 => k_is)
    (case ga3 => k_is)
    (case gg3 => k_is)
    (case hc3 => k_is)
    (case kC3 => k_is)
    (case ii3 => k_is)
    (case gl3 => k_is)
    (case gc3 => k_is)
    (case gk3 => k_is)
    (case gt3 => k_is)
    (case no3value => k_is)
    (case aC4 => k_is)
    (case xL4 => k_is)
    (case sa4 => k_is)
    (case ga4 => k_is)
    (case gg4 => k_is)
    (case hc4 => k_is)
    (case kC4 => k_is)
    (case ii4 => k_is)
    (case gl4 => k_is)
    (case gc4 => k_is)
    (case gk4 => k_is)
    (case gt4 => k_is)
    (case no4value => k_is)
    (case aC5 => k_is)
    (case xL5 => k_is)
    (case sa5 => k_is)
    (case ga5 => k_is)
    (case gg5 => k_is)
    (case hc5 => k_is)
    (case kC5 => k_is)
    (case ii5 => k_is)
    (case gl5 => k_is)
    (case gc5 => k_is)
    (case gk5 => k_is)
    (case gt5 => k_is)
    (case no5value => k_is)
    (case aC6 => k_is)
    (case xL6 => k_is)
    (case sa6 => k_is)
    (case ga6 => k_is)
    (case gg6 => k_is)
    (case hc6 => k_is)
    (case kC6 => k_is)
    (case ex6 => k_exc)
    (case aC7 => k_is)
    (case xL7 => k_is)
    (case sa7 => k_is)
    (case ga7 => k_is)
    (case gg7 => k_is)
    (case hc7 => k_is)
    (case kC7 => k_is)
    (case ii7 => k_is)
    (case gl7 => k_is)
    (case gc7 => k_is)
    (case gk7 => k_is)
    (case gt7 => k_is)
    (case no7value => k_is)
    (case aC8 => k_is)
    (case xL8 => k_is)
    (case sa8 => k_is)
    (case ga8 => k_is)
    (case gg8 => k_is)
    (case hc8 => k_is)
    (case kC8 => k_is)
    (case ex8 => k_exc)
    (case aC9 => k_is)
    (case xL9 => k_is)
    (case sa9 => k_is)
    (case ga9 => k_is)
    (case gg9 => k_is)
    (case hc9 => k_is)
    (case kC9 => k_is)
    (case ii9 => k_is)
    (case gl9 => k_is)
    (case gc9 => k_is)
    (case gk9 => k_is)
    (case gt9 => k_is)
    (case no9value => k_is)
    (case aC10 => k_is)
    (case xL10 => k_is)
    (case sa10 => k_is)
    (case ga10 => k_is)
    (case gg10 => k_is)
    (case hc10 => k_is)
    (case kC10 => k_is)
    (case ii10 => k_is)
    (case gl10 => k_is)
    (case gc10 => k_is)
    (case gk10 => k_is)
    (case gt10 => k_is)
    (case no10value => k_is)
    (case aC11 => k_is)
    (case xL11 => k_is)
    (case sa11 => k_is)
    (case ga11 => k_is)
    (case gg11 => k_is)
    (case hc11 => k_is)
    (case kC11 => k_is)
    (case ii11 => k_is)
    (case gl11 => k_is)
    (case gc11 => k_is)
    (case gk11 => k_is)
    (case gt11 => k_is)
    (case no11value => k_is)
    (case aC12 => k_is)
    (case xL12 => k_is)
    (case sa12 => k_is)
    (case ga12 => k_is)
    (case gg12 => k_is)
    (case hc12 => k_is)
    (case kC12 => k_is)
    (case ii12 => k_is)
    (case gl12 => k_is)
    (case gc12 => k_is)
    (case gk12 => k_is)
    (case gt12 => k_is)
    (case no12destination => k_is)
    (case aC13 => k_is)
    (case xL13 => k_is)
    (case sa13 => k_is)
    (case ga13 => k_is)
    (case gg13 => k_is)
    (case hc13 => k_is)
    (case kC13 => k_is)
    (case ii13 => k_is)
    (case gl13 => k_is)
    (case gc13 => k_is)
    (case gk13 => k_is)
    (case gt13 => k_is)
    (case no13value => k_is)
    (case aC14 => k_is)
    (case xL14 => k_is)
    (case sa14 => k_is)
    (case ga14 => k_is)
    (case gg14 => k_is)
    (case hc14 => k_is)
    (case kC14 => k_is)
    (case ii14 => k_is)
    (case gl14 => k_is)
    (case gc14 => k_is)
    (case gk14 => k_is)
    (case gt14 => k_is)
    (case no14value => k_is)
    (case aC15 => k_is)
    (case xL15 => k_is)
    (case sa15 => k_is)
    (case ga15 => k_is)
    (case gg15 => k_is)
    (case hc15 => k_is)
    (case kC15 => k_is)
    (case ii15 => k_is)
    (case gl15 => k_is)
    (case gc15 => k_is)
    (case gk15 => k_is)
    (case gt15 => k_is)
    (case no15value => k_is)
    (case aC16 => k_is)
    (case xL16 => k_is)
    (case sa16 => k_is)
    (case ga16 => k_is)
    (case gg16 => k_is)
    (case hc16 => k_is)
    (case kC16 => k_is)
    (case ii16 => k_is)
    (case gl16 => k_is)
    (case gc16 => k_is)
    (case gk16 => k_is)
    (case gt16 => k_is)
    (case no16value => k_is)
    (case aC17 => k_is)
    (case xL17 => k_is)
    (case sa17 => k_is)
    (case ga17 => k_is)
    (case gg17 => k_is)
    (case hc17 => k_is)
    (case kC17 => k_is)
    (case ii17 => k_is)
    (case gl17 => k_is)
    (case gc17 => k_is)
    (case gk17 => k_is)
    (case gt17 => k_is)
    (case no17value => k_is)
    (case aC18 => k_is)
    (case xL18 => k_is)
    (case sa18 => k_is)
    (case ga18 => k_is)
    (case gg18 => k_is)
    (case hc18 => k_is)
    (case kC18 => k_is)
    (case ii18 => k_is)
    (case gl18 => k_is)
    (case gc18 => k_is)
    (case gk18 => k_is)
    (case gt18 => k_is)
    (case no18value => k_is)
    (case aC19 => k_is)
    (case xL19 => k_is)
    (case sa19 => k_is)
    (case ga19 => k_is)
    (case gg19 => k_is)
    (case hc19 => k_is)
    (case kC19 => k_is)
    (case ii19 => k_is)
    (case gl19 => k_is)
    (case gc19 => k_is)
    (case gk19 => k_is)
    (case gt19 => k_is)
    (case no19event => k_is)
    (case aC20 => k_is)
    (case xL20 => k_is)
    (case sa20 => k_is)
    (case ga20 => k_is)
    (case gg20 => k_is)
    (case hc20 => k_is)
    (case kC20 => k_is)
    (case ii20 => k_is)
    (case gl20 => k_is)
    (case gc20 => k_is)
    (case gk20 => k_is)
    (case gt20 => k_is)
    (case no20packet => k_is)
    (case no20router => k_is)
    (case aC21 => k_is)
    (case xL21 => k_is)
    (case sa21 => k_is)
    (case ga21 => k_is)
    (case gg21 => k_is)
    (case hc21 => k_is)
    (case kC21 => k_is)
    (case ii21 => k_is)
    (case gl21 => k_is)
    (case gc21 => k_is)
    (case gk21 => k_is)
    (case gt21 => k_is)
    (case no21ring => k_is)
    (case aC22 => k_is)
    (case xL22 => k_is)
    (case sa22 => k_is)
    (case ga22 => k_is)
    (case gg22 => k_is)
    (case hc22 => k_is)
    (case kC22 => k_is)
    (case ii22 => k_is)
    (case gl22 => k_is)
    (case gc22 => k_is)
    (case gk22 => k_is)
    (case gt22 => k_is)
    (case no22value => k_is)
    (case aC23 => k_is)
    (case xL23 => k_is)
    (case sa23 => k_is)
    (case ga23 => k_is)
    (case gg23 => k_is)
    (case hc23 => k_is)
    (case kC23 => k_is)
    (case ex23 => k_exc)
    (case aC24 => k_is)
    (case xL24 => k_is)
    (case sa24 => k_is)
    (case ga24 => k_is)
    (case gg24 => k_is)
    (case hc24 => k_is)
    (case kC24 => k_is)
    (case ii24 => k_is)
    (case gl24 => k_is)
    (case gc24 => k_is)
    (case gk24 => k_is)
    (case gt24 => k_is)
    (case no24value => k_is)
    (case aC25 => k_is)
    (case xL25 => k_is)
    (case sa25 => k_is)
    (case ga25 => k_is)
    (case gg25 => k_is)
    (case hc25 => k_is)
    (case kC25 => k_is)
    (case ii25 => k_is)
    (case gl25 => k_is)
    (case gc25 => k_is)
    (case gk25 => k_is)
    (case gt25 => k_is)
    (case no25value => k_is)
    (case aC26 => k_is)
    (case xL26 => k_is)
    (case sa26 => k_is)
    (case ga26 => k_is)
    (case gg26 => k_is)
    (case hc26 => k_is)
    (case kC26 => k_is)
    (case ii26 => k_is)
    (case gl26 => k_is)
    (case gc26 => k_is)
    (case gk26 => k_is)
    (case gt26 => k_is)
    (case no26value => k_is)
    (case zlen => k_is)
    (case zabs => k_is)
    (case zmax => k_is)
    (case zmin => k_is)
    (case zall => k_is)
    (case zrepr => k_is)
    (case zisinstance => k_is)
    (case zint => k_is)
    (case zrange => k_is)
    (case zenumerate => k_is)
    (case zValueError => k_is)
    (case hn => k_is)
    (case ht => k_is)
    (case inj => decide)
