import PyProof.Rows.All
import Wide.All
import OpenK.AllK
import Wide.FinOn
import HandS.ForMost
import HandS.IsInst
import HandS.WideBits
import PyProof.ReprRoads
import HandS.Walk
import HandS.TupAny
import HandS.TupMul
import HandS.Strs
import HandS.Zip
import HandS.Codes
import HandS.Exc
import HandS.ExcField
import HandS.ExcSuper
import KE.KExcInit
import KE.KExcSuper
import HandS.ForExc
import HandS.EndTab
import HandS.More
import HandS.ExcIs
import KE.KExcIs
import PyProof.StrOps2
import HandS.Lambda
import KE.KExcLine
import KE.KNestM
import HandS.Head2
import PySem.Challenge.RW_ringclear_k12_refused_in_order
set_option Elab.async false
set_option linter.all false
set_option maxRecDepth 100000
namespace Rc
open PySem PySem.Spec PyProof.Rows L2

/-- a promise that is kept where no repr is under way -/
structure FnG (P : Program) (w : World) (K : PySem.W.Frag) (mg : Str → Option Value)
    (base : Heap) (CX : CXT) (k : Nat) (f : Addr) (fd : FuncData) (ps : List Str) (sp : Sp) : Prop where
  len : ∀ vs H Q E, sp vs H Q E → vs.length = ps.length
  go : ∀ (A : Around) (outer : List Env) (s : Shared) (H : Hp) (args : Args) (us : List Value)
    (vs : List V) (Q : VK) (E : XK), Room k A → A.guards = some [] →
    Env0 P w K mg base A outer s H → BindsTo s fd args (ps.zip us) → Vals vs us → sp vs H Q E →
    codeAny (model P w) A (.call (.ref f) args) (CR CX outer P w H s Q E) s

section
variable {P : Program} {w : World} {K : PySem.W.Frag} {mg : Str → Option Value} {base : Heap}

theorem FnG.of {CX : CXT} {k : Nat} {f : Addr} {fd : FuncData} {ps : List Str} {sp : Sp}
    (F : FnOk P w K mg base CX k f fd ps sp) : FnG P w K mg base CX k f fd ps sp :=
  ⟨F.len, fun A outer s H args us vs Q E hr _ e0 hb r h =>
    F.run A outer s H args us vs Q E hr e0 hb r h⟩

/-- a def by its body, no repr being under way -/
theorem okG {CX : CXT} {x qual : Str} {st : Stmt} {f : Addr} {fd : FuncData} {N ps : List Str} {k : Nat} {sp : Sp}
    (F : Fun K x qual st f fd) (S : FnScope N ps (defScope st))
    (len : ∀ vs H Q E, sp vs H Q E → vs.length = ps.length)
    (body : ∀ (cdv : Value) (A : Around) (outer : List Env) (s : Shared) (H : Hp) (vs : List V) (Q : VK) (E : XK),
      Room k (A.deeper (envOfC qual (defScope st) s.heap.objs.size f cdv)) → A.guards = some [] → sp vs H Q E →
      ∃ t, PSs (cxOf CX P w K mg base N qual (defScope st) f cdv A outer s H E) (defBody st) t ∧
        t { nx := fun _ H' => Q .non H', rt := Q } (start N vs) H) :
    FnG P w K mg base CX (k + 1) f fd ps sp := by
  obtain ⟨oc, od, kV, doc, pm, an, cdv, ct, osl, rfl, lk, hcd⟩ := F.ex
  refine ⟨len, fun A outer s H args us vs Q E hr hg e0 hb r hsp => ?_⟩
  have hl := len vs H Q E hsp
  have keep : ∀ b o, base.get? b = some o → s.heap.get? b = some o := fun b o e => (e0.bs b o e).1
  have KX : K.In s.heap := e0.mod.kin.keeps keep
  refine codeAny_call_function hr.depth (KX _ _ lk) rfl S.co S.gen rfl
    (PySem.W.codeRec_of KX hcd) (hb _ _ _ _ ?_)
  refine wpAny_newFunctionEnv_cells S.kind (fun y hy => ?_) fun env he s1 x => ?_
  · obtain ⟨n, v⟩ := y
    exact (S.par n (List.of_mem_zip hy).1).elim .inl fun q => .inr ⟨q, PySem.W.cellsFrom_some _ _ _ (.inl q)⟩
  · subst he
    refine ⟨(e0.mod.nolimit.keeps keep).keeps x.toInCall.keep, codeAny_func ?_⟩
    obtain ⟨t, ht, hq⟩ := body cdv A outer s H vs Q E (hr.deeper _) hg hsp
    have I := inv_start (CX := CX) (E := E) S hr.hd e0 hl r x
    refine wpAny_mono (ht.run [] s1 (start N vs) H _ I hq) (fun fl s' hs => ?_) fun _ _ z => z
    cases fl with
    | ret u =>
      obtain ⟨v, σ', H', J, rv, q⟩ := hs
      exact ⟨v, H', J.os, J.bare, J.base, J.hok, rv, q⟩
    | next =>
      obtain ⟨σ', H', J, q⟩ := hs
      exact ⟨.non, H', J.os, J.bare, J.base, J.hok, rfl, q⟩
    | brk =>
      obtain ⟨_, _, _, q⟩ := hs
      exact q.elim
    | cont =>
      obtain ⟨_, _, _, q⟩ := hs
      exact q.elim
/-- .. where nothing that is raised leaves it -/
theorem okG0 {x qual : Str} {st : Stmt} {f : Addr} {fd : FuncData} {N ps : List Str} {k : Nat} {sp : Sp}
    (F : Fun K x qual st f fd) (S : FnScope N ps (defScope st))
    (len : ∀ vs H Q E, sp vs H Q E → vs.length = ps.length)
    (body : ∀ (cdv : Value) (A : Around) (outer : List Env) (s : Shared) (H : Hp) (vs : List V) (Q : VK) (E : XK),
      Room k (A.deeper (envOfC qual (defScope st) s.heap.objs.size f cdv)) → A.guards = some [] → sp vs H Q E →
      ∃ t, PSs (cxOf CX0 P w K mg base N qual (defScope st) f cdv A outer s H E).nox (defBody st) t ∧
        t { nx := fun _ H' => Q .non H', rt := Q } (start N vs) H) :
    FnG P w K mg base CX0 (k + 1) f fd ps sp :=
  okG F S len fun cdv A outer s H vs Q E hr hg h =>
    let ⟨t, a, b⟩ := body cdv A outer s H vs Q E hr hg h
    ⟨t, a.nox, b⟩
end

section
variable {X : Cx} {CX : CXT} {k : Nat} {f : Addr} {fd : FuncData} {ps : List Str} {sp : Sp} {E : XK} {x : Str}
  {p pos : Pos} {e : Expr} {es : List Expr} {t : TA}

theorem runG {pins : List (Addr × Obj)} {σ : L2.St} {H : Hp} {s : Shared} {Q : VK} {us : List Value} {vs : List V} {ds : List Value} {dvs : List V}
    (F : FnG X.prog X.w X.K X.mg X.base CX k f fd ps sp) (hr : Room k X.A) (hg : X.A.guards = some [])
    (hb : Binds X.K fd ps ds) (hd : Vals dvs ds) (hx : Passes CX X E) (I : Inv X pins σ H s) (r : Vals vs us)
    (h : sp (vs ++ dvs) H Q E) :
    wpAny (model X.prog X.w) X.A (call (.ref f) us) (EP X pins σ Q) X.xe s := by
  have r2 : Vals (vs ++ dvs) (us ++ ds) := r.append hd
  have hl : (us ++ ds).length = ps.length := r2.length.symm.trans (F.len _ _ _ _ h)
  refine wpAny_call (codeAny_mono (F.go X.A X.stack s H ⟨us, []⟩ (us ++ ds) (vs ++ dvs) Q E hr hg
    I.env0 (hb s us I.kIn hl) r2 h) fun r s' hq => ?_)
  match r, hq with
  | .error e, hq => exact hx pins σ H s e s' I hq
  | .ok (.ret u), hq => exact I.after hq
  | .ok .next, hq => exact hq.elim
  | .ok .brk, hq => exact hq.elim
  | .ok .cont, hq => exact hq.elim

theorem pe_callG {ds : List Value} {dvs : List V} (F : FnG X.prog X.w X.K X.mg X.base CX k f fd ps sp) (hr : Room k X.A)
    (gd : X.A.guards = some []) (hg : Gl X x) (hm : X.mg x = some (.ref f)) (hk : PySem.W.keepIn X.K (.ref f) = true)
    (hb : Binds X.K fd ps ds) (hd : Vals dvs ds) (hx : Passes CX X E) (ha : PA X (e :: es) t)
    (hdb : (x == ("__debug__" : Str)) = false := by decide)
    (he : starEach (e :: es) X.env = (false, eval e X.env) :: starEach es X.env := by rfl)
    (hpl : (backTo pos (starEach es X.env)).any (·.1) = false := by rfl) :
    PE X (.Call (.Name x p) (e :: es) [] pos) (tCall sp dvs E t) := by
  refine ⟨fun pins s σ H Q I h => wpAny_Call_Name_kw (ld_glob I hg hm ?_ hdb)⟩
  refine PySem.W.callWith_K (h₀ := X.base) I.ok.mod.kin hk ?_ he hpl
  refine thn (ha.run pos pins s σ H _ I h) fun us s1 z => ?_
  obtain ⟨vs, H1, I1, r, q⟩ := z
  exact ⟨I1.kIn, runG F hr gd hb hd hx I1 r q⟩

/-- f(k = v, ..), no value by place -/
def tCallKw (sp : Sp) (E : XK) (n : Nat) (tk : TA) : TE := fun σ H Q => tk σ H fun zs H2 => zs.length = n ∧ sp zs H2 Q E
theorem pe_callKw {ks : List Str} {kws : List Keyword} {tk : TA} (F : FnOk X.prog X.w X.K X.mg X.base CX k f fd ps sp)
    (hr : Room k X.A) (hg : Gl X x) (hm : X.mg x = some (.ref f)) (hk : PySem.W.keepIn X.K (.ref f) = true)
    (hb : ∀ (s : Shared) (ws : List Value), ws.length = ks.length → BindsTo s fd ⟨[], ks.zip ws⟩ (ps.zip ws)) (hx : Passes CX X E)
    (hkw : PK X kws tk) (hall : (backToKw pos (keywordEach kws X.env)).all (·.1.isSome) = true := by rfl)
    (hks : (backToKw pos (keywordEach kws X.env)).filterMap (·.1) = ks := by rfl)
    (hdb : (x == ("__debug__" : Str)) = false := by decide)
    (hpl : ((backTo pos (starEach [] X.env)).any (·.1) || (backToKw pos (keywordEach kws X.env)).any (·.1.isNone)) = false := by rfl) :
    PE X (.Call (.Name x p) [] kws pos) (tCallKw sp E ks.length tk) := by
  refine ⟨fun pins s σ H Q I h => wpAny_Call_Name_kw (ld_glob I hg hm ?_ hdb)⟩
  refine PySem.W.callWith_KW0 (h₀ := X.base) I.ok.mod.kin hk hall ?_ hpl
  refine thn (hkw.run pos pins s σ H _ I h) fun ws s2 z => ?_
  obtain ⟨zs, H2, I2, rz, l, q⟩ := z
  refine ⟨I2.kIn, ?_⟩
  rw [hks]
  refine wpAny_call (codeAny_mono (F.run X.A X.stack s2 H2 ⟨[], ks.zip ws⟩ ws zs Q E hr I2.env0
    (hb s2 ws (rz.length.symm.trans l)) rz q) fun r s' hq => ?_)
  match r, hq with
  | .error e, hq => exact hx pins σ H2 s2 e s' I2 hq
  | .ok (.ret u), hq => exact I2.after hq
  | .ok .next, hq => exact hq.elim
  | .ok .brk, hq => exact hq.elim
  | .ok .cont, hq => exact hq.elim
end

/-! ### repr -/
/-- no object -/
inductive Flat : V → PyData → Prop
  | non : Flat .non .none
  | bl (b : Bool) : Flat (.bl b) (.bool b)
  | int (i : Int) : Flat (.int i) (.int i)
  | str (x : Str) : Flat (.str x) (.str x)
inductive Flats : List V → List PyData → Prop
  | nil : Flats [] []
  | cons {v : V} {vs : List V} {d : PyData} {ds : List PyData} : Flat v d → Flats vs ds → Flats (v :: vs) (d :: ds)
mutual
/-- data that stands in the heap: none, truths, ints, texts, lists, tuples, dicts with int and text keys -/
inductive Dt (K : PySem.W.Frag) (H : Hp) : V → PyData → Prop
  | non : Dt K H .non .none
  | bl (b : Bool) : Dt K H (.bl b) (.bool b)
  | int (i : Int) : Dt K H (.int i) (.int i)
  | str (x : Str) : Dt K H (.str x) (.str x)
  | lst {a : Addr} {xs : List V} {ds : List PyData} : SqL K H a xs → DtAll K H xs ds → Dt K H (.ref a) (.list ds)
  | tup {a : Addr} {xs : List V} {ds : List PyData} : SqT K H a xs → DtAll K H xs ds → Dt K H (.ref a) (.tuple ds)
  | dct {a : Addr} {kvs : List (Key × V)} {ps : List (PyData × PyData)} : H a = some (.dK kvs) →
      Flats (kvs.map fun p => kV p.1) (ps.map (·.1)) → Flats (kvs.map (·.2)) (ps.map (·.2)) →
      Dt K H (.ref a) (.dict ps)
inductive DtAll (K : PySem.W.Frag) (H : Hp) : List V → List PyData → Prop
  | nil : DtAll K H [] []
  | cons {v : V} {vs : List V} {d : PyData} {ds : List PyData} : Dt K H v d → DtAll K H vs ds → DtAll K H (v :: vs) (d :: ds)
end

theorem Flat.reads {h : Heap} {v : V} {d : PyData} {u : Value} (f : Flat v d) (r : RelV v u) : Reads h u d [] := by
  cases f with
  | non => cases r; exact .none
  | bl b => cases r; exact .bool b
  | int i => obtain ⟨t, rfl⟩ := r; exact .int i t
  | str x => obtain ⟨t, rfl⟩ := r; exact .str x t
theorem Flats.reads {h : Heap} : ∀ {vs : List V} {ds : List PyData} {us : List Value}, Flats vs ds → Vals vs us → ReadsAll h us ds []
  | _, _, _, .nil, .nil => .nil
  | _, _, _, .cons f fs, .cons r rs => .cons (f.reads r) (fs.reads rs)
theorem keys_rel {P : Program} {w : World} : ∀ {es : List DictEntry} {vs : List (Key × Value)} {kvs : List (Key × V)}, Pairs (mixKind P w) es vs → KV kvs vs →
    Vals (kvs.map fun p => kV p.1) (es.map (·.key)) ∧ Vals (kvs.map (·.2)) (es.map (·.val))
  | [], _, _, .nil, .nil => ⟨.nil, .nil⟩
  | e :: es, (k, x) :: vs, (k', y) :: kvs, .cons h1 h2 hp, .cons r rs => by
    obtain ⟨a, b⟩ := keys_rel hp rs
    obtain ⟨e1, e2⟩ := r
    have e1' : k' = k := e1
    subst e1'
    refine ⟨.cons ?_ a, .cons ?_ b⟩
    · rcases keyIs_shape h1 with ⟨i, t, q1, q2⟩ | ⟨z, t, q1, q2⟩
      · have q1' : k' = Sum.inl i := q1
        subst q1'
        exact ⟨t, q2⟩
      · have q1' : k' = Sum.inr z := q1
        subst q1'
        exact ⟨t, q2⟩
    · show L2.RelV y e.val
      rw [h2]
      exact e2
section
variable {X : Cx} {pins : List (Addr × Obj)} {σ : L2.St} {H : Hp} {s : Shared}
/-- a dict alone may hold a dict (itself) -/
def DictTop (d : PyData) : Prop := d.hasDict = false ∨ ∃ ps, d = .dict ps
mutual
theorem Dt.reads (I : Inv X pins σ H s) : ∀ (d : PyData) (v : V) (u : Value), Dt X.K H v d → RelV v u →
    ∃ as, Reads s.heap u d as ∧ ((∃ ps, d = .dict ps) → sysModules ∉ as)
  | .none, _, _, h, r => by
    cases h; cases r
    exact ⟨_, .none, fun z => by obtain ⟨_, z⟩ := z; cases z⟩
  | .bool b, _, _, h, r => by
    cases h; cases r
    exact ⟨_, .bool b, fun z => by obtain ⟨_, z⟩ := z; cases z⟩
  | .int i, _, _, h, r => by
    cases h
    obtain ⟨t, rfl⟩ := r
    exact ⟨_, .int i t, fun z => by obtain ⟨_, z⟩ := z; cases z⟩
  | .str x, _, _, h, r => by
    cases h
    obtain ⟨t, rfl⟩ := r
    exact ⟨_, .str x t, fun z => by obtain ⟨_, z⟩ := z; cases z⟩
  | .list ds, _, _, h, r => by
    cases h with
    | lst hs ha =>
      cases r
      obtain ⟨its, rv, ⟨o, n, ho, hc, _, hd⟩, _⟩ := I.list hs
      obtain ⟨as, q⟩ := Dt.readsAll I ds _ its ha rv
      exact ⟨_, .list ho hc hd q, fun z => by obtain ⟨_, z⟩ := z; cases z⟩
  | .tuple ds, _, _, h, r => by
    cases h with
    | tup hs ha =>
      cases r
      obtain ⟨its, rv, ⟨o, ho, hc, n, hd⟩, _⟩ := I.tuple hs
      obtain ⟨as, q⟩ := Dt.readsAll I ds _ its ha rv
      exact ⟨_, .tuple ho hc hd q, fun z => by obtain ⟨_, z⟩ := z; cases z⟩
  | .dict ps, _, _, h, r => by
    cases h with
    | dct e fk fv =>
      cases r
      obtain ⟨_, ns, vs, kv, o, es, ep, ho, hx, hd, _, hp, _⟩ := I.hok _ _ e
      obtain ⟨a, b⟩ := keys_rel hp kv
      refine ⟨_, .dict ho hx.1 hd (fk.reads a) (fv.reads b), fun _ z => ?_⟩
      have z' := List.mem_singleton.mp (by simpa using z)
      rw [← z'] at ns
      simp at ns
theorem Dt.readsAll (I : Inv X pins σ H s) : ∀ (ds : List PyData) (vs : List V) (us : List Value), DtAll X.K H vs ds → Vals vs us → ∃ as, ReadsAll s.heap us ds as
  | [], _, _, h, r => by
    cases h; cases r
    exact ⟨_, .nil⟩
  | d :: ds, _, _, h, r => by
    cases h with
    | cons h1 h2 =>
      cases r with
      | cons r1 r2 =>
        obtain ⟨as, q1, _⟩ := Dt.reads I d _ _ h1 r1
        obtain ⟨bs, q2⟩ := Dt.readsAll I ds _ _ h2 r2
        exact ⟨_, .cons q1 q2⟩
end
end
section
variable {X : Cx}
def rRepr (K : PySem.W.Frag) : List V → Hp → VK → Prop := fun xs H Q => ∃ v d, xs = [v] ∧ Dt K H v d ∧ d.showable = true ∧ DictTop d ∧ d.depth ≤ 20 ∧ ((∃ i, d = .int i) ∨ d.shown.length ≤ sizeLine) ∧ Q (.str d.shown) H
theorem notInt {d : PyData} {A : Prop} (h : (∃ i, d = .int i) ∨ A) (n : ∀ i, d ≠ .int i) : A := h.elim (fun z => let ⟨i, e⟩ := z; absurd e (n i)) id
theorem call_repr {k : Nat} (hr : Room k X.A) (hg : X.A.guards = some []) : CallR X (.builtin "repr") (rRepr X.K) := by
  intro pins s σ H xs us Q I r h
  obtain ⟨v, d, rfl, hd, hs, ht, hp, hz, q⟩ := h
  obtain ⟨u, rfl, ru⟩ := vals1 r
  obtain ⟨as, rd, nsm⟩ := Dt.reads I d v u hd ru
  have hu := hr.units
  have big : ∀ a, u = .ref a → d.shown.length ≤ sizeLine → wpAny (model X.prog X.w) X.A (call (.builtin "repr") [u]) (EP X pins σ Q) X.xe s := by
    rintro a rfl hz
    refine repr_of_reads' rd hs (fun hx => ?_) hg (by omega) (fun _ _ e => e) (fun h' t tk hk => ?_) hz
    · rcases ht with z | z
      · rw [z] at hx; cases hx
      · exact nsm z
    · exact ⟨.str _, H, I.kept hk, ⟨t, rfl⟩, q⟩
  cases hd with
  | non => cases ru; exact PySem.P.repr_of_none ⟨.str _, H, I.tok _, ⟨_, rfl⟩, q⟩
  | bl b => cases ru; exact PySem.P.repr_of_bool ⟨.str _, H, I.tok _, ⟨_, rfl⟩, q⟩
  | int i =>
    obtain ⟨t, rfl⟩ := ru
    exact PySem.P.repr_of_int (by simpa [PyData.showable] using hs) ⟨.str _, H, I.tok _, ⟨_, rfl⟩, by simpa [PyData.shown] using q⟩
  | str x =>
    obtain ⟨t, rfl⟩ := ru
    exact PySem.P.repr_of_str ⟨.str _, H, I.tok _, ⟨_, rfl⟩, by simpa [PyData.shown] using q⟩ (by simpa [PyData.shown] using notInt hz (fun _ z => nomatch z))
  | lst _ _ => exact big _ ru (notInt hz fun _ z => nomatch z)
  | tup _ _ => exact big _ ru (notInt hz fun _ z => nomatch z)
  | dct _ _ _ => exact big _ ru (notInt hz fun _ z => nomatch z)
end

/-! ### the law's own call -/
section
open PySem.W
/-- the abstract heap at the law's entry: the script alone, locked, or nothing where it is the module's own -/
def entryH (K : Frag) (a : Addr) (o : Obj) (xs : List V) : Hp := fun b => if b = a ∧ K.lookup a = none then some (.frz o (.lst xs)) else none
theorem entryH_at {K : Frag} {a b : Addr} {o : Obj} {xs : List V} {u : HO} (h : entryH K a o xs b = some u) : b = a ∧ K.lookup a = none ∧ u = .frz o (.lst xs) := by
  unfold entryH at h
  split at h
  · rename_i c
    exact ⟨c.1, c.2, (Option.some.inj h).symm⟩
  · cases h
theorem law_callG {P : Program} {w : World} {K : Frag} {mg mb : Str → Option Value} {CX : CXT} {k : Nat} {fa a : Addr} {fd : FuncData}
    {x : Str} {sp : Sp} {s₁ : Shared} {vs : List Value} {ns : List Int}
    (KX : K.In s₁.heap) (hns : s₁.heap.Ns mainGlobals mg) (hb : s₁.heap.Ns builtinsNs mb)
    (hbb : ∀ x : Str, x ≠ "__name__" → mb x = bootBuiltins x) (hlim : s₁.heap.NoLimit) (hg : s₁.gens = #[])
    (ha : s₁.heap.get? a = some { cls := .type "list", data := .seq vs.toArray }) (hi : IntsAre vs ns)
    (hl : ns.length ≤ sizeLine) (hr : Room k callerA)
    (F : ∀ base : Heap, K.In base → base.Ns mainGlobals mg → FnG P w K mg base CX k fa fd [x] sp)
    (hbind : ∀ (s : Shared) (u : Value), BindsTo s fd ⟨[u], []⟩ [(x, u)])
    (hsp : ∀ H : Hp, Only H → SqL K H a (ns.map V.int) → sp [.ref a] H (fun v _ => v = .bl true) fun _ _ _ => False)
    (hCX : ∀ H e s', CX [] H s₁ (fun _ _ _ => False) e s' → False) :
    codeAny (model P w) callerA (.call (.ref fa) ⟨[.ref a], []⟩)
      (fun r s' => r = .ok (.ret (.bool true)) ∧ OldK s₁.heap s'.heap ∧ s'.os = s₁.os ∧ AllBare s'.gens) s₁ := by
  have rv := vals_ints hi
  have lv := hi.length
  generalize hH : entryH K a { cls := .type "list", data := .seq vs.toArray } (ns.map V.int) = H
  have hat : ∀ {b : Addr} {u : HO}, H b = some u → b = a ∧ K.lookup a = none ∧ u = .frz { cls := .type "list", data := .seq vs.toArray } (.lst (ns.map V.int)) :=
    fun {b u} e => entryH_at (by rw [hH]; exact e)
  have only : Only H := fun b => by
    cases q : H b with
    | none => exact .inl rfl
    | some u =>
      obtain ⟨_, _, rfl⟩ := hat q
      exact .inr ⟨_, _, rfl⟩
  have sq : SqL K H a (ns.map V.int) := by
    cases hk : K.lookup a with
    | none =>
      refine .inl (.inr ⟨{ cls := .type "list", data := .seq vs.toArray }, ?_⟩)
      rw [← hH]
      exact if_pos ⟨rfl, hk⟩
    | some o =>
      have e := KX a o hk
      rw [ha] at e
      cases e
      exact .inr ⟨_, vs.toArray, _, hk, rfl, rfl, rfl, by rw [List.size_toArray, lv]; exact hl, by simpa using rv⟩
  have hok : HOk P w H s₁.heap := fun b u e => by
    obtain ⟨rfl, _, rfl⟩ := hat e
    exact ⟨ha, by rw [List.length_map]; exact hl, vs, _, rv, ha⟩
  have dictFree : ∀ {b : Addr} {o : Obj} {es : Array DictEntry} {ep : Nat}, s₁.heap.get? b = some o → o.data = .dict es ep → H b = none := fun {b o es ep} e d => by
    cases q : H b with
    | none => rfl
    | some u =>
      obtain ⟨rfl, _, _⟩ := hat q
      rw [ha] at e
      cases e
      cases d
  have nsK : ∀ {b : Addr} {m : Str → Option Value}, s₁.heap.Ns b m → (hidT s₁.heap H).Ns b m :=
    fun {b m} z => let ⟨o, es, ep, e, d, r⟩ := z; ⟨o, es, ep, hidT_get e (dictFree e d), d, r⟩
  have kb : K.In (hidT s₁.heap H) := fun b o e => hidT_get (KX b o e) (by
    cases q : H b with
    | none => rfl
    | some u =>
      obtain ⟨rfl, z, _⟩ := hat q
      rw [z] at e
      cases e)
  have md : Mod K mg (hidT s₁.heap H) := ⟨kb, nsK hns, ⟨mb, nsK hb, hbb⟩, let ⟨mc, h1, h2⟩ := hlim; ⟨mc, nsK h1, h2⟩⟩
  have e0 : Env0 P w K mg (hidT s₁.heap H) callerA [] s₁ H :=
    { frames := rfl, mod := md, bs := fun b o e => of_hidT e, bsz := Nat.le_of_eq (hidT_size _ _), funs := trivial, frf := fun b z => absurd (show b ∈ ([] : List Addr) from z) (by simp), hok := hok, bare := .of_eq hg }
  refine codeAny_mono ((F _ kb (nsK hns)).go callerA [] s₁ H ⟨[.ref a], []⟩ [.ref a] [.ref a] _ _ hr rfl e0 (hbind s₁ (.ref a)) (.cons rfl .nil) (hsp H only sq)) fun r s' h => ?_
  match r, h with
  | .error e, h => exact (hCX H e s' h).elim
  | .ok .next, h => exact h.elim
  | .ok .brk, h => exact h.elim
  | .ok .cont, h => exact h.elim
  | .ok (.ret u), h =>
    obtain ⟨v, H', os, bare, un, hok', r', q⟩ := h
    have q' : v = .bl true := q
    subst q'
    obtain rfl : u = Value.bool true := r'
    refine ⟨rfl, OldK.of_keep fun b o e => ?_, os, bare⟩
    cases z : H b with
    | none => exact un.keep b o e z (fun y => absurd (show b ∈ ([] : List Addr) from y) (by simp)) (by simp)
    | some u =>
      obtain ⟨rfl, _, rfl⟩ := hat z
      have z2 := un.frzs _ _ _ z
      have e2 := (hok' _ _ z2).1
      rw [ha] at e
      cases e
      exact e2
/-- as walk_of, no repr being under way -/
theorem walk_ofG {l : OpenLaw} {n k : Nat} {q : Program} {loose : List Str} {XP : (Str → Option Value) → Heap → Prop} {YP : World → Heap → Prop}
    {d : DefRec} {K : Params → Frag} {CX : World → CXT} {sp : World → Sp} {x : Str}
    (hn : l.most = some n) (hn2 : n ≤ sizeLine) (hdf : d.params.defaults = []) (hr : Room k callerA)
    (hY : ∀ (w : World) (h : Heap), YP w h → (K w.params).In h)
    (F : ∀ (w : World) (mg : Str → Option Value) (fa : Addr) (h : Heap), (K w.params).In h → h.Ns mainGlobals mg →
      mg d.name = some (.ref fa) → ∃ fd : FuncData, (∀ (s : Shared) (u : Value), BindsTo s fd ⟨[u], []⟩ [(x, u)]) ∧
        ∀ base : Heap, (K w.params).In base → base.Ns mainGlobals mg → FnG l.prog w (K w.params) mg base (CX w) k fa fd [x] (sp w))
    (hsp : ∀ (w : World) (H : Hp) (a : Addr) (ns : List Int), ns.length ≤ n → Only H → SqL (K w.params) H a (ns.map V.int) →
      sp w [.ref a] H (fun v _ => v = .bl true) fun _ _ _ => False)
    (hCX : ∀ (w : World) (H : Hp) (s : Shared) (e : Value) (s' : Shared), CX w [] H s (fun _ _ _ => False) e s' → False) :
    WalkO q loose XP YP l.row.toRowW d [] (fun f vs => PySem.call f vs) := by
  refine Att.attach_call hn hdf fun w s₀ s₁ mg mb fa o pm cd doc a vs ns G Y ho hd hcd hmg hobj hints hlen hg => ?_
  obtain ⟨fd, b1, b2⟩ := F w mg fa _ (hY w _ Y) G.T.g hmg
  exact law_callG (hY w _ Y) G.T.g G.T.b G.T.builtins G.T.nolimit hg hobj hints (Nat.le_trans hlen hn2) hr b2 b1
    (fun H hO hS => hsp w H a ns hlen hO hS) fun H e s' => hCX w H s₁ e s'
end
end Rc

set_option exponentiation.threshold 400
namespace Rc
open PySem PySem.Spec PyProof.Rows L2
/-! ### the mathematics -/
def abc : List Nat := (List.range 26).map (· + 97)
def nameT (z : Str) : Bool := decide (1 ≤ z.length) && decide (z.length ≤ 8) && z.cps.toList.all fun c => decide (c ∈ abc)
def nameD : PyData → Bool
  | .str z => nameT z
  | _ => false
def wholeD : PyData → Bool
  | .int _ => true
  | _ => false
def amountD : PyData → Bool
  | .int i => decide (1 ≤ i)
  | _ => false
def tyD : PyData → String
  | .none => "NoneType"
  | .bool _ => "bool"
  | .int _ => "int"
  | .str _ => "str"
  | .list _ => "list"
  | .tuple _ => "tuple"
  | .dict _ => "dict"
def strD : PyData → Bool
  | .str _ => true
  | _ => false
def boolD : PyData → Bool
  | .bool _ => true
  | _ => false
theorem Dt.ty {K : PySem.W.Frag} {H : Hp} {v : V} {d : PyData} (h : Dt K H v d) : TyX K H v (.type (tyD d)) := by
  cases h with
  | non => exact .base .non
  | bl b => exact .base (.bl b)
  | int i => exact .base (.int i)
  | str x => exact .base (.str x)
  | lst q _ =>
    rcases q with (q | ⟨o, q⟩) | ⟨o, its, n, hk, hc, _⟩
    · exact .base (.lst q)
    · exact .base (.frz q)
    · exact .kList hk hc
  | tup q _ =>
    rcases q with (q | ⟨o, q⟩) | ⟨o, its, n, hk, hc, _⟩
    · exact .base (.tup q)
    · exact .fTuple q
    · exact .kTuple hk hc
  | dct q _ _ => exact .base (.dK q)
theorem kit_str {K : PySem.W.Frag} (d : PyData) : PySem.W.kitOne K (.type (tyD d)) (.type "str") = some (strD d) :=
  match d with
  | PyData.none => kit_ty (a := "NoneType") (b := "str") (r := false) (by decide +kernel)
  | .bool _ => kit_ty (a := "bool") (b := "str") (r := false) (by decide +kernel)
  | .int _ => kit_ty (a := "int") (b := "str") (r := false) (by decide +kernel)
  | .str _ => kit_ty (a := "str") (b := "str") (r := true) (by decide +kernel)
  | .list _ => kit_ty (a := "list") (b := "str") (r := false) (by decide +kernel)
  | .tuple _ => kit_ty (a := "tuple") (b := "str") (r := false) (by decide +kernel)
  | .dict _ => kit_ty (a := "dict") (b := "str") (r := false) (by decide +kernel)
theorem kit_int {K : PySem.W.Frag} (d : PyData) : PySem.W.kitOne K (.type (tyD d)) (.type "int") = some (wholeD d || boolD d) :=
  match d with
  | PyData.none => kit_ty (a := "NoneType") (b := "int") (r := false) (by decide +kernel)
  | .bool _ => kit_ty (a := "bool") (b := "int") (r := true) (by decide +kernel)
  | .int _ => kit_ty (a := "int") (b := "int") (r := true) (by decide +kernel)
  | .str _ => kit_ty (a := "str") (b := "int") (r := false) (by decide +kernel)
  | .list _ => kit_ty (a := "list") (b := "int") (r := false) (by decide +kernel)
  | .tuple _ => kit_ty (a := "tuple") (b := "int") (r := false) (by decide +kernel)
  | .dict _ => kit_ty (a := "dict") (b := "int") (r := false) (by decide +kernel)
theorem kit_bool {K : PySem.W.Frag} (d : PyData) : PySem.W.kitOne K (.type (tyD d)) (.type "bool") = some (boolD d) :=
  match d with
  | PyData.none => kit_ty (a := "NoneType") (b := "bool") (r := false) (by decide +kernel)
  | .bool _ => kit_ty (a := "bool") (b := "bool") (r := true) (by decide +kernel)
  | .int _ => kit_ty (a := "int") (b := "bool") (r := false) (by decide +kernel)
  | .str _ => kit_ty (a := "str") (b := "bool") (r := false) (by decide +kernel)
  | .list _ => kit_ty (a := "list") (b := "bool") (r := false) (by decide +kernel)
  | .tuple _ => kit_ty (a := "tuple") (b := "bool") (r := false) (by decide +kernel)
  | .dict _ => kit_ty (a := "dict") (b := "bool") (r := false) (by decide +kernel)
theorem same_upd {H : Hp} {p : Addr} {o : HO} (h : H p = none) : Same H (upd H p o) := fun b x e => by
  rw [upd_ne (ne_of_none e h)]
  exact e
mutual
theorem Dt.same {K : PySem.W.Frag} {H H' : Hp} (e : Same H H') : ∀ {v : V} (d : PyData), Dt K H v d → Dt K H' v d
  | _, .none, h => by cases h; exact .non
  | _, .bool _, h => by cases h; exact .bl _
  | _, .int _, h => by cases h; exact .int _
  | _, .str _, h => by cases h; exact .str _
  | _, .list ds, h => by
    cases h with
    | lst q a => exact .lst (e.seq q) (DtAll.same e ds a)
  | _, .tuple ds, h => by
    cases h with
    | tup q a =>
      refine .tup ?_ (DtAll.same e ds a)
      rcases q with (q | ⟨o, q⟩) | q
      · exact .inl (.inl (e _ _ q))
      · exact .inl (.inr ⟨o, e _ _ q⟩)
      · exact .inr q
  | _, .dict ps, h => by
    cases h with
    | dct q a b => exact .dct (e _ _ q) a b
theorem DtAll.same {K : PySem.W.Frag} {H H' : Hp} (e : Same H H') : ∀ {vs : List V} (ds : List PyData), DtAll K H vs ds → DtAll K H' vs ds
  | _, [], h => by cases h; exact .nil
  | _, d :: ds, h => by
    cases h with
    | cons a b => exact .cons (Dt.same e d a) (DtAll.same e ds b)
end
theorem iteNot {b : Bool} {A B : Prop} (e : ¬ b = true) (h : B) : if b = true then A else B := by
  rw [if_neg e]
  exact h
theorem letters_abc : (("abcdefghijklmnopqrstuvwxyz" : String) : Str).cps.toList = abc := by decide +kernel
/-- a text that is short enough -/
def ShortD (d : PyData) : Prop := ∀ z, d = .str z → z.length ≤ 1000
theorem small_line {n : Nat} (h : n ≤ 1000) : n ≤ sizeLine := Nat.le_of_lt (small1000 h)
/-! ### written data -/
theorem PE.of {X : Cx} {e : Expr} {t t' : TE} (h : PE X e t) (i : ∀ σ H Q, t' σ H Q → t σ H Q) : PE X e t' :=
  ⟨fun pins s σ H Q I q => h.run pins s σ H Q I (i σ H Q q)⟩
theorem PA.of {X : Cx} {es : List Expr} {t t' : TA} (h : PA X es t) (i : ∀ σ H Q, t' σ H Q → t σ H Q) : PA X es t' :=
  ⟨fun pos pins s σ H Q I q => h.run pos pins s σ H Q I (i σ H Q q)⟩
/-- what stands in H' and did not in H -/
def minus (H' H : Hp) : Hp := fun b => if H b = none then H' b else none
theorem minus_some {H' H : Hp} {b : Addr} {o : HO} (h : minus H' H b = some o) : H b = none ∧ H' b = some o := by
  unfold minus at h
  split at h
  · rename_i c
    exact ⟨c, h⟩
  · cases h
theorem minus_mk {H' H : Hp} {b : Addr} {o : HO} (h : H b = none) (h' : H' b = some o) : minus H' H b = some o := by
  unfold minus
  rw [if_pos h]
  exact h'
theorem minus_sub {H' H : Hp} : Same (minus H' H) H' := fun _ _ e => (minus_some e).2
theorem minus_l {H H1 H2 : Hp} (s : Same H1 H2) : Same (minus H1 H) (minus H2 H) := fun b o e => minus_mk (minus_some e).1 (s b o (minus_some e).2)
theorem minus_r {H H1 H2 : Hp} (s : Same H H1) : Same (minus H2 H1) (minus H2 H) := fun b o e => minus_mk (s.free (minus_some e).1) (minus_some e).2
theorem minus_at {H H1 : Hp} {p : Addr} {o : HO} (s : Same H H1) (h : H1 p = none) : minus (upd H1 p o) H p = some o := minus_mk (s.free h) upd_same
/-- an expression that gives the datum d, of new objects alone, all else as it was -/
def tLit (K : PySem.W.Frag) (d : PyData) : TE := fun _ H Q => ∀ v H', Same H H' → Dt K (minus H' H) v d → Q v H'
def tLits (K : PySem.W.Frag) (ds : List PyData) : TA := fun _ H Q => ∀ vs H', Same H H' → DtAll K (minus H' H) vs ds → Q vs H'
theorem DtAll.len {K : PySem.W.Frag} {H : Hp} : ∀ {vs : List V} {ds : List PyData}, DtAll K H vs ds → vs.length = ds.length
  | _, _, .nil => rfl
  | _, _, .cons _ t => by rw [List.length_cons, List.length_cons, DtAll.len t]
section
variable {X : Cx} {pos : Pos} {j : Nat} {e : Expr} {es : List Expr} {d : PyData} {ds : List PyData}
theorem l_non {j} : PE X (.Constant .none j pos) (tLit X.K .none) := PE.of pe_non fun _ H _ q => q _ H (Same.refl _) .non
theorem l_bl {b j} : PE X (.Constant (.bool b) j pos) (tLit X.K (.bool b)) := PE.of pe_bl fun _ H _ q => q _ H (Same.refl _) (.bl _)
theorem l_int {i j} : PE X (.Constant (.int i) j pos) (tLit X.K (.int i)) := PE.of pe_int fun _ H _ q => q _ H (Same.refl _) (.int _)
theorem l_str {x j} : PE X (.Constant (.str x) j pos) (tLit X.K (.str x)) := PE.of pe_str fun _ H _ q => q _ H (Same.refl _) (.str _)
theorem l_neg {i j} {p : Pos} : PE X (.UnaryOp .USub (.Constant (.int i) j p) pos) (tLit X.K (.int (-i))) := PE.of (pe_un un_neg pe_int) fun _ H _ q => ⟨i, rfl, q _ H (Same.refl _) (.int _)⟩
theorem ls_nil : PA X [] (tLits X.K []) := PA.of pa_nil fun _ H _ q => q _ H (Same.refl _) .nil
theorem ls_cons (h : PE X e (tLit X.K d)) (hs : PA X es (tLits X.K ds)) (hx : starEach (e :: es) X.env = (false, eval e X.env) :: starEach es X.env := by rfl) : PA X (e :: es) (tLits X.K (d :: ds)) :=
  PA.of (pa_cons h hs hx) fun _ _ _ q v H1 s1 h1 vs H2 s2 h2 => q (v :: vs) H2 (s1.trans s2) (.cons (Dt.same (minus_l s2) _ h1) (DtAll.same (minus_r s1) _ h2))
theorem l_lst (hs : PA X es (tLits X.K ds)) (hz : ds.length ≤ 1000 := by decide) : PE X (.List es pos) (tLit X.K (.list ds)) :=
  PE.of (pe_lst hs) fun _ _ _ q vs H1 s1 h1 => ⟨by rw [h1.len]; exact small_line hz, fun p hp => q _ _ (s1.trans (same_upd hp)) (.lst (.inl (.inl (minus_at s1 hp))) (DtAll.same (minus_l (same_upd hp)) _ h1))⟩
theorem l_tup {k} (hs : PA X es (tLits X.K ds)) (hz : ds.length ≤ 1000 := by decide) : PE X (.Tuple es k pos) (tLit X.K (.tuple ds)) :=
  PE.of (pe_tup hs) fun _ _ _ q vs H1 s1 h1 => ⟨by rw [h1.len]; exact small_line hz, fun p hp => q _ _ (s1.trans (same_upd hp)) (.tup (.inl (.inl (minus_at s1 hp))) (DtAll.same (minus_l (same_upd hp)) _ h1))⟩
theorem l_dct0 : PE X (.Dict [] [] pos) (tLit X.K (.dict [])) :=
  PE.of pe_dnewK fun _ _ _ q p hp => q _ _ (same_upd hp) (.dct (minus_at (Same.refl _) hp) .nil .nil)
theorem l_dctS {z i j1 j2} {p1 p2 : Pos} : PE X (.Dict [some (.Constant (.str z) j1 p1)] [.Constant (.int i) j2 p2] pos) (tLit X.K (.dict [(.str z, .int i)])) :=
  PE.of (pe_disp (pps_cons pe_str pe_int pps_nil) (by rfl) (by rfl) (fun z => by cases z) (by show 1 ≤ 15; decide)) fun _ _ _ q p hp =>
    ⟨upd_same, [(.inr z, .int i)], rfl, by show 1 ≤ 15; decide, by
      rw [upd_upd]
      exact q _ _ (same_upd hp) (.dct (minus_at (Same.refl _) hp) (.cons (.str z) .nil) (.cons (.int i) .nil))⟩
theorem l_dctI {z i j1 j2} {p1 p2 : Pos} : PE X (.Dict [some (.Constant (.int i) j1 p1)] [.Constant (.str z) j2 p2] pos) (tLit X.K (.dict [(.int i, .str z)])) :=
  PE.of (pe_disp (pps_cons pe_int pe_str pps_nil) (by rfl) (by rfl) (fun z => by cases z) (by show 1 ≤ 15; decide)) fun _ _ _ q p hp =>
    ⟨upd_same, [(.inl i, .str z)], rfl, by show 1 ≤ 15; decide, by
      rw [upd_upd]
      exact q _ _ (same_upd hp) (.dct (minus_at (Same.refl _) hp) (.cons (.int i) .nil) (.cons (.str z) .nil))⟩
/-- a written list of data as a list -/
def tLitL (K : PySem.W.Frag) (ds : List PyData) : TE := fun _ H Q => ∀ l xs H', Same H H' → H l = none → H' l = some (.lst xs) → DtAll K (minus H' H) xs ds → Q (.ref l) H'
theorem l_list (hs : PA X es (tLits X.K ds)) (hz : ds.length ≤ 1000 := by decide) : PE X (.List es pos) (tLitL X.K ds) :=
  PE.of (pe_lst hs) fun _ _ _ q vs H1 s1 h1 => ⟨by rw [h1.len]; exact small_line hz, fun p hp => q p vs _ (s1.trans (same_upd hp)) (s1.free hp) upd_same (DtAll.same (minus_l (same_upd hp)) _ h1)⟩
end
theorem DtAll.append {K : PySem.W.Frag} {H : Hp} : ∀ {vs us : List V} {ds es : List PyData}, DtAll K H vs ds → DtAll K H us es → DtAll K H (vs ++ us) (ds ++ es)
  | _, _, _, _, .nil, h => h
  | _, _, _, _, .cons a t, h => .cons a (DtAll.append t h)
theorem DtAll.mem {K : PySem.W.Frag} {H : Hp} : ∀ {vs : List V} {ds : List PyData} {v : V}, DtAll K H vs ds → v ∈ vs → ∃ d, d ∈ ds ∧ Dt K H v d
  | _, _, _, .nil, h => by cases h
  | _, _, _, .cons a t, h => by
    rcases List.mem_cons.mp h with e | e
    · subst e
      exact ⟨_, List.mem_cons_self, a⟩
    · obtain ⟨d, h1, h2⟩ := DtAll.mem t e
      exact ⟨d, List.mem_cons_of_mem _ h1, h2⟩
/-- an item by a number in the bounds -/
theorem pick {α : Type} {xs : List α} {i : Int} (h0 : 0 ≤ i) (h1 : i < xs.length) : ∃ v, atI xs i = some v ∧ v ∈ xs := by
  obtain ⟨n, rfl⟩ := Int.eq_ofNat_of_zero_le h0
  have hn : n < xs.length := by omega
  exact ⟨xs[n], atI_nat (List.getElem?_eq_getElem hn), List.getElem_mem hn⟩
/-- a pot: two numbers -/
def Pot (H : Hp) (p : Addr) : Prop := ∃ x y : Int, H p = some (.lst [.int x, .int y]) ∧ 0 ≤ x ∧ 0 ≤ y ∧ y < 2147483648
/-- all but p as it was -/
def But (p : Addr) (H H' : Hp) : Prop := ∀ b o, b ≠ p → H b = some o → H' b = some o
theorem But.refl (p : Addr) (H : Hp) : But p H H := fun _ _ _ e => e
theorem But.trans {p : Addr} {H H1 H2 : Hp} (a : But p H H1) (b : But p H1 H2) : But p H H2 := fun c o n e => b c o n (a c o n e)
theorem But.new {p q : Addr} {H : Hp} {o : HO} (h : H q = none) : But p H (upd H q o) := fun b x _ e => same_upd h b x e
theorem But.at {p : Addr} {H : Hp} {o : HO} : But p H (upd H p o) := fun b x n e => by rw [upd_ne n]; exact e
theorem Pot.new {p q : Addr} {H : Hp} {o : HO} (h : H q = none) (P : Pot H p) : Pot (upd H q o) p := by
  obtain ⟨x, y, e, r⟩ := P
  exact ⟨x, y, same_upd h _ _ e, r⟩
theorem Pot.but {p q : Addr} {H H' : Hp} (P : Pot H p) (b : But q H H') (n : p ≠ q) : Pot H' p := by
  obtain ⟨x, y, e, r⟩ := P
  exact ⟨x, y, b _ _ n e, r⟩
def LitM (m : Int) : Prop := 0 < m ∧ m.natAbs.log2 < 9000
/-- all but p -/
def away (p : Addr) (H : Hp) : Hp := fun b => if b = p then none else H b
theorem away_some {p b : Addr} {H : Hp} {o : HO} (h : away p H b = some o) : b ≠ p ∧ H b = some o := by
  unfold away at h
  split at h
  · cases h
  · rename_i c
    exact ⟨c, h⟩
theorem away_mk {p b : Addr} {H : Hp} {o : HO} (n : b ≠ p) (h : H b = some o) : away p H b = some o := by
  unfold away
  rw [if_neg n]
  exact h
theorem But.away {p : Addr} {H H' : Hp} (b : But p H H') : Same (away p H) (away p H') := fun c o e => away_mk (away_some e).1 (b c o (away_some e).1 (away_some e).2)
theorem away_sub {p : Addr} {H : Hp} : Same (away p H) H := fun _ _ e => (away_some e).2
/-! ### texts that are drawn -/
def Tx (n : Nat) (z : Str) : Prop := z.length ≤ n ∧ ∀ c ∈ z.cps.toList, c < 128
theorem Tx.mono {n m : Nat} {z : Str} (h : Tx n z) (hn : n ≤ m) : Tx m z := ⟨Nat.le_trans h.1 hn, h.2⟩
theorem Tx.app {n m : Nat} {z y : Str} (h : Tx n z) (g : Tx m y) : Tx (n + m) (z ++ y) := by
  refine ⟨by rw [Str.length_append]; exact Nat.add_le_add h.1 g.1, fun c hc => ?_⟩
  rw [Str.cps_append, Array.toList_append, List.mem_append] at hc
  exact hc.elim (h.2 c) (g.2 c)
theorem Tx.cut {n : Nat} {z : Str} (h : Tx n z) (lo hi : Option Int) : Tx n (cutS z lo hi) :=
  ⟨Nat.le_trans (cutS_length z lo hi) h.1, fun c hc => h.2 c (List.mem_of_mem_drop (List.mem_of_mem_take hc))⟩
theorem joinL_ones : ∀ cs : List Nat, TL.joinL [] (cs.map fun c => [c]) = cs
  | [] => rfl
  | [_] => rfl
  | c :: d :: r => by
    show [c] ++ ([] ++ TL.joinL [] ((d :: r).map fun c => [c])) = c :: d :: r
    rw [joinL_ones (d :: r)]
    rfl
theorem join_ones (cs : List Nat) : (Txt.join "" (cs.map fun c => (⟨#[c]⟩ : Str))).cps.toList = cs := by
  rw [TL.join_eq]
  have h := TL.tl_join "" (cs.map fun c => (⟨#[c]⟩ : Str))
  have e : (cs.map fun c => (⟨#[c]⟩ : Str)).map TL.tl = cs.map fun c => [c] := by
    rw [List.map_map]
    rfl
  rw [e] at h
  exact h.trans (joinL_ones cs)
theorem Tx.join {cs : List Nat} {n : Nat} (hn : cs.length ≤ n) (h : ∀ c ∈ cs, c < 128) : Tx n (Txt.join "" (cs.map fun c => (⟨#[c]⟩ : Str))) := by
  have e := join_ones cs
  refine ⟨?_, fun c hc => h c (e ▸ hc)⟩
  show (Txt.join "" (cs.map fun c => (⟨#[c]⟩ : Str))).cps.size ≤ n
  rw [← Array.length_toList, e]
  exact hn
theorem lens_ones : ∀ cs : List Nat, ((cs.map fun c => (⟨#[c]⟩ : Str)).map (·.length)).sum = cs.length
  | [] => rfl
  | c :: r => by
    show 1 + ((r.map fun c => (⟨#[c]⟩ : Str)).map (·.length)).sum = r.length + 1
    rw [lens_ones r]
    omega
theorem litM (m : Int) (h : 0 < m) (h2 : m < 2 ^ 300) : LitM m := by
  refine ⟨h, ?_⟩
  have a : m.natAbs < 2 ^ 300 := by omega
  exact Nat.lt_trans (PySem.Flt.log2_lt_of (by decide) a) (by decide)
theorem same_but {p : Addr} {H H' : Hp} (s : Same H H') : But p H H' := fun b o _ e => s b o e
theorem Pot.same {p : Addr} {H H' : Hp} (h : Pot H p) (s : Same H H') : Pot H' p := by
  obtain ⟨x, y, e, r⟩ := h
  exact ⟨x, y, s _ _ e, r⟩
end Rc

namespace Rc
open PySem PySem.Spec PyProof.Rows L2
def topS (i : Nat) : Stmt := PySem.Challenge.pw_ringclear_k12_refused_in_order.main.body.getD i (.Pass ⟨0, 0, 0, 0⟩)
section
variable {P : Program} {w : World} {K : PySem.W.Frag} {mg : Str → Option Value} {base : Heap}
/-! ### is_name -/
abbrev sName : Stmt := topS 10
theorem scName : FnScope ["thing", "sign"] ["thing"] (defScope sName) := ⟨rfl, rfl, rfl, by decide +kernel, rfl, by decide +kernel, by decide +kernel⟩
def spBool (K : PySem.W.Frag) (f : PyData → Bool) : Sp := fun vs H Q _ => ∃ v d, vs = [v] ∧ Dt K H v d ∧ ShortD d ∧ ∀ H', Same H H' → Q (.bl (f d)) H'
structure Blt (mg : Str → Option Value) : Prop where
  isi : mg "isinstance" = none
  str : mg "str" = none
  int : mg "int" = none
  bool : mg "bool" = none
  len : mg "len" = none
  all : mg "all" = none
theorem ok_name {f : Addr} {fd : FuncData} {k : Nat} (F : Fun K "is_name" "is_name" sName f fd) (B : Blt mg)
    (gL : ∃ t, mg "LETTERS" = some (.str "abcdefghijklmnopqrstuvwxyz" t)) (gM : ∃ t, mg "LONGEST" = some (.int 8 t)) :
    FnOk P w K mg base CX0 (k + 1) f fd ["thing"] (spBool K nameD) := by
  obtain ⟨tL, gL⟩ := gL
  obtain ⟨tM, gM⟩ := gM
  refine F.ok scName (fun vs H Q E h => ?_) (fun cdv A outer s H vs Q E hr h => ?_)
  · obtain ⟨v, d, rfl, _⟩ := h
    rfl
  · obtain ⟨v, d, rfl, hd, hz, q⟩ := h
    refine ⟨_, pss_cons (ps_if (pt_not (pt_val (pe_callB call_isi (by rfl) B.isi (by decide +kernel) (pa_cons (pv 0) (pa_cons (pe_bltn (v := .ty "str") (by rfl) B.str (by decide +kernel) rfl) pa_nil)))))
        (pss_one (ps_ret pe_bl)) pss_nil)
      (pss_cons (ps_if (PW.pt (pw_or (pt_cmpR op_lt (pe_callB call_len_str (by rfl) B.len PySem.boot_len (pa_cons (pv 0) pa_nil)) pe_int (nomark _))
          (pw_or1 (pt_cmpR op_gt (pe_callB call_len_str (by rfl) B.len PySem.boot_len (pa_cons (pv 0) pa_nil)) (pe_glob (v := .int 8) (by rfl) gM ⟨_, rfl⟩) (nomark _)))))
        (pss_one (ps_ret pe_bl)) pss_nil)
      (pss_one (ps_ret (pe_callB (cr_all rfl) (by rfl) B.all (by decide +kernel) (pa_cons
        (pe_lc (own := [("sign", 1)]) (g := gName 1) (tt := tYes) rfl scName.nd (pi_str (pv 0)) (blkOk_by (N := ["thing", "sign"]) (sc := defScope sName) (own := [("sign", 1)]) (by decide +kernel))
          (fun _ _ _ _ _ => pg_name (i := 1) scName.nd rfl (.inl rfl)) (fun _ _ _ _ _ => pts_nil)
          (fun _ _ _ _ _ => pe_cmpR op_in_sign (pv 1) (pe_glob (v := .str "abcdefghijklmnopqrstuvwxyz") (by rfl) gL ⟨_, rfl⟩) (by rfl))) pa_nil))))), ?_⟩
    refine ⟨v, rfl, v, .ty "str", _, _, strD d, rfl, .ty "str", hd.ty, kit_str d, _, rfl, ?_⟩
    cases hd with
    | str z =>
      refine iteF ?_
      have hz1 := hz z rfl
      have hz2 := small_line hz1
      refine ⟨.str z, rfl, z, rfl, hz2, _, _, rfl, rfl, _, rfl, ite2 (fun e => ?_) (fun e => ?_)⟩
      · refine iteT ?_
        have e1 : (z.length : Int) < 1 := of_decide_eq_true e
        have en : nameD (.str z) = false := by
          show nameT z = false
          unfold nameT
          rw [decide_eq_false (show ¬ 1 ≤ z.length by omega)]
          rfl
        rw [en] at q
        exact q _ (Same.refl _)
      · have e1 : ¬ (z.length : Int) < 1 := fun c => e (decide_eq_true c)
        refine ⟨.str z, rfl, z, rfl, hz2, _, _, rfl, rfl, _, rfl, ite2 (fun e2 => ?_) (fun e2 => ?_)⟩
        · have e3 : (8 : Int) < z.length := of_decide_eq_true e2
          have en : nameD (.str z) = false := by
            show nameT z = false
            unfold nameT
            rw [decide_eq_false (show ¬ z.length ≤ 8 by omega), Bool.and_false]
            rfl
          rw [en] at q
          exact q _ (Same.refl _)
        · have e3 : ¬ (8 : Int) < z.length := fun c => e2 (decide_eq_true c)
          refine ⟨.str z, rfl, z, rfl, fun D hD => lc_it walk_str (fun i H' => Same H H' ∧ H' D = some (.lst ((z.cps.toList.take i).map fun c => .bl (decide (c ∈ abc)))))
            ⟨same_upd hD, upd_same⟩ (fun _ _ _ _ => trivial) (fun i x H1 H2 hi hP hY => ?_) (fun H1 hP => ?_)⟩
          · obtain ⟨rfl, c, hc, rfl⟩ := hY
            refine ⟨rfl, .str ⟨#[c]⟩, rfl, c, _, rfl, rfl, _, hP.2, ?_, ?_, ?_⟩
            · rw [List.length_map, List.length_take]
              exact Nat.lt_of_le_of_lt (Nat.min_le_left _ _) (small1000 (by have : z.cps.size = z.length := rfl; omega))
            · intro b o eb
              rw [upd_ne (ne_of_none eb hD)]
              exact hP.1 b o eb
            · rw [upd_same, List.take_add_one, List.map_append]
              have g : z.cps.toList[i]? = some c := by rw [Array.getElem?_toList]; exact hc
              rw [g, letters_abc]
              rfl
          · refine ⟨D, z.cps.toList.map fun c => decide (c ∈ abc), rfl, .inl (.inl ?_), ?_⟩
            · have ez : z.cps.size = z.cps.toList.length := rfl
              rw [hP.2, ez, List.take_length, List.map_map]
              rfl
            · have en : nameD (.str z) = (z.cps.toList.map fun c => decide (c ∈ abc)).all id := by
                show nameT z = _
                unfold nameT
                rw [decide_eq_true (show 1 ≤ z.length by omega), decide_eq_true (show z.length ≤ 8 by omega), List.all_map]
                rfl
              rw [← en]
              exact q _ hP.1
    | _ => exact iteT (q _ (Same.refl _))
/-! ### is_whole, is_amount -/
abbrev sWhole : Stmt := topS 11
theorem scWhole : FnScope ["thing"] ["thing"] (defScope sWhole) := ⟨rfl, rfl, rfl, by decide +kernel, rfl, by decide +kernel, by decide +kernel⟩
theorem whole_eq (d : PyData) : (if (wholeD d || boolD d) = true then !boolD d else false) = wholeD d := by cases d <;> rfl
theorem ok_whole {f : Addr} {fd : FuncData} {k : Nat} (F : Fun K "is_whole" "is_whole" sWhole f fd) (B : Blt mg) :
    FnOk P w K mg base CX0 (k + 1) f fd ["thing"] (spBool K wholeD) := by
  refine F.ok scWhole (fun vs H Q E h => ?_) (fun cdv A outer s H vs Q E hr h => ?_)
  · obtain ⟨v, d, rfl, _⟩ := h
    rfl
  · obtain ⟨v, d, rfl, hd, hz, q⟩ := h
    refine ⟨_, pss_one (ps_ret (pe_and (pe_callB call_isi (by rfl) B.isi (by decide +kernel) (pa_cons (pv 0) (pa_cons (pe_bltn (v := .ty "int") (by rfl) B.int (by decide +kernel) rfl) pa_nil)))
      (pe_one (pe_not (pe_callB call_isi (by rfl) B.isi (by decide +kernel) (pa_cons (pv 0) (pa_cons (pe_bltn (v := .ty "bool") (by rfl) B.bool (by decide +kernel) rfl) pa_nil))))))), ?_⟩
    refine ⟨v, rfl, v, .ty "int", _, _, _, rfl, .ty "int", hd.ty, kit_int d, _, rfl, ?_⟩
    have e := whole_eq d
    have q1 := q H (Same.refl _)
    cases c : (wholeD d || boolD d) with
    | true =>
      rw [c, if_pos rfl] at e
      exact iteT ⟨v, rfl, v, .ty "bool", _, _, _, rfl, .ty "bool", hd.ty, kit_bool d, _, rfl, by rw [e]; exact q1⟩
    | false =>
      rw [c, if_neg Bool.false_ne_true] at e
      exact iteF (by rw [e]; exact q1)
abbrev sAmount : Stmt := topS 12
theorem scAmount : FnScope ["thing"] ["thing"] (defScope sAmount) := ⟨rfl, rfl, rfl, by decide +kernel, rfl, by decide +kernel, by decide +kernel⟩
theorem ok_amount {f fW : Addr} {fd fdW : FuncData} {k : Nat} (F : Fun K "is_amount" "is_amount" sAmount f fd) (FW : Fun K "is_whole" "is_whole" sWhole fW fdW)
    (bW : Binds K fdW ["thing"] []) (gW : mg "is_whole" = some (.ref fW)) (B : Blt mg) :
    FnOk P w K mg base CX0 (k + 2) f fd ["thing"] (spBool K amountD) := by
  have GW : FnOk P w K mg base CX0 (k + 1) fW fdW ["thing"] (spBool K wholeD) := ok_whole FW B
  refine F.ok scAmount (fun vs H Q E h => ?_) (fun cdv A outer s H vs Q E hr h => ?_)
  · obtain ⟨v, d, rfl, _⟩ := h
    rfl
  · obtain ⟨v, d, rfl, hd, hz, q⟩ := h
    refine ⟨_, pss_one (ps_ret (pe_and (pe_call GW hr (by rfl) gW FW.kp bW .nil pass0 (pa_cons (pv 0) pa_nil)) (pe_one (pe_cmpR op_ge (pv 0) pe_int (nomark _))))), ?_⟩
    refine ⟨v, rfl, v, d, rfl, hd, hz, fun H' sm => ⟨_, rfl, ?_⟩⟩
    have q1 := q H' sm
    cases hd with
    | int i => exact iteT ⟨_, rfl, i, 1, rfl, rfl, q1⟩
    | _ => exact iteF q1
end
end Rc

namespace Rc
open PySem PySem.Spec PyProof.Rows L2
section
variable {P : Program} {w : World} {K : PySem.W.Frag} {mg : Str → Option Value} {base : Heap}
structure Blt2 (mg : Str → Option Value) : Prop where
  abs : mg "abs" = none
  max : mg "max" = none
  min : mg "min" = none
  divmod : mg "divmod" = none
  range : mg "range" = none
  repr : mg "repr" = none
/-! ### _law_pot -/
abbrev sPot : Stmt := topS 22
theorem scPot : FnScope ["_law_script", "_law_k", "_law_cell"] ["_law_script", "_law_k"] (defScope sPot) := ⟨rfl, rfl, rfl, by decide +kernel, rfl, by decide +kernel, by decide +kernel⟩
def spPot (K : PySem.W.Frag) : Sp := fun vs H Q _ => ∃ (a : Addr) (ns : List Int) (k : Int), vs = [.ref a, .int k] ∧ SqL K H a (ns.map V.int) ∧ 0 ≤ k ∧ k ≤ 1000 ∧
  ∀ p o, H p = none → Pot (upd H p o) p → Q (.ref p) (upd H p o)
theorem ok_pot {f : Addr} {fd : FuncData} {k : Nat} (F : Fun K "_law_pot" "_law_pot" sPot f fd) (B : Blt mg) (B2 : Blt2 mg) :
    FnOk P w K mg base CX0 (k + 1) f fd ["_law_script", "_law_k"] (spPot K) := by
  refine F.ok scPot (fun vs H Q E h => ?_) (fun cdv A outer s H vs Q E hr h => ?_)
  · obtain ⟨a, ns, k, rfl, _⟩ := h
    rfl
  · obtain ⟨a, ns, k, rfl, hS, k0, k1, q⟩ := h
    refine ⟨_, pss_cons (ps_set (i := 2) scPot.nd rfl (.inl rfl) pe_int)
      (pss_cons (ps_if (pt_cmpR op_lt (pv 1) (pe_callB call_len_seq (by rfl) B.len PySem.boot_len (pa_cons (pv 0) pa_nil)) (nomark _))
        (pss_one (ps_set (i := 2) scPot.nd rfl (.inl rfl) (pe_callB call_abs (by rfl) B2.abs (by decide +kernel) (pa_cons (pe_ix ix_list (pv 0) (pv 1) (fun _ _ => rfl)) pa_nil)))) pss_nil)
      (pss_one (ps_ret (pe_lst (pa_cons (pe_callB (call_max2 rfl) (by rfl) B2.max (by decide +kernel) (pa_cons pe_int (pa_cons (pe_op op_sub (pv 2) (pe_op op_pow pe_int pe_int)) pa_nil)))
        (pa_cons (pe_op op_add (pe_op op_mod (pe_op op_pow (pe_op op_add (pe_op op_add (pe_op op_mod (pv 2) pe_int) (pe_op op_mul pe_int (pv 1))) pe_int) pe_int) pe_int) pe_int) pa_nil)))))), ?_⟩
    have fin : ∀ c : Int, 0 ≤ c → ∃ v, ([some (.ref a), some (.int k), some (.int c)] : List (Option V))[2]? = some (some v) ∧ v = .int c := fun c _ => ⟨_, rfl, rfl⟩
    have three : ∀ c : Int, 0 ≤ c → 0 ≤ c % 2147483549 + 101 * k + 1 ∧ (c % 2147483549 + 101 * k + 1).natAbs < 2 ^ 64 := fun c h0 => by
      have a1 : 0 ≤ c % 2147483549 := Int.emod_nonneg _ (by decide)
      have a2 : c % 2147483549 < 2147483549 := Int.emod_lt_of_pos _ (by decide)
      omega
    refine ⟨_, rfl, .ref a, rfl, a, _, rfl, .inl hS, _, _, rfl, rfl, _, rfl, ite2 (fun e => ?_) (fun e => ?_)⟩
    · have e1 : k < (ns.map V.int).length := of_decide_eq_true e
      rw [List.length_map] at e1
      obtain ⟨n, rfl⟩ := Int.eq_ofNat_of_zero_le k0
      have hn : n < ns.length := by omega
      have g : (ns.map V.int)[n]? = some (.int ns[n]) := by
        rw [List.getElem?_map, List.getElem?_eq_getElem hn]
        rfl
      refine ⟨.ref a, rfl, .int n, rfl, a, _, _, _, rfl, rfl, hS, atI_nat g, _, rfl, ?_⟩
      have c0 : 0 ≤ (if ns[n] < 0 then -ns[n] else ns[n]) := by split <;> omega
      generalize (if ns[n] < 0 then -ns[n] else ns[n]) = c at c0
      obtain ⟨t1, t2⟩ := three c c0
      refine ⟨.int c, rfl, _, _, rfl, rfl, ⟨by decide, by decide, by decide⟩, _, _, rfl, rfl, _, _, rfl, .int c, rfl, _, _, rfl, rfl, (show (0 : Int) < 2147483549 by decide), .int n, rfl, _, _, rfl, rfl, .inl ⟨by decide, by decide⟩, _, _, rfl, rfl, _, _, rfl, rfl, _, _, rfl, rfl, ⟨by decide, by decide, t2⟩, _, _, rfl, rfl, (show (0 : Int) < 2147483543 by decide), _, _, rfl, rfl, by show 2 ≤ sizeLine; decide, fun p np => ?_⟩
      refine q p _ np ⟨_, _, upd_same, ?_, ?_, ?_⟩
      · split <;> omega
      · have := Int.emod_nonneg ((c % 2147483549 + 101 * n + 1) ^ (2 : Int).toNat) (show (2147483543 : Int) ≠ 0 by decide)
        omega
      · have := Int.emod_lt_of_pos ((c % 2147483549 + 101 * n + 1) ^ (2 : Int).toNat) (show (0 : Int) < 2147483543 by decide)
        omega
    · obtain ⟨t1, t2⟩ := three 0 (Int.le_refl _)
      refine ⟨.int 0, rfl, _, _, rfl, rfl, ⟨by decide, by decide, by decide⟩, _, _, rfl, rfl, _, _, rfl, .int 0, rfl, _, _, rfl, rfl, (show (0 : Int) < 2147483549 by decide), .int k, rfl, _, _, rfl, rfl, .inl ⟨by decide, by decide⟩, _, _, rfl, rfl, _, _, rfl, rfl, _, _, rfl, rfl, ⟨by decide, by decide, t2⟩, _, _, rfl, rfl, (show (0 : Int) < 2147483543 by decide), _, _, rfl, rfl, by show 2 ≤ sizeLine; decide, fun p np => ?_⟩
      refine q p _ np ⟨_, _, upd_same, ?_, ?_, ?_⟩
      · split <;> omega
      · have := Int.emod_nonneg (((0 : Int) % 2147483549 + 101 * k + 1) ^ (2 : Int).toNat) (show (2147483543 : Int) ≠ 0 by decide)
        omega
      · have := Int.emod_lt_of_pos (((0 : Int) % 2147483549 + 101 * k + 1) ^ (2 : Int).toNat) (show (0 : Int) < 2147483543 by decide)
        omega
/-! ### _law_take -/
abbrev sTake : Stmt := topS 23
theorem scTake : FnScope ["_law_pot_here", "_law_many", "_law_digit"] ["_law_pot_here", "_law_many"] (defScope sTake) := ⟨rfl, rfl, rfl, by decide +kernel, rfl, by decide +kernel, by decide +kernel⟩
def spTake : Sp := fun vs H Q _ => ∃ (p : Addr) (m : Int), vs = [.ref p, .int m] ∧ Pot H p ∧ LitM m ∧ ∀ d H', 0 ≤ d → d < m → Pot H' p → But p H H' → Q (.int d) H'
theorem ok_take {f : Addr} {fd : FuncData} {k : Nat} (F : Fun K "_law_take" "_law_take" sTake f fd) (B2 : Blt2 mg) :
    FnOk P w K mg base CX0 (k + 1) f fd ["_law_pot_here", "_law_many"] spTake := by
  refine F.ok scTake (fun vs H Q E h => ?_) (fun cdv A outer s H vs Q E hr h => ?_)
  · obtain ⟨a, m, rfl, _⟩ := h
    rfl
  · obtain ⟨p, m, rfl, ⟨x, y, hp, x0, y0, y1⟩, ⟨m0, m1⟩, q⟩ := h
    refine ⟨_, pss_cons (ps_if (pt_cmpR op_gt (pe_ix ix_list (pv 0) pe_int (fun _ _ => rfl)) pe_int (nomark _))
        (pss_cons (ps_asg (pe_callB call_divmodW (by rfl) B2.divmod (by decide +kernel) (pa_cons (pe_ix ix_list (pv 0) pe_int (fun _ _ => rfl)) (pa_cons (pv 1) pa_nil)))
            (pg_tup rfl (pgs_cons (pg_sub (pv 0) pe_int set_list) (pgs_cons (pg_name (i := 2) scTake.nd rfl (.inl rfl)) pgs_nil))))
          (pss_one (ps_ret (pv 2)))) pss_nil)
      (pss_cons (ps_asg (pe_op op_mod (pe_op op_add (pe_op op_mul (pe_ix ix_list (pv 0) pe_int (fun _ _ => rfl)) pe_int) pe_int) pe_int) (pg_sub (pv 0) pe_int set_list))
      (pss_one (ps_ret (pe_op op_mod (pe_op op_fdiv (pe_op op_mod (pe_op op_mul (pe_ix ix_list (pv 0) pe_int (fun _ _ => rfl)) (pe_ix ix_list (pv 0) pe_int (fun _ _ => rfl))) pe_int) pe_int) (pv 1))))), ?_⟩
    have sq : SqL K H p [.int x, .int y] := .inl (.inl hp)
    refine ⟨.ref p, rfl, p, _, 0, .int x, rfl, rfl, sq, rfl, _, _, rfl, rfl, _, rfl, ite2 (fun e => ?_) (fun e => ?_)⟩
    · have e1 : 0 < x := of_decide_eq_true e
      refine ⟨.ref p, rfl, p, _, 0, .int x, rfl, rfl, sq, rfl, .int m, rfl, x, m, rfl, ⟨m0, PyProof.noPylong_of_log2 m1⟩, fun T hT => ?_⟩
      refine ⟨T, _, rfl, .inl (.inl upd_same), rfl, _, _, rfl, .ref p, rfl, p, _, 0, 0, rfl, rfl, same_upd hT _ _ hp, rfl, _, _, rfl, rfl, ?_⟩
      refine ⟨_, rfl, q _ _ (Int.emod_nonneg _ (by omega)) (Int.emod_lt_of_pos _ m0) ⟨x / m, y, upd_same, Int.ediv_nonneg x0 (by omega), y0, y1⟩ ?_⟩
      exact (But.new hT).trans But.at
    · have c0 : 0 ≤ (y * 48271 + 10007) % 2147483587 := Int.emod_nonneg _ (by decide)
      have c1 : (y * 48271 + 10007) % 2147483587 < 2147483587 := Int.emod_lt_of_pos _ (by decide)
      refine ⟨.ref p, rfl, p, _, 1, .int y, rfl, rfl, sq, rfl, _, _, rfl, rfl, .inl ⟨by omega, by omega⟩, _, _, rfl, rfl, _, _, rfl, rfl, (show (0 : Int) < 2147483587 by decide), .ref p, rfl, p, _, 1, 1, rfl, rfl, hp, rfl, ?_⟩
      have sq2 : SqL K (upd H p (.lst ([V.int x, V.int y].set 1 (.int ((y * 48271 + 10007) % 2147483587))))) p [.int x, .int ((y * 48271 + 10007) % 2147483587)] := .inl (.inl upd_same)
      refine ⟨.ref p, rfl, p, _, 1, _, rfl, rfl, sq2, rfl, .ref p, rfl, p, _, 1, _, rfl, rfl, sq2, rfl, _, _, rfl, rfl, .inl ⟨by omega, by omega⟩, _, _, rfl, rfl, (show (0 : Int) < 2147483563 by decide), _, _, rfl, rfl, ⟨by decide, by decide⟩, .int m, rfl, _, _, rfl, rfl, m0, ?_⟩
      exact q _ _ (Int.emod_nonneg _ (by omega)) (Int.emod_lt_of_pos _ m0) ⟨x, _, upd_same, x0, c0, by omega⟩ But.at
/-- what the callers of _law_take have -/
structure HasTake (P : Program) (w : World) (K : PySem.W.Frag) (mg : Str → Option Value) (base : Heap) (f : Addr) (fd : FuncData) : Prop where
  ok : FnOk P w K mg base CX0 1 f fd ["_law_pot_here", "_law_many"] spTake
  g : mg "_law_take" = some (.ref f)
  kp : PySem.W.keepIn K (.ref f) = true
  b : Binds K fd ["_law_pot_here", "_law_many"] []
/-! ### _law_among -/
abbrev sAmong : Stmt := topS 26
theorem scAmong : FnScope ["_law_pot_here", "_law_some"] ["_law_pot_here", "_law_some"] (defScope sAmong) := ⟨rfl, rfl, rfl, by decide +kernel, rfl, by decide +kernel, by decide +kernel⟩
def spAmong : Sp := fun vs H Q _ => ∃ p v, vs = [.ref p, v] ∧ Pot H p ∧
  ((∃ z, v = .str z ∧ 0 < z.length ∧ z.length ≤ 1000 ∧ ∀ c H', c ∈ z.cps.toList → Pot H' p → But p H H' → Q (.str ⟨#[c]⟩) H') ∨
   (∃ a xs, v = .ref a ∧ a ≠ p ∧ H a = some (.lst xs) ∧ 0 < xs.length ∧ xs.length ≤ 1000 ∧ ∀ x H', x ∈ xs → Pot H' p → But p H H' → Q x H'))
theorem ok_among {f fT : Addr} {fd fdT : FuncData} (F : Fun K "_law_among" "_law_among" sAmong f fd) (B : Blt mg) (T : HasTake P w K mg base fT fdT) :
    FnOk P w K mg base CX0 2 f fd ["_law_pot_here", "_law_some"] spAmong := by
  refine F.ok scAmong (fun vs H Q E h => ?_) (fun cdv A outer s H vs Q E hr h => ?_)
  · obtain ⟨a, m, rfl, _⟩ := h
    rfl
  · obtain ⟨p, v, rfl, hp, h⟩ := h
    refine ⟨_, pss_one (ps_ret (pe_ix ix_seq (pv 1) (pe_call T.ok hr (by rfl) T.g T.kp T.b .nil pass0 (pa_cons (pv 0) (pa_cons (pe_callB call_len (by rfl) B.len PySem.boot_len (pa_cons (pv 1) pa_nil)) pa_nil))) (fun _ _ => rfl))), ?_⟩
    rcases h with ⟨z, rfl, z0, z1, q⟩ | ⟨a, xs, rfl, ne, ha, x0, x1, q⟩
    · have zl := small_line z1
      refine ⟨.str z, rfl, .ref p, rfl, .str z, rfl, .str z, z.length, rfl, ⟨zl, rfl⟩, p, z.length, rfl, hp, litM _ (by omega) (by omega), fun d H' d0 d1 hp' hb => ?_⟩
      have el : z.cps.toList.length = z.length := rfl
      obtain ⟨c, e1, e2⟩ := pick (xs := z.cps.toList) d0 (by rw [el]; exact d1)
      exact .inr (.inr ⟨z, d, c, rfl, rfl, zl, e1, q c H' e2 hp' hb⟩)
    · refine ⟨.ref a, rfl, .ref p, rfl, .ref a, rfl, .ref a, xs.length, rfl, .inl ⟨xs, .inl (.inl ha), rfl⟩, p, xs.length, rfl, hp, litM _ (by omega) (by omega), fun d H' d0 d1 hp' hb => ?_⟩
      obtain ⟨c, e1, e2⟩ := pick (xs := xs) d0 d1
      exact .inl ⟨a, xs, d, c, rfl, rfl, .inl (.inl (hb _ _ ne ha)), e1, q c H' e2 hp' hb⟩
structure HasAmong (P : Program) (w : World) (K : PySem.W.Frag) (mg : Str → Option Value) (base : Heap) (f : Addr) (fd : FuncData) : Prop where
  ok : FnOk P w K mg base CX0 2 f fd ["_law_pot_here", "_law_some"] spAmong
  g : mg "_law_among" = some (.ref f)
  kp : PySem.W.keepIn K (.ref f) = true
  b : Binds K fd ["_law_pot_here", "_law_some"] []
end
end Rc

namespace Rc
open PySem PySem.Spec PyProof.Rows L2
/-! ### what no list and no dict touches -/
def Fix : HO → Prop
  | .lst _ | .dK _ | .dT _ | .set _ _ => False
  | _ => True
/-- all but lists and dicts as it was -/
def Kp (H H' : Hp) : Prop := ∀ b o, H b = some o → Fix o → H' b = some o
theorem Kp.refl (H : Hp) : Kp H H := fun _ _ e _ => e
theorem Kp.trans {H H1 H2 : Hp} (a : Kp H H1) (b : Kp H1 H2) : Kp H H2 := fun c o e f => b c o (a c o e f) f
theorem Same.kp {H H' : Hp} (s : Same H H') : Kp H H' := fun b o e _ => s b o e
theorem But.kp {p : Addr} {H H' : Hp} {xs : List V} (s : But p H H') (h : H p = some (.lst xs)) : Kp H H' := fun b o e f => s b o (fun z => by
  rw [z, h] at e
  cases e
  exact f) e
/-- all tuples as they were -/
def TupO : HO → Prop
  | .tup _ | .frz _ _ => True
  | _ => False
def KT (H H' : Hp) : Prop := ∀ b o, H b = some o → TupO o → H' b = some o
theorem Kp.kt {H H' : Hp} (k : Kp H H') : KT H H' := fun b o e t => k b o e (by cases o <;> first | exact t.elim | exact trivial)
theorem kt_same {H H' : Hp} (s : Same H H') : KT H H' := fun b o e _ => s b o e
theorem KT.trans {H H1 H2 : Hp} (a : KT H H1) (b : KT H1 H2) : KT H H2 := fun c o e f => b c o (a c o e f) f
theorem kt_upd {H : Hp} {x : Addr} {o o' : HO} (h : H x = some o) (n : ¬ TupO o) : KT H (upd H x o') := fun b u e t => by
  have nb : b ≠ x := fun z => by
    rw [z, h] at e
    cases e
    exact n t
  rw [upd_ne nb]
  exact e
mutual
/-- no list, no dict in it -/
def tupD : PyData → Bool
  | .list _ | .dict _ => false
  | .tuple ds => tupDs ds
  | .none | .bool _ | .int _ | .str _ => true
def tupDs : List PyData → Bool
  | [] => true
  | d :: ds => tupD d && tupDs ds
end
mutual
theorem Dt.keepT {K : PySem.W.Frag} {H H' : Hp} (e : KT H H') : ∀ {v : V} (d : PyData), tupD d = true → Dt K H v d → Dt K H' v d
  | _, .none, _, h => by cases h; exact .non
  | _, .bool _, _, h => by cases h; exact .bl _
  | _, .int _, _, h => by cases h; exact .int _
  | _, .str _, _, h => by cases h; exact .str _
  | _, .list ds, t, h => by simp [tupD] at t
  | _, .dict ps, t, h => by simp [tupD] at t
  | _, .tuple ds, t, h => by
    cases h with
    | tup q a =>
      refine .tup ?_ (DtAll.keepT e ds (by simpa [tupD] using t) a)
      rcases q with (q | ⟨o, q⟩) | q
      · exact .inl (.inl (e _ _ q trivial))
      · exact .inl (.inr ⟨o, e _ _ q trivial⟩)
      · exact .inr q
theorem DtAll.keepT {K : PySem.W.Frag} {H H' : Hp} (e : KT H H') : ∀ {vs : List V} (ds : List PyData), tupDs ds = true → DtAll K H vs ds → DtAll K H' vs ds
  | _, [], _, h => by cases h; exact .nil
  | _, d :: ds, t, h => by
    cases h with
    | cons a b =>
      have t' : tupD d = true ∧ tupDs ds = true := by simpa [tupDs] using t
      exact .cons (Dt.keepT e d t'.1 a) (DtAll.keepT e ds t'.2 b)
end
theorem Dt.keep {K : PySem.W.Frag} {H H' : Hp} (e : Kp H H') {v : V} (d : PyData) (t : tupD d = true) (h : Dt K H v d) : Dt K H' v d := Dt.keepT e.kt d t h
theorem DtAll.keep {K : PySem.W.Frag} {H H' : Hp} (e : Kp H H') {vs : List V} (ds : List PyData) (t : tupDs ds = true) (h : DtAll K H vs ds) : DtAll K H' vs ds := DtAll.keepT e.kt ds t h
theorem tupDs_map {α : Type} {f : α → PyData} (h : ∀ x, tupD (f x) = true) : ∀ l : List α, tupDs (l.map f) = true
  | [] => rfl
  | x :: r => by
    rw [List.map_cons]
    simp only [tupDs, h x, tupDs_map h r, Bool.and_self]
theorem DtAll.drop {K : PySem.W.Frag} {H : Hp} : ∀ {vs : List V} {ds : List PyData} (n : Nat), DtAll K H vs ds → DtAll K H (vs.drop n) (ds.drop n)
  | _, _, 0, h => h
  | _, _, _ + 1, .nil => .nil
  | _, _, n + 1, .cons _ t => DtAll.drop n t
theorem DtAll.take {K : PySem.W.Frag} {H : Hp} : ∀ {vs : List V} {ds : List PyData} (n : Nat), DtAll K H vs ds → DtAll K H (vs.take n) (ds.take n)
  | _, _, 0, h => .nil
  | _, _, _ + 1, .nil => .nil
  | _, _, n + 1, .cons a t => .cons a (DtAll.take n t)
theorem DtAll.get {K : PySem.W.Frag} {H : Hp} : ∀ {vs : List V} {ds : List PyData} {n : Nat} {d : PyData}, DtAll K H vs ds → ds[n]? = some d → ∃ v, vs[n]? = some v ∧ Dt K H v d
  | _, _, _, _, .nil, e => by simp at e
  | _, _, 0, _, .cons a _, e => by
    simp at e
    subst e
    exact ⟨_, rfl, a⟩
  | _, _, n + 1, _, .cons _ t, e => by
    obtain ⟨v, h1, h2⟩ := DtAll.get (n := n) t (by simpa using e)
    exact ⟨v, by simpa using h1, h2⟩
theorem DtAll.rep {K : PySem.W.Frag} {H : Hp} {v : V} {d : PyData} (h : Dt K H v d) : ∀ n : Nat, DtAll K H (List.replicate n v) (List.replicate n d)
  | 0 => .nil
  | n + 1 => .cons h (DtAll.rep h n)
theorem DtAll.strs {K : PySem.W.Frag} {H : Hp} : ∀ zs : List Str, DtAll K H (zs.map V.str) (zs.map PyData.str)
  | [] => .nil
  | z :: r => .cons (.str z) (DtAll.strs r)
theorem DtAll.ints {K : PySem.W.Frag} {H : Hp} : ∀ zs : List Int, DtAll K H (zs.map V.int) (zs.map PyData.int)
  | [] => .nil
  | z :: r => .cons (.int z) (DtAll.ints r)
theorem DtAll.strs_eq {K : PySem.W.Frag} {H : Hp} : ∀ {vs : List V} {zs : List Str}, DtAll K H vs (zs.map PyData.str) → vs = zs.map V.str
  | _, [], h => by cases h; rfl
  | _, z :: r, h => by
    cases h with
    | cons a t =>
      cases a
      rw [DtAll.strs_eq t]
      rfl
theorem DtAll.ints_eq {K : PySem.W.Frag} {H : Hp} : ∀ {vs : List V} {zs : List Int}, DtAll K H vs (zs.map PyData.int) → vs = zs.map V.int
  | _, [], h => by cases h; rfl
  | _, z :: r, h => by
    cases h with
    | cons a t =>
      cases a
      rw [DtAll.ints_eq t]
      rfl
/-! ### rules by data -/
theorem Dt.tup_inv {K : PySem.W.Frag} {H : Hp} {v : V} {ds : List PyData} (h : Dt K H v (.tuple ds)) : ∃ a xs, v = .ref a ∧ SqT K H a xs ∧ DtAll K H xs ds := by
  cases h with
  | tup q a => exact ⟨_, _, rfl, q, a⟩
theorem Dt.lst_inv {K : PySem.W.Frag} {H : Hp} {v : V} {ds : List PyData} (h : Dt K H v (.list ds)) : ∃ a xs, v = .ref a ∧ SqL K H a xs ∧ DtAll K H xs ds := by
  cases h with
  | lst q a => exact ⟨_, _, rfl, q, a⟩
section
variable {X : Cx}
def rCatD (K : PySem.W.Frag) : R2 := fun x y H Q => ∃ ds es, Dt K H x (.tuple ds) ∧ Dt K H y (.tuple es) ∧ ds.length + es.length ≤ 1000 ∧ ∀ v H', Same H H' → Dt K H' v (.tuple (ds ++ es)) → Q v H'
theorem op_catD : OpR X (binaryOp .Add) (rCatD X.K) := by
  intro pins s σ H x y v u Q I rx ry h
  obtain ⟨ds, es, h1, h2, hz, q⟩ := h
  obtain ⟨a, xs, rfl, qa, da⟩ := h1.tup_inv
  obtain ⟨b, ys, rfl, qb, db⟩ := h2.tup_inv
  refine op_catA pins s σ H _ _ v u Q I rx ry ⟨a, b, xs, ys, rfl, rfl, qa, qb, small_line (by rw [da.len, db.len]; exact hz), fun e => ?_, fun _ e => ?_, fun _ _ p hp => ?_⟩
  · subst e
    cases da
    exact q _ H (Same.refl _) h2
  · subst e
    cases db
    rw [List.append_nil] at q
    exact q _ H (Same.refl _) h1
  · exact q _ _ (same_upd hp) (.tup (.inl (.inl upd_same)) ((DtAll.same (same_upd hp) _ da).append (DtAll.same (same_upd hp) _ db)))
/-- t[n], n from 0 on -/
def rIxD (K : PySem.W.Frag) : R2 := fun x y H Q => ∃ ds n d, Dt K H x (.tuple ds) ∧ y = .int (n : Nat) ∧ ds[n]? = some d ∧ ∀ v, Dt K H v d → Q v H
theorem ix_tupD : IxR X (rIxD X.K) := by
  intro value slice pins s σ H x y v u Q I rx ry h hs
  obtain ⟨ds, n, d, h1, rfl, e, q⟩ := h
  obtain ⟨a, xs, rfl, qa, da⟩ := h1.tup_inv
  obtain ⟨z, e1, e2⟩ := da.get e
  exact ix_tup value slice pins s σ H _ _ v u Q I rx ry ⟨a, xs, n, z, rfl, rfl, qa, atI_nat e1, q z e2⟩ hs
/-- t[:n], t[n:] -/
def rSlD (K : PySem.W.Frag) : V → Option Int → Option Int → Hp → VK → Prop := fun x lo hi H Q => ∃ ds, Dt K H x (.tuple ds) ∧
  ((∃ n : Nat, lo = none ∧ hi = some (n : Int) ∧ ∀ v H', Same H H' → Dt K H' v (.tuple (ds.take n)) → Q v H') ∨ (∃ n : Nat, lo = some (n : Int) ∧ hi = none ∧ ∀ v H', Same H H' → Dt K H' v (.tuple (ds.drop n)) → Q v H'))
theorem cut_take (xs : List V) (n : Nat) : cutV xs none (some (n : Int)) = xs.take n := by
  unfold cutV
  rw [HT.sIx_nat, HT.sIx_none]
  rw [List.drop_zero, Nat.sub_zero]
  by_cases h : n ≤ xs.length
  · rw [Nat.min_eq_left h]
  · rw [Nat.min_eq_right (by omega), List.take_length, List.take_of_length_le (by omega)]
theorem cut_drop (xs : List V) (n : Nat) : cutV xs (some (n : Int)) none = xs.drop n := by
  unfold cutV
  rw [HT.sIx_nat, HT.sIx_none]
  by_cases h : n ≤ xs.length
  · rw [Nat.min_eq_left h]
    exact List.take_of_length_le (by rw [List.length_drop]; omega)
  · rw [Nat.min_eq_right (by omega), List.drop_length, List.drop_of_length_le (by omega), List.take_nil]
theorem sl_tupD : SlR X (rSlD X.K) := by
  intro pins s σ H x v vl vu lo hi sl Q I rx hs pl pu h
  obtain ⟨ds, h1, h⟩ := h
  obtain ⟨a, xs, rfl, qa, da⟩ := h1.tup_inv
  rcases h with ⟨n, rfl, rfl, q⟩ | ⟨n, rfl, rfl, q⟩
  · refine sl_tupA pins s σ H _ v vl vu _ _ sl Q I rx hs pl pu ⟨a, xs, rfl, qa, fun e => ?_, fun _ p hp => ?_⟩
    · have e2 := e.2
      rw [HT.sIx_nat] at e2
      refine q _ H (Same.refl _) ?_
      rw [List.take_of_length_le (by rw [← da.len]; omega)]
      exact h1
    · rw [cut_take]
      exact q _ _ (same_upd hp) (.tup (.inl (.inl upd_same)) (DtAll.same (same_upd hp) _ (da.take n)))
  · refine sl_tupA pins s σ H _ v vl vu _ _ sl Q I rx hs pl pu ⟨a, xs, rfl, qa, fun e => ?_, fun _ p hp => ?_⟩
    · have e1 := e.1
      rw [HT.sIx_nat] at e1
      refine q _ H (Same.refl _) ?_
      rcases Nat.min_eq_zero_iff.mp e1 with z | z
      · rw [z]
        exact h1
      · have : ds = [] := List.eq_nil_of_length_eq_zero (by rw [← da.len]; exact z)
        subst this
        rw [List.drop_nil]
        exact h1
    · rw [cut_drop]
      exact q _ _ (same_upd hp) (.tup (.inl (.inl upd_same)) (DtAll.same (same_upd hp) _ (da.drop n)))
/-- list(t), tuple(l) of tuples and lists of data: a new list; a tuple -/
def rListD (K : PySem.W.Frag) : List V → Hp → VK → Prop := fun vs H Q => ∃ v ds, vs = [v] ∧ (Dt K H v (.tuple ds) ∨ Dt K H v (.list ds)) ∧ ∀ l xs, H l = none → DtAll K H xs ds → Q (.ref l) (upd H l (.lst xs))
theorem call_listD : CallR X (.type "list") (rListD X.K) := by
  intro pins s σ H xs us Q I r h
  obtain ⟨v, ds, rfl, h1, q⟩ := h
  rcases h1 with h1 | h1
  · obtain ⟨a, ys, rfl, qa, da⟩ := h1.tup_inv
    exact call_list_of pins s σ H _ us Q I r ⟨a, ys, rfl, .inr qa, fun l hl => q l ys hl da⟩
  · obtain ⟨a, ys, rfl, qa, da⟩ := h1.lst_inv
    exact call_list_of pins s σ H _ us Q I r ⟨a, ys, rfl, .inl qa, fun l hl => q l ys hl da⟩
def rTupD (K : PySem.W.Frag) : List V → Hp → VK → Prop := fun vs H Q => ∃ v ds, vs = [v] ∧ Dt K H v (.list ds) ∧ ∀ t H', Same H H' → Dt K H' t (.tuple ds) → Q t H'
theorem call_tupD : CallR X (.type "tuple") (rTupD X.K) := by
  intro pins s σ H xs us Q I r h
  obtain ⟨v, ds, rfl, h1, q⟩ := h
  obtain ⟨a, ys, rfl, qa, da⟩ := h1.lst_inv
  exact call_tuple_of pins s σ H _ us Q I r ⟨a, ys, rfl, .inl ⟨qa, fun l hl => q _ _ (same_upd hl) (.tup (.inl (.inl upd_same)) (DtAll.same (same_upd hl) _ da))⟩⟩
end
open AutoSeq1 (wpAny_loadPart') in
theorem tuple_mul1 (l : Addr) (items : Array Value) (n : Nat) (dd : Option Addr) (sl : Array (Option Value)) (u : Tok) :
    Meets (Builtin.«tuple.__mul__» ⟨[.ref l, .int 1 u], []⟩) (fun _ R s => s.heap.get? l = some { cls := .type "tuple", dict := dd, data := .seq items n, slots := sl } ∧ R (.ok (.ret (Value.ref l))) s) :=
  .of_wp fun prog w A R s h => by
    obtain ⟨hp, g, d, tk, os⟩ := s
    obtain ⟨hl, h⟩ := h
    have f1 := AutoSeq1.idx_int
    wp_walk using wpAny_loadPart' hl
    exact ⟨_, rfl, h⟩
section
variable {X : Cx}
/-- (d,) * k, k from 1 on -/
def rRepD (K : PySem.W.Frag) : R2 := fun x y H Q => ∃ (d : PyData) (k : Nat), Dt K H x (.tuple [d]) ∧ y = .int (k : Nat) ∧ 1 ≤ k ∧ k ≤ 1000 ∧ ∀ v H', Same H H' → Dt K H' v (.tuple (List.replicate k d)) → Q v H'
theorem rep_one {v : V} : ∀ k : Nat, (List.replicate k [v]).flatten = List.replicate k v
  | 0 => rfl
  | k + 1 => by
    rw [List.replicate_succ, List.flatten_cons, rep_one k]
    rfl
theorem op_repD : OpR X (binaryOp .Mult) (rRepD X.K) := by
  intro pins s σ H x y v u Q I rx ry h
  obtain ⟨d, k, h1, rfl, k1, k2, q⟩ := h
  obtain ⟨l, xs, rfl, qa, da⟩ := h1.tup_inv
  by_cases hk : k = 1
  · subst hk
    cases rx
    obtain ⟨t, rfl⟩ := ry
    obtain ⟨its, r, ⟨⟨cls, dd, data, sl⟩, ho, hc, n, hd⟩, hs⟩ := I.tuple qa
    simp only at hc hd
    subst hc hd
    refine wpAny_binaryOp_repeat_ref (T := "tuple") (U := "int") (by decide) ⟨_, ho, rfl⟩ (fun s' => typeIs_int s' _ t) noFill_tuple_mul F.fills_int_mul F.slot_int_rmul repeat_tuple F.slot_int_index.lookup
      (call_meets F.slot_int_rmul (typeIs_int s _ t) F.entry_int_rmul (F.args_int_rmul_2 _ _) (int_rmul_tuple _ t l its.toArray n dd sl)
        ⟨ho, rfl, ⟨_, ho, rfl⟩, call_meets F.slot_tuple_mul ⟨_, ho, rfl⟩ F.entry_tuple_mul (F.args_tuple_mul_2 _ _) (tuple_mul1 l its.toArray n dd sl t) ⟨ho, ?_⟩⟩)
    exact ⟨.ref l, H, I, rfl, q _ H (Same.refl _) h1⟩
  · cases da with
    | cons a b =>
      cases b
      refine op_repT pins s σ H _ _ v u Q I rx ry ⟨l, k, _, rfl, rfl, qa, by simp, by omega, by omega, by simp, fun p hp => ?_⟩
      rw [rep_one]
      exact q _ _ (same_upd hp) (.tup (.inl (.inl upd_same)) (DtAll.rep (Dt.same (same_upd hp) _ a) k))
end
/-! ### a book's data -/
structure Bk where
  names : List Str
  gifts : List Int
  stacks : List (List (Str × Int))
  drops : List Int
def noteD (n : Str × Int) : PyData := .tuple [.str n.1, .int n.2]
def notesD (l : List (Str × Int)) : List PyData := l.map noteD
def stackD (l : List (Str × Int)) : PyData := .tuple (notesD l)
theorem tup_note (n : Str × Int) : tupD (noteD n) = true := by simp [noteD, tupD, tupDs]
theorem tup_notes (l : List (Str × Int)) : tupDs (notesD l) = true := tupDs_map tup_note l
theorem tup_stack (l : List (Str × Int)) : tupD (stackD l) = true := by
  unfold stackD
  simpa [tupD] using tup_notes l
theorem tup_stacks (l : List (List (Str × Int))) : tupD (.tuple (l.map stackD)) = true := by simpa [tupD] using tupDs_map tup_stack l
theorem tup_strs (l : List Str) : tupD (.tuple (l.map PyData.str)) = true := by simpa [tupD] using tupDs_map (f := PyData.str) (fun _ => by simp [tupD]) l
theorem tup_ints (l : List Int) : tupD (.tuple (l.map PyData.int)) = true := by simpa [tupD] using tupDs_map (f := PyData.int) (fun _ => by simp [tupD]) l
def bf (a b c d : V) : List (Str × V) := [("names", a), ("gifts", b), ("stacks", c), ("drops", d)]
theorem lk_hit {f : Str} {v : V} {r : List (Str × V)} : List.lookup f ((f, v) :: r) = some v := by simp [List.lookup]
theorem lk_miss {f g : Str} {v : V} {r : List (Str × V)} (h : (f == g) = false) : List.lookup f ((g, v) :: r) = List.lookup f r := by simp [List.lookup, h]
theorem bf_names {a b c d : V} : (bf a b c d).lookup ("names" : Str) = some a := lk_hit
theorem bf_gifts {a b c d : V} : (bf a b c d).lookup ("gifts" : Str) = some b := (lk_miss (by decide +kernel)).trans lk_hit
theorem bf_stacks {a b c d : V} : (bf a b c d).lookup ("stacks" : Str) = some c := (lk_miss (by decide +kernel)).trans ((lk_miss (by decide +kernel)).trans lk_hit)
theorem bf_drops {a b c d : V} : (bf a b c d).lookup ("drops" : Str) = some d := (lk_miss (by decide +kernel)).trans ((lk_miss (by decide +kernel)).trans ((lk_miss (by decide +kernel)).trans lk_hit))
/-- a name that is no field -/
def NoF (m : Str) : Prop := (m == "names") = false ∧ (m == "gifts") = false ∧ (m == "stacks") = false ∧ (m == "drops") = false
theorem bf_no {a b c d : V} {m : Str} (h : NoF m) : (bf a b c d).lookup m = none := (lk_miss h.1).trans ((lk_miss h.2.1).trans ((lk_miss h.2.2.1).trans ((lk_miss h.2.2.2).trans rfl)))
structure BookAt (K : PySem.W.Frag) (C : Addr) (H : Hp) (b : Addr) (M : Bk) : Prop where
  ex : ∃ dx tn on vg vs vd, H b = some (.ins C dx (bf (.ref tn) vg vs vd)) ∧ H tn = some (.frz on (.tup (M.names.map V.str))) ∧ on.dict = none ∧ Dt K H vg (.tuple (M.gifts.map .int)) ∧ Dt K H vs (.tuple (M.stacks.map stackD)) ∧ Dt K H vd (.tuple (M.drops.map .int))
theorem BookAt.keep {K : PySem.W.Frag} {C : Addr} {H H' : Hp} {b : Addr} {M : Bk} (h : BookAt K C H b M) (k : Kp H H') : BookAt K C H' b M := by
  obtain ⟨dx, tn, on, vg, vs, vd, e, h1, hn, h2, h3, h4⟩ := h.ex
  exact ⟨dx, tn, on, vg, vs, vd, k _ _ e trivial, k _ _ h1 trivial, hn, Dt.keep k _ (tup_ints _) h2, Dt.keep k _ (tup_stacks _) h3, Dt.keep k _ (tup_ints _) h4⟩
/-- a book that may be -/
structure Bk.Ok (M : Bk) : Prop where
  n0 : 1 ≤ M.names.length
  n1 : M.names.length ≤ 12
  nd : M.names.Nodup
  nm : ∀ z ∈ M.names, nameT z = true
  lg : M.gifts.length = M.names.length
  ls : M.stacks.length = M.names.length
  ld : M.drops.length = M.names.length
  many : (M.stacks.map List.length).sum ≤ 60
end Rc

namespace Rc
open PySem PySem.Spec PyProof.Rows L2
section
variable {X : Cx}
/-- tuple(l), the tuple known to the object -/
def rTupF (K : PySem.W.Frag) : List V → Hp → VK → Prop := fun vs H Q => ∃ p ys, vs = [.ref p] ∧ SqL K H p ys ∧ ∀ l o, H l = none → o.dict = none → Q (.ref l) (upd H l (.frz o (.tup ys)))
theorem call_tupF : CallR X (.type "tuple") (rTupF X.K) := by
  intro pins s σ H xs us Q I r h
  obtain ⟨p, ys, rfl, hq, q⟩ := h
  obtain ⟨u, rfl, rx⟩ := vals1 r
  cases rx
  obtain ⟨its, r', pl, hz⟩ := I.list hq
  have hlen := r'.length
  refine call_tuple_list pl.isList (fun h' kp => ?_) (by simp only [List.size_toArray] <;> omega)
  have I1 : L2.Inv X pins σ H { s with heap := h' } := I.kept (t' := s.toks) kp
  have e0 : (h'.push { cls := .type "tuple", data := .seq its.toArray }).get? h'.objs.size = some { cls := .type "tuple", data := .seq its.toArray } := Heap.get?_push_size _ rfl
  have I2 := I1.laid (a := h'.objs.size) (o := .frz { cls := .type "tuple", data := .seq its.toArray } (.tup ys)) (t' := s.toks) (h' := h'.push { cls := .type "tuple", data := .seq its.toArray })
    (fun b o e => Heap.get?_push_of_some _ e) (Nat.le_refl _) ⟨e0, hz, its, r', IsTup.new _ _⟩
  exact ⟨.ref h'.objs.size, _, I2, rfl, q _ _ (I1.hok.fresh (Nat.le_refl _)) rfl⟩
/-- t.m(e), t such a tuple -/
def tBMF (r : V → List V → Hp → VK → Prop) (to : TE) (t : TA) : TE := fun σ H Q => to σ H fun x H1 => ∃ p o xs, x = .ref p ∧ H1 p = some (.frz o (.tup xs)) ∧ o.dict = none ∧ t σ H1 fun vs H2 => r x vs H2 Q
theorem pe_bmF {o e : Expr} {es : List Expr} {to : TE} {t : TA} {name : Str} {apos cpos : Pos} {id : String} {r : V → List V → Hp → VK → Prop} (slot : Slot "tuple" name id) (hty : typeOf (.builtin id) = pure (.type "method_descriptor")) (hm : MtR X id r)
    (ho : PE X o to) (ha : PA X (e :: es) t) (hbase : attributeBase o name X.env (eval o X.env) = eval o X.env := by rfl)
    (hfew : ((backTo cpos (starEach (e :: es) X.env)).all (fun x => !x.1) && (backToKw cpos (keywordEach [] X.env)).all (fun x => x.1.isSome) &&
      decide ((e :: es).length + ([] : List Keyword).length + (if ([] : List Keyword).isEmpty then 0 else 1) < 30)) = true := by rfl)
    (hline : (apos.endLine == cpos.line) = true := by rfl) (hs : starEach (e :: es) X.env = (false, eval e X.env) :: starEach es X.env := by rfl)
    (hplain : (backTo cpos (starEach es X.env)).any (·.1) = false := by rfl) : PE X (.Call (.Attribute o name apos) (e :: es) [] cpos) (tBMF r to t) := by
  refine ⟨fun pins s σ H Q I h => wpAny_Call_method_late hbase hfew hline rfl (thn (ho.run pins s σ H _ I h) fun v s1 z => ?_)⟩
  obtain ⟨x, H1, I1, r1, p, ob, xs, rfl, hp, hd, q1⟩ := z
  cases r1
  obtain ⟨g1, _, its, rv, hT⟩ := I1.hok p _ hp
  obtain ⟨o2, g2, c2, _⟩ := hT
  rw [g1] at g2
  cases g2
  refine ⟨"tuple", id, PySem.F.plainAttrs_tuple, slot, hty, ⟨ob, g1, c2⟩, fun a e => ?_, ?_⟩
  · cases e
    exact ⟨ob, g1, hd⟩
  have hA := ha.run cpos pins s1 σ H1 _ I1 q1
  rw [hs] at hA ⊢
  refine Calls.callWith_builtin (by show (false || (backTo cpos (starEach es X.env)).any (·.1)) = false; rw [hplain] <;> rfl) (Calls.evalArgs_plain (thn hA fun us s2 z => ?_))
  obtain ⟨vs, H2, I2, r2, q2⟩ := z
  exact hm pins s2 σ H2 (.ref p) vs _ us Q I2 rfl r2 q2
/-- one of two readings of what is walked -/
theorem PI.or {tg e : Expr} {t1 t2 : TI} (h1 : PI X tg e t1) (h2 : PI X tg e t2) : PI X tg e (fun σ H R => t1 σ H R ∨ t2 σ H R) :=
  ⟨fun pins s σ H R I q => q.elim (h1.run pins s σ H R I) (h2.run pins s σ H R I)⟩
end
theorem inV_strs (z : Str) (zs : List Str) : inV (.str z) (zs.map V.str) = decide (z ∈ zs) := by
  unfold inV
  rw [List.any_map]
  induction zs with
  | nil => rfl
  | cons y r ih =>
    rw [List.any_cons, ih]
    show ((y == z) || decide (z ∈ r)) = decide (z ∈ y :: r)
    by_cases h : y = z
    · subst h
      simp
    · have h' : ¬ z = y := fun e => h e.symm
      rw [beq_eq_false_iff_ne.mpr h]
      simp [h']
end Rc

namespace Rc
open PySem PySem.Spec PyProof.Rows L2
/-- a def that is called -/
structure Has (P : Program) (w : World) (K : PySem.W.Frag) (mg : Str → Option Value) (base : Heap) (k : Nat) (nm : Str) (ps : List Str) (sp : Sp) (f : Addr) (fd : FuncData) : Prop where
  ok : FnOk P w K mg base CX0 k f fd ps sp
  g : mg nm = some (.ref f)
  kp : PySem.W.keepIn K (.ref f) = true
  b : Binds K fd ps []
/-- a method that is called -/
structure HasM (P : Program) (w : World) (K : PySem.W.Frag) (mg : Str → Option Value) (base : Heap) (C : Addr) (k : Nat) (nm : Str) (ps : List Str) (sp : Sp) (f : Addr) (fd : FuncData) : Prop where
  ok : FnOk P w K mg base CX0 k f fd ps sp
  m : Meth K C nm f
  b : Binds K fd ps []
structure Blt3 (mg : Str → Option Value) : Prop where
  list : mg "list" = none
  tuple : mg "tuple" = none
  enumerate : mg "enumerate" = none
  zip : mg "zip" = none
  sum : mg "sum" = none
  dict : mg "dict" = none
structure ClsF (K : PySem.W.Frag) (C : Addr) : Prop where
  cl : Cls K C
  n1 : NoAttr K C "names"
  n2 : NoAttr K C "gifts"
  n3 : NoAttr K C "stacks"
  n4 : NoAttr K C "drops"
section
variable {P : Program} {w : World} {K : PySem.W.Frag} {mg : Str → Option Value} {base : Heap}
/-! ### check_persons -/
abbrev sCheckP : Stmt := topS 16
theorem scCheckP : FnScope ["persons", "place", "name"] ["persons"] (defScope sCheckP) := ⟨rfl, rfl, rfl, by decide +kernel, rfl, by decide +kernel, by decide +kernel⟩
/-- names of which a book may be made -/
structure NamesOk (zs : List Str) : Prop where
  n0 : 1 ≤ zs.length
  n1 : zs.length ≤ 12
  nd : zs.Nodup
  nm : ∀ z ∈ zs, nameT z = true
theorem nameT_len {z : Str} (h : nameT z = true) : 1 ≤ z.length ∧ z.length ≤ 8 := by
  unfold nameT at h
  simp only [Bool.and_eq_true, decide_eq_true_eq] at h
  exact h.1
def spCheckP (K : PySem.W.Frag) : Sp := fun vs H Q _ => ∃ a zs, vs = [.ref a] ∧ H a = some (.lst (zs.map V.str)) ∧ NamesOk zs ∧ ∀ H', Same H H' → Q .non H'
theorem ok_checkP {f fN : Addr} {fd fdN : FuncData} (F : Fun K "check_persons" "check_persons" sCheckP f fd) (B : Blt mg) (B3 : Blt3 mg) (gM : ∃ t, mg "MOST_PERSONS" = some (.int 12 t))
    (N : Has P w K mg base 1 "is_name" ["thing"] (spBool K nameD) fN fdN) : FnOk P w K mg base CX0 2 f fd ["persons"] (spCheckP K) := by
  obtain ⟨tM, gM⟩ := gM
  refine F.ok scCheckP (fun vs H Q E h => ?_) (fun cdv A outer s H vs Q E hr h => ?_)
  · obtain ⟨a, zs, rfl, _⟩ := h
    rfl
  · obtain ⟨a, zs, rfl, ha, ok, q⟩ := h
    refine ⟨_, pss_cons (ps_if (PW.pt (pw_or (pt_not (pt_val (pe_callB call_isi (by rfl) B.isi (by decide +kernel) (pa_cons (pv 0) (pa_cons (pe_bltn (v := .ty "list") (by rfl) B3.list (by decide +kernel) rfl) pa_nil)))))
        (pw_or (pt_cmpR op_lt (pe_callB call_len_seq (by rfl) B.len PySem.boot_len (pa_cons (pv 0) pa_nil)) pe_int (nomark _))
        (pw_or1 (pt_cmpR op_gt (pe_callB call_len_seq (by rfl) B.len PySem.boot_len (pa_cons (pv 0) pa_nil)) (pe_glob (v := .int 12) (by rfl) gM ⟨_, rfl⟩) (nomark _)))))) pss_never pss_nil)
      (pss_one (ps_for PassesOwn.never rfl (pi_enum (by rfl) B3.enumerate (pa_cons (pv 0) pa_nil)) (pg_tup rfl (pgs_cons (pg_name (i := 1) scCheckP.nd rfl (.inl rfl)) (pgs_cons (pg_name (i := 2) scCheckP.nd rfl (.inl rfl)) pgs_nil)))
        (pss_cons (ps_if (pt_not (pt_val (pe_call N.ok hr (by rfl) N.g N.kp N.b .nil pass0 (pa_cons (pv 2) pa_nil)))) pss_never pss_nil)
        (pss_one (ps_if (pt_cmpR op_in_seq (pv 2) (pe_slice sl_list (pv 0) po_none (po_some (pv 1))) (by rfl)) pss_never pss_nil))))), ?_⟩
    have sq : SqL K H a (zs.map V.str) := .inl (.inl ha)
    refine ⟨.ref a, rfl, _, .ty "list", _, _, true, rfl, .ty "list", .base (.lst ha), kit_ty (by decide +kernel), _, rfl, iteF ?_⟩
    refine ⟨.ref a, rfl, a, _, rfl, .inl sq, _, _, rfl, rfl, _, rfl, ?_⟩
    have l0 := ok.n0
    have l1 := ok.n1
    rw [show decide (((zs.map V.str).length : Int) < 1) = false from decide_eq_false (by rw [List.length_map]; omega)]
    refine iteF ⟨.ref a, rfl, a, _, rfl, .inl sq, _, _, rfl, rfl, _, rfl, ?_⟩
    rw [show decide ((12 : Int) < ((zs.map V.str).length : Int)) = false from decide_eq_false (by rw [List.length_map]; omega)]
    refine iteF ⟨.ref a, rfl, a, _, rfl, sq, ?_⟩
    refine for_it (walk_enum (xs := zs.map V.str)) (fun i σ H' => ∃ y1 y2, σ = [some (.ref a), y1, y2] ∧ Same H H') ⟨_, _, rfl, Same.refl _⟩ (fun i σ H' _ hP => ?_) (fun i x σ H1' H1 hi hP hY => ?_) (fun σ H' hP => ?_)
    · obtain ⟨_, _, _, s⟩ := hP
      exact s.seq sq
    · obtain ⟨T, x1, x2, rfl, nT, rfl, e1, e2⟩ := hY
      obtain ⟨y1, y2, rfl, s1⟩ := hP
      cases e1
      have s2 := s1.trans (same_upd (o := .tup [V.int (i : Nat), x2]) nT)
      rw [List.length_map] at hi
      have ex : x2 = .str zs[i] := by
        have e2' : (zs.map V.str)[i]? = some x2 := e2
        rw [List.getElem?_map, List.getElem?_eq_getElem hi] at e2'
        exact (Option.some.inj e2').symm
      subst ex
      have hm : zs[i] ∈ zs := List.getElem_mem hi
      have nm := ok.nm _ hm
      refine ⟨T, _, rfl, .inl (.inl upd_same), rfl, _, _, rfl, _, _, rfl, rfl, ?_⟩
      refine ⟨.str zs[i], rfl, .str zs[i], .str zs[i], rfl, .str _, fun z e => by cases e; have := (nameT_len nm).2; omega, fun H2 sm => ⟨_, rfl, ?_⟩⟩
      have e3 : nameD (.str zs[i]) = true := nm
      rw [e3]
      refine iteF ⟨.str zs[i], rfl, .ref a, rfl, .int (i : Nat), rfl, _, rfl, a, _, rfl, sm.seq (s2.seq sq), fun p np => ?_⟩
      rw [cut_take, ← List.map_take]
      refine ⟨p, _, rfl, .inl (.inl (.inl upd_same)), rfl, flat_strs _, _, rfl, ?_⟩
      have no : ¬ zs[i] ∈ zs.take i := fun z => by
        obtain ⟨j, hj, e⟩ := List.getElem_of_mem z
        rw [List.length_take] at hj
        rw [List.getElem_take] at e
        have := (List.getElem_inj ok.nd).mp e
        omega
      show if inV (.str zs[i]) ((zs.take i).map V.str) = true then _ else _
      rw [inV_strs, decide_eq_false no]
      exact iteF ⟨_, _, rfl, s2.trans (sm.trans (same_upd np))⟩
    · obtain ⟨_, _, rfl, s⟩ := hP
      exact q _ s
/-! ### check_amount -/
abbrev sCheckA : Stmt := topS 17
theorem scCheckA : FnScope ["amount"] ["amount"] (defScope sCheckA) := ⟨rfl, rfl, rfl, by decide +kernel, rfl, by decide +kernel, by decide +kernel⟩
def spCheckA (K : PySem.W.Frag) : Sp := fun vs H Q _ => ∃ n : Int, vs = [.int n] ∧ 1 ≤ n ∧ ∀ H', Same H H' → Q .non H'
theorem ok_checkA {f fN : Addr} {fd fdN : FuncData} (F : Fun K "check_amount" "check_amount" sCheckA f fd)
    (N : Has P w K mg base 2 "is_amount" ["thing"] (spBool K amountD) fN fdN) : FnOk P w K mg base CX0 3 f fd ["amount"] (spCheckA K) := by
  refine F.ok scCheckA (fun vs H Q E h => ?_) (fun cdv A outer s H vs Q E hr h => ?_)
  · obtain ⟨a, rfl, _⟩ := h
    rfl
  · obtain ⟨n, rfl, n1, q⟩ := h
    refine ⟨_, pss_one (ps_if (pt_not (pt_val (pe_call N.ok hr (by rfl) N.g N.kp N.b .nil pass0 (pa_cons (pv 0) pa_nil)))) pss_never pss_nil), ?_⟩
    refine ⟨_, rfl, _, .int n, rfl, .int n, (fun z e => by cases e), fun H' sm => ⟨_, rfl, ?_⟩⟩
    have e : amountD (.int n) = true := decide_eq_true n1
    rw [e]
    exact iteF (q _ sm)
/-! ### with_changed -/
abbrev sChg : Stmt := topS 19
theorem scChg : FnScope ["row", "place", "thing"] ["row", "place", "thing"] (defScope sChg) := ⟨rfl, rfl, rfl, by decide +kernel, rfl, by decide +kernel, by decide +kernel⟩
def spChg (K : PySem.W.Frag) : Sp := fun vs H Q _ => ∃ v ds n t d, vs = [v, .int (n : Nat), t] ∧ Dt K H v (.tuple ds) ∧ Dt K H t d ∧ n < ds.length ∧ ds.length ≤ 100 ∧ ∀ v' H', Same H H' → Dt K H' v' (.tuple (ds.set n d)) → Q v' H'
theorem set_parts {α : Type} (ds : List α) (n : Nat) (d : α) (h : n < ds.length) : ds.take n ++ [d] ++ ds.drop (n + 1) = ds.set n d := by
  rw [List.set_eq_take_append_cons_drop, if_pos h, List.append_assoc]
  rfl
theorem ok_chg {f : Addr} {fd : FuncData} (F : Fun K "with_changed" "with_changed" sChg f fd) : FnOk P w K mg base CX0 1 f fd ["row", "place", "thing"] (spChg K) := by
  refine F.ok scChg (fun vs H Q E h => ?_) (fun cdv A outer s H vs Q E hr h => ?_)
  · obtain ⟨_, _, _, _, _, rfl, _⟩ := h
    rfl
  · obtain ⟨v, ds, n, t, d, rfl, hv, ht, hn, hz, q⟩ := h
    refine ⟨_, pss_one (ps_ret (pe_op op_catD (pe_op op_catD (pe_slice sl_tupD (pv 0) po_none (po_some (pv 1))) (pe_tup (pa_cons (pv 2) pa_nil))) (pe_slice sl_tupD (pv 0) (po_some (pe_op op_add (pv 1) pe_int)) po_none))), ?_⟩
    refine ⟨v, rfl, .int (n : Nat), rfl, (n : Nat), rfl, ds, hv, .inl ⟨n, rfl, rfl, fun v1 H1 s1 d1 => ?_⟩⟩
    refine ⟨t, rfl, by show 1 ≤ sizeLine; decide, fun p np => ⟨ds.take n, [d], Dt.same (same_upd np) _ d1, .tup (.inl (.inl upd_same)) (.cons (Dt.same (s1.trans (same_upd np)) _ ht) .nil), ?_, fun v2 H2 s2 d2 => ?_⟩⟩
    · rw [List.length_take, List.length_singleton]
      omega
    have s02 := s1.trans ((same_upd np).trans s2)
    refine ⟨v, rfl, .int (n : Nat), rfl, _, _, rfl, rfl, _, rfl, ds, Dt.same s02 _ hv, .inr ⟨n + 1, rfl, rfl, fun v3 H3 s3 d3 => ⟨_, _, Dt.same s3 _ d2, d3, ?_, fun v4 H4 s4 d4 => ?_⟩⟩⟩
    · rw [List.length_append, List.length_take, List.length_drop, List.length_singleton]
      omega
    · rw [set_parts ds n d hn] at d4
      exact q _ _ (s02.trans (s3.trans s4)) d4
end
end Rc

namespace Rc
open PySem PySem.Spec PyProof.Rows L2
/-- a list (k) or a tuple -/
def Sq (K : PySem.W.Frag) (k : Bool) (H : Hp) (a : Addr) (xs : List V) : Prop := if k = true then SqL K H a xs else SqT K H a xs
theorem same_seqT {K : PySem.W.Frag} {H H' : Hp} {a : Addr} {xs : List V} (e : Same H H') (h : SqT K H a xs) : SqT K H' a xs := by
  rcases h with (h | ⟨o, h⟩) | h
  · exact .inl (.inl (e _ _ h))
  · exact .inl (.inr ⟨o, e _ _ h⟩)
  · exact .inr h
theorem Sq.same {K : PySem.W.Frag} {k : Bool} {H H' : Hp} {a : Addr} {xs : List V} (h : Sq K k H a xs) (e : Same H H') : Sq K k H' a xs := by
  cases k with
  | true => exact e.seq h
  | false => exact same_seqT e h
/-- a list or a tuple that stands in slot i -/
def iSeqV (K : PySem.W.Frag) (i : Nat) : TI := fun σ H R => ∃ a xs k, σ[i]? = some (some (.ref a)) ∧ Sq K k H a xs ∧ ∀ J G, Walk J xs.length G (YAt xs) → (∀ H', Sq K k H' a xs → G H') → R J H
theorem pi_seqV {X : Cx} {tg : Expr} (i : Nat) {x : Str} {pos : Pos} (h : PE X (.Name x pos) (tVar i)) : PI X tg (.Name x pos) (iSeqV X.K i) := by
  refine ⟨fun pins s σ H R I q => ?_⟩
  obtain ⟨a, xs, k, e, hq, q⟩ := q
  cases k with
  | true => exact (pi_list h).run pins s σ H R I ⟨_, e, a, rfl, ⟨xs, hq⟩, q _ _ walk_list fun H' z => z⟩
  | false => exact (pi_tup h).run pins s σ H R I ⟨_, e, a, rfl, ⟨xs, hq⟩, q _ _ walk_tup fun H' z => z⟩
/-! ### notes that fall from above -/
def partOf (a f : Int) : Int := if f < a then f else a
def goneN : List (Str × Int) → Int → List (Str × Int)
  | [], _ => []
  | (t, a) :: r, f => (if 0 < partOf a f then [(t, partOf a f)] else []) ++ goneN r (f - partOf a f)
def leftN : List (Str × Int) → Int → List (Str × Int)
  | [], _ => []
  | (t, a) :: r, f => (if partOf a f < a then [(t, a - partOf a f)] else []) ++ leftN r (f - partOf a f)
theorem goneN_nil (f : Int) : goneN [] f = [] := rfl
theorem leftN_nil (f : Int) : leftN [] f = [] := rfl
theorem goneN_cons (t : Str) (a f : Int) (r : List (Str × Int)) : goneN ((t, a) :: r) f = (if 0 < partOf a f then [(t, partOf a f)] else []) ++ goneN r (f - partOf a f) := rfl
theorem leftN_cons (t : Str) (a f : Int) (r : List (Str × Int)) : leftN ((t, a) :: r) f = (if partOf a f < a then [(t, a - partOf a f)] else []) ++ leftN r (f - partOf a f) := rfl
theorem goneN_len : ∀ (l : List (Str × Int)) (f : Int), (goneN l f).length ≤ l.length
  | [], _ => Nat.le_refl _
  | (t, a) :: r, f => by
    have := goneN_len r (f - partOf a f)
    unfold goneN
    rw [List.length_append, List.length_cons]
    split <;> simp <;> omega
theorem leftN_len : ∀ (l : List (Str × Int)) (f : Int), (leftN l f).length ≤ l.length
  | [], _ => Nat.le_refl _
  | (t, a) :: r, f => by
    have := leftN_len r (f - partOf a f)
    unfold leftN
    rw [List.length_append, List.length_cons]
    split <;> simp <;> omega
theorem DtAll.notes_get {K : PySem.W.Frag} {H : Hp} {xs : List V} {l : List (Str × Int)} {i : Nat} {x : V} (h : DtAll K H xs (notesD l)) (e : xs[i]? = some x) : ∃ (hi : i < l.length), Dt K H x (noteD l[i]) := by
  have hl := h.len
  have hi : i < xs.length := (List.getElem?_eq_some_iff.mp e).1
  have hi' : i < l.length := by
    unfold notesD at hl
    rw [List.length_map] at hl
    omega
  refine ⟨hi', ?_⟩
  have g : (notesD l)[i]? = some (noteD l[i]) := by
    unfold notesD
    rw [List.getElem?_map, List.getElem?_eq_getElem hi']
    rfl
  obtain ⟨v, e1, e2⟩ := h.get g
  rw [e] at e1
  cases e1
  exact e2
theorem note_inv {K : PySem.W.Frag} {H : Hp} {v : V} {n : Str × Int} (h : Dt K H v (noteD n)) : ∃ a, v = .ref a ∧ SqT K H a [.str n.1, .int n.2] := by
  obtain ⟨a, xs, rfl, q, d⟩ := h.tup_inv
  cases d with
  | cons d1 d2 =>
    cases d1
    cases d2 with
    | cons d3 d4 =>
      cases d3
      cases d4
      exact ⟨a, rfl, q⟩
section
variable {P : Program} {w : World} {K : PySem.W.Frag} {mg : Str → Option Value} {base : Heap}
abbrev sSplit : Stmt := topS 18
abbrev nSplit : List Str := ["notes", "fallen", "gone", "left", "to", "amount", "part"]
theorem scSplit : FnScope nSplit ["notes", "fallen"] (defScope sSplit) := ⟨rfl, rfl, rfl, by decide +kernel, rfl, by decide +kernel, by decide +kernel⟩
def spSplit (K : PySem.W.Frag) : Sp := fun vs H Q _ => ∃ a xs kd l f, vs = [.ref a, .int f] ∧ Sq K kd H a xs ∧ DtAll K H xs (notesD l) ∧ l.length ≤ 100 ∧
  ∀ t g m gx mx H', Same H H' → H' t = some (.tup [.ref g, .ref m]) → H g = none → H m = none → g ≠ m → H' g = some (.lst gx) → H' m = some (.lst mx) → DtAll K H' gx (notesD (goneN l f)) → DtAll K H' mx (notesD (leftN l f)) → Q (.ref t) H'
theorem ok_split {f : Addr} {fd : FuncData} (F : Fun K "split_notes" "split_notes" sSplit f fd) (B2 : Blt2 mg) : FnOk P w K mg base CX0 1 f fd ["notes", "fallen"] (spSplit K) := by
  refine F.ok scSplit (fun vs H Q E h => ?_) (fun cdv A outer s H vs Q E hr h => ?_)
  · obtain ⟨_, _, _, _, _, rfl, _⟩ := h
    rfl
  · obtain ⟨a, xs, kd, l, f, rfl, hq, hd, hz, q⟩ := h
    refine ⟨_, pss_cons (ps_set (i := 2) scSplit.nd rfl (.inl rfl) (pe_lst pa_nil)) (pss_cons (ps_set (i := 3) scSplit.nd rfl (.inl rfl) (pe_lst pa_nil))
      (pss_cons (ps_for PassesOwn.never rfl (pi_seqV 0 (pv 0)) (pg_tup rfl (pgs_cons (pg_name (i := 4) scSplit.nd rfl (.inl rfl)) (pgs_cons (pg_name (i := 5) scSplit.nd rfl (.inl rfl)) pgs_nil)))
        (pss_cons (ps_set (i := 6) scSplit.nd rfl (.inl rfl) (pe_callB (call_min2 rfl) (by rfl) B2.min (by decide +kernel) (pa_cons (pv 5) (pa_cons (pv 1) pa_nil))))
        (pss_cons (ps_aug (i := 1) scSplit.nd rfl (.inl rfl) (pv 6) ip_sub)
        (C8.pss_cut (ps_if (pt_cmpR op_gt (pv 6) pe_int (nomark _)) (pss_one (ps_expr (pe_bm PySem.F.plainAttrs_list PySem.F.slot_list_append PySem.F.type_list_append mt_append (pv 2) (pa_cons (pe_tup (pa_cons (pv 4) (pa_cons (pv 6) pa_nil))) pa_nil)))) pss_nil)
        (pss_one (ps_if (pt_cmpR op_lt (pv 6) (pv 5) (nomark _)) (pss_one (ps_expr (pe_bm PySem.F.plainAttrs_list PySem.F.slot_list_append PySem.F.type_list_append mt_append (pv 3) (pa_cons (pe_tup (pa_cons (pv 4) (pa_cons (pe_op op_sub (pv 5) (pv 6)) pa_nil))) pa_nil)))) pss_nil))))))
      (pss_one (ps_ret (pe_tup (pa_cons (pv 2) (pa_cons (pv 3) pa_nil))))))), ?_⟩
    refine ⟨Nat.zero_le _, fun g ng => ⟨Nat.zero_le _, fun m nm => ?_⟩⟩
    have gm : g ≠ m := fun z => by
      rw [← z, upd_same] at nm
      cases nm
    have nmH : H m = none := by
      rw [upd_ne gm.symm] at nm
      exact nm
    have s0 : Same H (upd (upd H g (.lst [])) m (.lst [])) := (same_upd ng).trans (same_upd nm)
    refine ⟨a, xs, kd, rfl, hq.same s0, fun J G wk hG => ?_⟩
    have fresh : ∀ b o, H b = some o → b ≠ g ∧ b ≠ m := fun b o e => ⟨ne_of_none e ng, ne_of_none e nmH⟩
    refine for_it wk (fun i σ H' => ∃ y4 y5 y6 fi gx mx Gs Ms, σ = [some (.ref a), some (.int fi), some (.ref g), some (.ref m), y4, y5, y6] ∧ Same H H' ∧ H' g = some (.lst gx) ∧ H' m = some (.lst mx) ∧
        DtAll K H' gx (notesD Gs) ∧ DtAll K H' mx (notesD Ms) ∧ Gs.length ≤ i ∧ Ms.length ≤ i ∧ Gs ++ goneN (l.drop i) fi = goneN l f ∧ Ms ++ leftN (l.drop i) fi = leftN l f)
      ⟨_, _, _, f, [], [], [], [], rfl, s0, by rw [upd_ne gm, upd_same], upd_same, .nil, .nil, Nat.le_refl _, Nat.le_refl _, rfl, rfl⟩ (fun i σ H' _ hP => ?_) (fun i x σ H1' H1 hi hP hY => ?_) (fun σ H' hP => ?_)
    · obtain ⟨_, _, _, _, _, _, _, _, _, s1, _⟩ := hP
      exact hG _ (hq.same s1)
    · obtain ⟨rfl, ex⟩ := hY
      obtain ⟨y4, y5, y6, fi, gx, mx, Gs, Ms, rfl, s1, hg, hm, dg, dm, lg, lm, eg, em⟩ := hP
      obtain ⟨hil, dn⟩ := (DtAll.same s1 _ hd).notes_get ex
      obtain ⟨ta, rfl, qt⟩ := note_inv dn
      have ed : l.drop i = l[i] :: l.drop (i + 1) := List.drop_eq_getElem_cons hil
      rw [ed] at eg em
      obtain ⟨t, am, el⟩ : ∃ t am, l[i] = (t, am) := ⟨_, _, rfl⟩
      rw [el] at eg em qt
      rw [goneN_cons] at eg
      rw [leftN_cons] at em
      have dgl := dg.len
      have dml := dm.len
      unfold notesD at dgl dml
      rw [List.length_map] at dgl dml
      refine ⟨ta, _, rfl, qt, rfl, _, _, rfl, _, _, rfl, rfl, ?_⟩
      refine ⟨.int am, rfl, .int fi, rfl, _, _, rfl, ?_⟩
      have ep : (if fi < am then fi else am) = partOf am fi := rfl
      rw [ep]
      generalize partOf am fi = pt at eg em
      refine ⟨_, rfl, _, rfl, _, _, rfl, rfl, ?_⟩
      refine ⟨fun σ2 H2 => ∃ gx2 Gs2, σ2 = [some (V.ref a), some (V.int (fi - pt)), some (V.ref g), some (V.ref m), some (V.str t), some (V.int am), some (V.int pt)] ∧ Same H H2 ∧ H2 g = some (.lst gx2) ∧ H2 m = some (.lst mx) ∧ DtAll K H2 gx2 (notesD Gs2) ∧ DtAll K H2 mx (notesD Ms) ∧
        Gs2.length ≤ i + 1 ∧ Gs2 ++ goneN (l.drop (i + 1)) (fi - pt) = goneN l f, ?_, ?_⟩
      · refine ⟨.int pt, rfl, _, _, rfl, rfl, _, rfl, ite2 (fun e => ?_) (fun e => ?_)⟩
        · have e' := of_decide_eq_true e
          rw [if_pos e'] at eg
          refine ⟨.ref g, rfl, .inl ⟨rfl, _, .inl (.inl hg)⟩, .str t, rfl, .int pt, rfl, by show 2 ≤ sizeLine; decide, fun p np => ⟨g, gx, _, rfl, rfl, ?_, small1000 (by omega), ?_⟩⟩
          · rw [upd_ne (ne_of_none hg np)]
            exact hg
          have pm : p ≠ m := (ne_of_none hm np).symm
          have pg : p ≠ g := (ne_of_none hg np).symm
          have kp : Kp H1 (upd (upd H1 p (.tup [.str t, .int pt])) g (.lst (gx ++ [.ref p]))) := fun b o e fx => by
            have nb : b ≠ g := fun z => by
              rw [z, hg] at e
              cases e
              exact fx
            rw [upd_ne nb, upd_ne (ne_of_none e np)]
            exact e
          refine ⟨gx ++ [.ref p], Gs ++ [(t, pt)], rfl, fun b o e => ?_, upd_same, ?_, ?_, DtAll.keep kp _ (tup_notes _) dm, ?_, ?_⟩
          · rw [upd_ne (fresh b o e).1, upd_ne (ne_of_none (s1 b o e) np)]
            exact s1 b o e
          · rw [upd_ne gm.symm, upd_ne pm.symm]
            exact hm
          · unfold notesD
            rw [List.map_append]
            refine (DtAll.keep kp _ (tup_notes _) dg).append (.cons (.tup (.inl (.inl ?_)) (.cons (.str _) (.cons (.int _) .nil))) .nil)
            rw [upd_ne pg, upd_same]
          · rw [List.length_append]
            exact Nat.add_le_add_right lg 1
          · rw [List.append_assoc]
            exact eg
        · have e' : ¬ 0 < pt := fun c => e (decide_eq_true c)
          rw [if_neg e'] at eg
          exact ⟨gx, Gs, rfl, s1, hg, hm, dg, dm, Nat.le_succ_of_le lg, eg⟩
      · rintro σ2 H2 ⟨gx2, Gs2, rfl, s2, hg2, hm2, dg2, dm2, lg2, eg2⟩
        refine ⟨.int pt, rfl, .int am, rfl, _, _, rfl, rfl, _, rfl, ite2 (fun e => ?_) (fun e => ?_)⟩
        · have e' := of_decide_eq_true e
          rw [if_pos e'] at em
          refine ⟨.ref m, rfl, .inl ⟨rfl, _, .inl (.inl hm2)⟩, .str t, rfl, .int am, rfl, .int pt, rfl, _, _, rfl, rfl, by show 2 ≤ sizeLine; decide, fun p np => ⟨m, mx, _, rfl, rfl, ?_, small1000 (by omega), ?_⟩⟩
          · rw [upd_ne (ne_of_none hm2 np)]
            exact hm2
          have pm : p ≠ m := (ne_of_none hm2 np).symm
          have pg : p ≠ g := (ne_of_none hg2 np).symm
          have kp : Kp H2 (upd (upd H2 p (.tup [.str t, .int (am - pt)])) m (.lst (mx ++ [.ref p]))) := fun b o e fx => by
            have nb : b ≠ m := fun z => by
              rw [z, hm2] at e
              cases e
              exact fx
            rw [upd_ne nb, upd_ne (ne_of_none e np)]
            exact e
          refine ⟨_, _, _, fi - pt, gx2, mx ++ [.ref p], Gs2, Ms ++ [(t, am - pt)], rfl, fun b o e => ?_, ?_, upd_same, DtAll.keep kp _ (tup_notes _) dg2, ?_, lg2, ?_, eg2, ?_⟩
          · rw [upd_ne (fresh b o e).2, upd_ne (ne_of_none (s2 b o e) np)]
            exact s2 b o e
          · rw [upd_ne gm, upd_ne pg.symm]
            exact hg2
          · unfold notesD
            rw [List.map_append]
            refine (DtAll.keep kp _ (tup_notes _) dm2).append (.cons (.tup (.inl (.inl ?_)) (.cons (.str _) (.cons (.int _) .nil))) .nil)
            rw [upd_ne pm, upd_same]
          · rw [List.length_append]
            exact Nat.add_le_add_right lm 1
          · rw [List.append_assoc]
            exact em
        · have e' : ¬ pt < am := fun c => e (decide_eq_true c)
          rw [if_neg e'] at em
          exact ⟨_, _, _, fi - pt, gx2, mx, Gs2, Ms, rfl, s2, hg2, hm2, dg2, dm2, lg2, Nat.le_succ_of_le lm, eg2, em⟩
    · obtain ⟨y4, y5, y6, fi, gx, mx, Gs, Ms, rfl, s1, hg, hm, dg, dm, lg, lm, eg, em⟩ := hP
      have hx : l.drop xs.length = [] := List.drop_of_length_le (by
        have := hd.len
        unfold notesD at this
        rw [List.length_map] at this
        omega)
      rw [hx] at eg em
      rw [goneN_nil, List.append_nil] at eg
      rw [leftN_nil, List.append_nil] at em
      subst eg em
      refine ⟨.ref g, rfl, .ref m, rfl, by show 2 ≤ sizeLine; decide, fun t nt => ?_⟩
      have st := same_upd (o := .tup [.ref g, .ref m]) nt
      exact q t g m gx mx _ (s1.trans st) upd_same ng nmH gm (st _ _ hg) (st _ _ hm) (DtAll.same st _ dg) (DtAll.same st _ dm)
end
end Rc

namespace Rc
open PySem PySem.Spec PyProof.Rows L2
abbrev inBook (i : Nat) : Stmt := inClass (topS 20) i
theorem Bk.Ok.names {M : Bk} (h : M.Ok) : NamesOk M.names := ⟨h.n0, h.n1, h.nd, h.nm⟩
def newBk (zs : List Str) : Bk := ⟨zs, List.replicate zs.length 0, List.replicate zs.length [], List.replicate zs.length 0⟩
theorem putF_miss {f g : Str} {v x : V} {r : List (Str × V)} (h : ¬ g = f) : putF f v ((g, x) :: r) = (g, x) :: putF f v r := by
  show (if g = f then (g, v) :: r else (g, x) :: putF f v r) = _
  rw [if_neg h]
theorem putF_hit {f : Str} {v x : V} {r : List (Str × V)} : putF f v ((f, x) :: r) = (f, v) :: r := by
  show (if f = f then (f, v) :: r else (f, x) :: putF f v r) = _
  rw [if_pos rfl]
theorem put1 (a : V) : putF "names" a [] = ([("names", a)] : List (Str × V)) := rfl
theorem put2 (a b : V) : putF "gifts" b [("names", a)] = ([("names", a), ("gifts", b)] : List (Str × V)) := by
  rw [putF_miss (by decide +kernel)]
  rfl
theorem put3 (a b c : V) : putF "stacks" c [("names", a), ("gifts", b)] = ([("names", a), ("gifts", b), ("stacks", c)] : List (Str × V)) := by
  rw [putF_miss (by decide +kernel), putF_miss (by decide +kernel)]
  rfl
theorem put4 (a b c d : V) : putF "drops" d [("names", a), ("gifts", b), ("stacks", c)] = bf a b c d := by
  rw [putF_miss (by decide +kernel), putF_miss (by decide +kernel), putF_miss (by decide +kernel)]
  rfl
theorem putG (a b c d e : V) : putF "gifts" e (bf a b c d) = bf a e c d := by
  unfold bf
  rw [putF_miss (by decide +kernel), putF_hit]
theorem putS (a b c d e : V) : putF "stacks" e (bf a b c d) = bf a b e d := by
  unfold bf
  rw [putF_miss (by decide +kernel), putF_miss (by decide +kernel), putF_hit]
theorem putD (a b c d e : V) : putF "drops" e (bf a b c d) = bf a b c e := by
  unfold bf
  rw [putF_miss (by decide +kernel), putF_miss (by decide +kernel), putF_miss (by decide +kernel), putF_hit]
theorem bf_len (a b c d : V) : (bf a b c d).length < 1000 := by
  show 4 < 1000
  decide
section
variable {P : Program} {w : World} {K : PySem.W.Frag} {mg : Str → Option Value} {base : Heap}
/-! ### __init__ -/
abbrev sInit : Stmt := inBook 0
theorem scInit : FnScope ["self", "persons"] ["self", "persons"] (defScope sInit) := ⟨rfl, rfl, rfl, by decide +kernel, rfl, by decide +kernel, by decide +kernel⟩
def spInit (K : PySem.W.Frag) (C : Addr) : Sp := fun vs H Q _ => ∃ x dx a zs, vs = [.ref x, .ref a] ∧ H x = some (.ins C dx []) ∧ H a = some (.lst (zs.map V.str)) ∧ NamesOk zs ∧ ∀ H', But x H H' → BookAt K C H' x (newBk zs) → Q .non H'
theorem ok_init {f fc C : Addr} {fd fdc : FuncData} (F : Fun K "__init__" "Book.__init__" sInit f fd) (T : ClsF K C) (B : Blt mg) (B3 : Blt3 mg)
    (CP : Has P w K mg base 2 "check_persons" ["persons"] (spCheckP K) fc fdc) : FnOk P w K mg base CX0 3 f fd ["self", "persons"] (spInit K C) := by
  refine F.ok scInit (fun vs H Q E h => ?_) (fun cdv A outer s H vs Q E hr h => ?_)
  · obtain ⟨_, _, _, _, rfl, _⟩ := h
    rfl
  · obtain ⟨x, dx, a, zs, rfl, hx, ha, ok, q⟩ := h
    refine ⟨_, pss_cons (ps_expr (pe_call CP.ok hr (by rfl) CP.g CP.kp CP.b .nil pass0 (pa_cons (pv 1) pa_nil)))
      (pss_cons (ps_fld (pv 0) (pe_callTy call_tupF (by rfl) B3.tuple (by decide +kernel) (pa_cons (pv 1) pa_nil)) rfl)
      (pss_cons (ps_fld (pv 0) (pe_op op_repD (pe_tup (pa_cons pe_int pa_nil)) (pe_callB call_len_seq (by rfl) B.len PySem.boot_len (pa_cons (pv 1) pa_nil))) rfl)
      (pss_cons (ps_fld (pv 0) (pe_op op_repD (pe_tup (pa_cons (pe_tup pa_nil) pa_nil)) (pe_callB call_len_seq (by rfl) B.len PySem.boot_len (pa_cons (pv 1) pa_nil))) rfl)
      (pss_one (ps_fld (pv 0) (pe_op op_repD (pe_tup (pa_cons pe_int pa_nil)) (pe_callB call_len_seq (by rfl) B.len PySem.boot_len (pa_cons (pv 1) pa_nil))) rfl))))), ?_⟩
    have l0 := ok.n0
    have l1 := ok.n1
    have el : (zs.map V.str).length = zs.length := List.length_map ..
    have nxa : a ≠ x := ne_of ha hx (by intro z; cases z)
    refine ⟨.ref a, rfl, a, zs, rfl, ha, ok, fun H1 s1 => ?_⟩
    -- self.names = tuple(persons)
    refine ⟨.ref a, rfl, a, _, rfl, .inl (.inl (s1 _ _ ha)), fun tn on ntn don => ?_⟩
    have s2 : Same H1 (upd H1 tn (.frz on (.tup (zs.map V.str)))) := same_upd ntn
    have ntx : x ≠ tn := ne_of_none (s1 _ _ hx) ntn
    refine ⟨.ref x, rfl, x, C, dx, _, rfl, s2 _ _ (s1 _ _ hx), T.cl, T.n1, by show 0 < 1000; decide, ?_⟩
    rw [put1]
    generalize hH3 : upd (upd H1 tn (.frz on (.tup (zs.map V.str)))) x (.ins C dx [("names", V.ref tn)]) = H3
    have b3 : But x H H3 := by
      rw [← hH3]
      exact (same_but (s1.trans s2)).trans But.at
    have x3 : H3 x = some (.ins C dx [("names", V.ref tn)]) := by
      rw [← hH3, upd_same]
    have t3 : H3 tn = some (.frz on (.tup (zs.map V.str))) := by
      rw [← hH3, upd_ne ntx.symm, upd_same]
    -- self.gifts
    refine ⟨by show 1 ≤ sizeLine; decide, fun t1 nt1 => ?_⟩
    have s4 := same_upd (o := .tup [V.int 0]) nt1
    refine ⟨.ref a, rfl, a, _, rfl, .inl (.inl (.inl (s4 _ _ (b3 _ _ nxa ha)))), .int 0, zs.length, .tup (.inl (.inl upd_same)) (.cons (.int 0) .nil), by rw [el], l0, by omega, fun vg H5 s5 dg => ?_⟩
    have s35 := s4.trans s5
    refine ⟨.ref x, rfl, x, C, dx, _, rfl, s35 _ _ x3, T.cl, T.n2, by show 1 < 1000; decide, ?_⟩
    rw [put2]
    have k6 : KT H5 (upd H5 x (.ins C dx [("names", V.ref tn), ("gifts", vg)])) := kt_upd (s35 _ _ x3) (fun z => z)
    have b6 : But x H (upd H5 x (.ins C dx [("names", V.ref tn), ("gifts", vg)])) := b3.trans ((same_but s35).trans But.at)
    have k36 : KT H3 (upd H5 x (.ins C dx [("names", V.ref tn), ("gifts", vg)])) := (kt_same s35).trans k6
    generalize hH6 : upd H5 x (.ins C dx [("names", V.ref tn), ("gifts", vg)]) = H6 at k6 b6 k36
    have x6 : H6 x = some (.ins C dx [("names", V.ref tn), ("gifts", vg)]) := by
      rw [← hH6, upd_same]
    have dg6 := Dt.keepT k6 _ (by rw [← List.map_replicate]; exact tup_ints _) dg
    -- self.stacks
    refine ⟨by show 0 ≤ sizeLine; decide, fun t0 nt0 => ⟨by show 1 ≤ sizeLine; decide, fun t2 nt2 => ?_⟩⟩
    have s7 := (same_upd (o := .tup []) nt0).trans (same_upd (o := .tup [V.ref t0]) nt2)
    refine ⟨.ref a, rfl, a, _, rfl, .inl (.inl (.inl (s7 _ _ (b6 _ _ nxa ha)))), .tuple [], zs.length, .tup (.inl (.inl upd_same)) (.cons (.tup (.inl (.inl (same_upd nt2 _ _ upd_same))) .nil) .nil), by rw [el], l0, by omega, fun vs H8 s8 ds => ?_⟩
    have s68 := s7.trans s8
    refine ⟨.ref x, rfl, x, C, dx, _, rfl, s68 _ _ x6, T.cl, T.n3, by show 2 < 1000; decide, ?_⟩
    rw [put3]
    have k9 : KT H8 (upd H8 x (.ins C dx [("names", V.ref tn), ("gifts", vg), ("stacks", vs)])) := kt_upd (s68 _ _ x6) (fun z => z)
    have b9 : But x H (upd H8 x (.ins C dx [("names", V.ref tn), ("gifts", vg), ("stacks", vs)])) := b6.trans ((same_but s68).trans But.at)
    have k69 : KT H6 (upd H8 x (.ins C dx [("names", V.ref tn), ("gifts", vg), ("stacks", vs)])) := (kt_same s68).trans k9
    generalize hH9 : upd H8 x (.ins C dx [("names", V.ref tn), ("gifts", vg), ("stacks", vs)]) = H9 at k9 b9 k69
    have x9 : H9 x = some (.ins C dx [("names", V.ref tn), ("gifts", vg), ("stacks", vs)]) := by
      rw [← hH9, upd_same]
    have ts : tupD (.tuple (List.replicate zs.length (.tuple []))) = true := by
      have := tup_stacks (List.replicate zs.length [])
      rw [List.map_replicate] at this
      exact this
    have ds9 := Dt.keepT k9 _ ts ds
    -- self.drops
    refine ⟨by show 1 ≤ sizeLine; decide, fun t3' nt3 => ?_⟩
    have s10 := same_upd (o := .tup [V.int 0]) nt3
    refine ⟨.ref a, rfl, a, _, rfl, .inl (.inl (.inl (s10 _ _ (b9 _ _ nxa ha)))), .int 0, zs.length, .tup (.inl (.inl upd_same)) (.cons (.int 0) .nil), by rw [el], l0, by omega, fun vd H11 s11 dd => ?_⟩
    have s911 := s10.trans s11
    refine ⟨.ref x, rfl, x, C, dx, _, rfl, s911 _ _ x9, T.cl, T.n4, by show 3 < 1000; decide, ?_⟩
    rw [put4]
    have k12 : KT H11 (upd H11 x (.ins C dx (bf (.ref tn) vg vs vd))) := kt_upd (s911 _ _ x9) (fun z => z)
    have k912 : KT H9 (upd H11 x (.ins C dx (bf (.ref tn) vg vs vd))) := (kt_same s911).trans k12
    refine q _ (b9.trans ((same_but s911).trans But.at)) ⟨dx, tn, on, vg, vs, vd, upd_same, (k36.trans (k69.trans k912)) _ _ t3 trivial, don, ?_, ?_, ?_⟩
    · show Dt K _ vg (.tuple ((List.replicate zs.length (0 : Int)).map .int))
      rw [List.map_replicate]
      exact Dt.keepT (k69.trans k912) _ (by rw [← List.map_replicate]; exact tup_ints _) dg6
    · show Dt K _ vs (.tuple ((List.replicate zs.length []).map stackD))
      rw [List.map_replicate]
      exact Dt.keepT k912 _ ts ds9
    · show Dt K _ vd (.tuple ((List.replicate zs.length (0 : Int)).map .int))
      rw [List.map_replicate]
      exact Dt.keepT k12 _ (by rw [← List.map_replicate]; exact tup_ints _) dd
end
end Rc

namespace Rc
open PySem PySem.Spec PyProof.Rows L2
theorem book_same {K : PySem.W.Frag} {C : Addr} {H H' : Hp} {b : Addr} {M : Bk} (h : BookAt K C H b M) (s : Same H H') : BookAt K C H' b M := h.keep fun b o e _ => s b o e
theorem NoF.mk' {m : Str} (h : ((m == "names") || (m == "gifts") || (m == "stacks") || (m == "drops")) = false) : NoF m := by
  simp only [Bool.or_eq_false_iff] at h
  exact ⟨h.1.1.1, h.1.1.2, h.1.2, h.2⟩
section
variable {P : Program} {w : World} {K : PySem.W.Frag} {mg : Str → Option Value} {base : Heap}
/-! ### with_these -/
abbrev sWith : Stmt := inBook 1
theorem scWith : FnScope ["self", "gifts", "stacks", "drops", "other"] ["self", "gifts", "stacks", "drops"] (defScope sWith) := ⟨rfl, rfl, rfl, by decide +kernel, rfl, by decide +kernel, by decide +kernel⟩
def spWith (K : PySem.W.Frag) (C : Addr) : Sp := fun vs H Q _ => ∃ b M vg vs' vd gs ss ds, vs = [.ref b, vg, vs', vd] ∧ BookAt K C H b M ∧ NamesOk M.names ∧ Dt K H vg (.tuple (List.map PyData.int gs)) ∧ Dt K H vs' (.tuple (List.map stackD ss)) ∧ Dt K H vd (.tuple (List.map PyData.int ds)) ∧
  ∀ b' H', Same H H' → H b' = none → BookAt K C H' b' ⟨M.names, gs, ss, ds⟩ → Q (.ref b') H'
theorem ok_with {f fi C : Addr} {fd fdi : FuncData} (F : Fun K "with_these" "Book.with_these" sWith f fd) (T : ClsF K C) (B3 : Blt3 mg) (M : Mk K C fi) (gC : mg "Book" = some (.ref C))
    (GI : FnOk P w K mg base CX0 3 fi fdi ["self", "persons"] (spInit K C)) (bI : Binds K fdi ["self", "persons"] []) : FnOk P w K mg base CX0 5 f fd ["self", "gifts", "stacks", "drops"] (spWith K C) := by
  refine F.ok scWith (fun vs H Q E h => ?_) (fun cdv A outer s H vs Q E hr h => ?_)
  · obtain ⟨_, _, _, _, _, _, _, _, rfl, _⟩ := h
    rfl
  · obtain ⟨b, Mb, vg, vs', vd, gs, ss, ds, rfl, hb, ok, hg, hs, hd, q⟩ := h
    refine ⟨_, pss_cons (ps_set (i := 4) scWith.nd rfl (.inl rfl) (pe_make M GI hr (by rfl) gC bI .nil pass0 (pa_cons (pe_callTy call_list_of (by rfl) B3.list (by decide +kernel) (pa_cons (pe_fld (pv 0) rfl) pa_nil)) pa_nil)))
      (pss_cons (ps_fld (pv 4) (pv 1) rfl) (pss_cons (ps_fld (pv 4) (pv 2) rfl) (pss_cons (ps_fld (pv 4) (pv 3) rfl) (pss_one (ps_ret (pv 4)))))), ?_⟩
    obtain ⟨dx, tn, on, wg, ws, wd, e, h1, hn, h2, h3, h4⟩ := hb.ex
    refine ⟨.ref b, rfl, b, C, dx, _, _, rfl, e, T.cl, T.n1, bf_names, tn, _, rfl, .inr (.inl (.inr ⟨on, h1⟩)), fun l nl => ?_⟩
    intro x dy nx ndy nxy
    have s1 := same_upd (o := .lst (Mb.names.map V.str)) nl
    generalize hH1 : upd H l (.lst (Mb.names.map V.str)) = H1 at s1 nx ndy
    have hl : H1 l = some (.lst (Mb.names.map V.str)) := by
      rw [← hH1, upd_same]
    have nlx : l ≠ x := ne_of_none hl nx
    have nld : l ≠ dy := ne_of_none hl ndy
    have s2 : Same H1 (upd (upd H1 dy (.own x)) x (.ins C dy [])) := fun c o e => by
      rw [upd_ne (ne_of_none e nx), upd_ne (ne_of_none e ndy)]
      exact e
    refine ⟨x, dy, l, Mb.names, rfl, upd_same, s2 _ _ hl, ok, fun H2 b2 bk => ⟨rfl, ?_⟩⟩
    have nxH : H x = none := s1.free nx
    have s02 : Same H H2 := fun c o e => b2 c o (ne_of_none e nxH) (s2 c o (s1 c o e))
    obtain ⟨dx2, tn2, on2, ug, us, ud, e2, k1, kn, k2, k3, k4⟩ := bk.ex
    -- other.gifts = gifts; other.stacks = stacks; other.drops = drops
    refine ⟨vg, rfl, .ref x, rfl, x, C, dx2, _, rfl, e2, T.cl, T.n2, bf_len _ _ _ _, ?_⟩
    rw [putG]
    refine ⟨vs', rfl, .ref x, rfl, x, C, dx2, _, rfl, upd_same, T.cl, T.n3, bf_len _ _ _ _, ?_⟩
    rw [putS]
    refine ⟨vd, rfl, .ref x, rfl, x, C, dx2, _, rfl, upd_same, T.cl, T.n4, bf_len _ _ _ _, ?_⟩
    rw [putD, upd_upd, upd_upd]
    have kt : KT H2 (upd H2 x (.ins C dx2 (bf (.ref tn2) vg vs' vd))) := kt_upd e2 fun z => z
    have s03 : Same H (upd H2 x (.ins C dx2 (bf (.ref tn2) vg vs' vd))) := fun c o e => by
      rw [upd_ne (ne_of_none e nxH)]
      exact s02 c o e
    exact ⟨.ref x, rfl, q x _ s03 nxH ⟨dx2, tn2, on2, vg, vs', vd, upd_same, kt _ _ k1 trivial, kn, Dt.same s03 _ hg, Dt.same s03 _ hs, Dt.same s03 _ hd⟩⟩
/-! ### has, place_of, persons -/
abbrev sHas : Stmt := inBook 4
theorem scHas : FnScope ["self", "who"] ["self", "who"] (defScope sHas) := ⟨rfl, rfl, rfl, by decide +kernel, rfl, by decide +kernel, by decide +kernel⟩
def hasD (M : Bk) : PyData → Bool
  | .str z => decide (z ∈ M.names)
  | _ => false
def spHas (K : PySem.W.Frag) (C : Addr) : Sp := fun vs H Q _ => ∃ b M v d, vs = [.ref b, v] ∧ BookAt K C H b M ∧ NamesOk M.names ∧ Dt K H v d ∧ ShortD d ∧ ∀ H', Same H H' → Q (.bl (hasD M d)) H'
theorem ok_has {f fN C : Addr} {fd fdN : FuncData} (F : Fun K "has" "Book.has" sHas f fd) (T : ClsF K C) (N : Has P w K mg base 1 "is_name" ["thing"] (spBool K nameD) fN fdN) :
    FnOk P w K mg base CX0 2 f fd ["self", "who"] (spHas K C) := by
  refine F.ok scHas (fun vs H Q E h => ?_) (fun cdv A outer s H vs Q E hr h => ?_)
  · obtain ⟨_, _, _, _, rfl, _⟩ := h
    rfl
  · obtain ⟨b, M, v, d, rfl, hb, ok, hd, sd, q⟩ := h
    refine ⟨_, pss_one (ps_ret (pe_and (pe_call N.ok hr (by rfl) N.g N.kp N.b .nil pass0 (pa_cons (pv 1) pa_nil)) (pe_one (pe_cmpR op_in_seq (pv 1) (pe_fld (pv 0) rfl) (by rfl))))), ?_⟩
    refine ⟨v, rfl, v, d, rfl, hd, sd, fun H1 s1 => ⟨_, rfl, ?_⟩⟩
    obtain ⟨dx, tn, on, wg, ws, wd, e, h1, hn, h2, h3, h4⟩ := (book_same hb s1).ex
    have q1 := q H1 s1
    cases hd with
    | str z =>
      by_cases hm : z ∈ M.names
      · have en : nameD (.str z) = true := ok.nm z hm
        rw [en]
        refine iteT ⟨.str z, rfl, .ref b, rfl, b, C, dx, _, _, rfl, e, T.cl, T.n1, bf_names, tn, _, rfl, .inr (.inl (.inr ⟨on, h1⟩)), rfl, flat_strs _, ?_⟩
        show Q (.bl (inV (.str z) (M.names.map V.str))) H1
        rw [inV_strs]
        exact q1
      · have eh : hasD M (.str z) = false := decide_eq_false hm
        rw [eh] at q1
        cases en : nameD (.str z) with
        | false => exact iteF q1
        | true =>
          refine iteT ⟨.str z, rfl, .ref b, rfl, b, C, dx, _, _, rfl, e, T.cl, T.n1, bf_names, tn, _, rfl, .inr (.inl (.inr ⟨on, h1⟩)), rfl, flat_strs _, ?_⟩
          show Q (.bl (inV (.str z) (M.names.map V.str))) H1
          rw [inV_strs, decide_eq_false hm]
          exact q1
    | _ => exact iteF q1
abbrev sPlace : Stmt := inBook 2
theorem scPlace : FnScope ["self", "who"] ["self", "who"] (defScope sPlace) := ⟨rfl, rfl, rfl, by decide +kernel, rfl, by decide +kernel, by decide +kernel⟩
/-- the j-th person is called z -/
def spPlace (K : PySem.W.Frag) (C : Addr) : Sp := fun vs H Q _ => ∃ (b : Addr) (M : Bk) (z : Str) (j : Nat), vs = [.ref b, .str z] ∧ BookAt K C H b M ∧ NamesOk M.names ∧ M.names[j]? = some z ∧ ∀ H', Same H H' → Q (.int (j : Nat)) H'
theorem name_at {zs : List Str} (ok : NamesOk zs) {j : Nat} {z : Str} (e : zs[j]? = some z) : z ∈ zs ∧ (∀ m, m < j → zs[m]? ≠ some z) ∧ z.length ≤ 1000 := by
  have hm := List.mem_of_getElem? e
  refine ⟨hm, fun m hm' e' => ?_, by have := (nameT_len (ok.nm z hm)).2; omega⟩
  obtain ⟨h1, e1⟩ := List.getElem?_eq_some_iff.mp e
  obtain ⟨h2, e2⟩ := List.getElem?_eq_some_iff.mp e'
  have := (List.getElem_inj ok.nd).mp (e1.trans e2.symm)
  omega
theorem ok_place {f fh C : Addr} {fd fdh : FuncData} (F : Fun K "place_of" "Book.place_of" sPlace f fd) (T : ClsF K C) (HS : HasM P w K mg base C 2 "has" ["self", "who"] (spHas K C) fh fdh) :
    FnOk P w K mg base CX0 3 f fd ["self", "who"] (spPlace K C) := by
  refine F.ok scPlace (fun vs H Q E h => ?_) (fun cdv A outer s H vs Q E hr h => ?_)
  · obtain ⟨_, _, _, _, rfl, _⟩ := h
    rfl
  · obtain ⟨b, M, z, j, rfl, hb, ok, ej, q⟩ := h
    obtain ⟨hm, hf, hz⟩ := name_at ok ej
    refine ⟨_, pss_cons (ps_if (pt_not (pt_val (pe_meth (pv 0) T.cl HS.m HS.ok hr HS.b .nil pass0 (pa_cons (pv 1) pa_nil)))) pss_never pss_nil)
      (pss_one (ps_ret (pe_bmF PySem.F.slot_tuple_index PySem.F.type_tuple_index mt_tup_index (pe_fld (pv 0) rfl) (pa_cons (pv 1) pa_nil)))), ?_⟩
    obtain ⟨dx, tn, on, wg, ws, wd, e, h1, hn, h2, h3, h4⟩ := hb.ex
    refine ⟨.ref b, rfl, b, dx, _, rfl, e, bf_no (NoF.mk' (by decide +kernel)), .str z, rfl, b, M, .str z, .str z, rfl, hb, ok, .str z, (fun y ey => by cases ey; exact hz), fun H1 s1 => ⟨_, rfl, ?_⟩⟩
    have eh : hasD M (.str z) = true := decide_eq_true hm
    rw [eh]
    refine iteF ⟨.ref b, rfl, b, C, dx, _, _, rfl, s1 _ _ e, T.cl, T.n1, bf_names, tn, on, _, rfl, s1 _ _ h1, hn, .str z, rfl, tn, M.names, z, j, rfl, rfl, .inl (.inr ⟨on, s1 _ _ h1⟩), ej, hf, q H1 s1⟩
abbrev sPersons : Stmt := inBook 3
theorem scPersons : FnScope ["self"] ["self"] (defScope sPersons) := ⟨rfl, rfl, rfl, by decide +kernel, rfl, by decide +kernel, by decide +kernel⟩
def spPersons (K : PySem.W.Frag) (C : Addr) : Sp := fun vs H Q _ => ∃ b M, vs = [.ref b] ∧ BookAt K C H b M ∧ ∀ l, H l = none → Q (.ref l) (upd H l (.lst (M.names.map V.str)))
theorem ok_persons {f C : Addr} {fd : FuncData} (F : Fun K "persons" "Book.persons" sPersons f fd) (T : ClsF K C) (B3 : Blt3 mg) : FnOk P w K mg base CX0 1 f fd ["self"] (spPersons K C) := by
  refine F.ok scPersons (fun vs H Q E h => ?_) (fun cdv A outer s H vs Q E hr h => ?_)
  · obtain ⟨_, _, rfl, _⟩ := h
    rfl
  · obtain ⟨b, M, rfl, hb, q⟩ := h
    refine ⟨_, pss_one (ps_ret (pe_callTy call_list_of (by rfl) B3.list (by decide +kernel) (pa_cons (pe_fld (pv 0) rfl) pa_nil))), ?_⟩
    obtain ⟨dx, tn, on, wg, ws, wd, e, h1, hn, h2, h3, h4⟩ := hb.ex
    exact ⟨.ref b, rfl, b, C, dx, _, _, rfl, e, T.cl, T.n1, bf_names, tn, _, rfl, .inr (.inl (.inr ⟨on, h1⟩)), q⟩
/-! ### given, fallen, notes, pile -/
abbrev sGiven : Stmt := inBook 5
abbrev sFallen : Stmt := inBook 6
abbrev sNotes : Stmt := inBook 7
abbrev sPile : Stmt := inBook 8
theorem scGiven : FnScope ["self", "who"] ["self", "who"] (defScope sGiven) := ⟨rfl, rfl, rfl, by decide +kernel, rfl, by decide +kernel, by decide +kernel⟩
theorem scFallen : FnScope ["self", "who"] ["self", "who"] (defScope sFallen) := ⟨rfl, rfl, rfl, by decide +kernel, rfl, by decide +kernel, by decide +kernel⟩
theorem scNotes : FnScope ["self", "who"] ["self", "who"] (defScope sNotes) := ⟨rfl, rfl, rfl, by decide +kernel, rfl, by decide +kernel, by decide +kernel⟩
theorem scPile : FnScope ["self", "who", "gone", "left"] ["self", "who"] (defScope sPile) := ⟨rfl, rfl, rfl, by decide +kernel, rfl, by decide +kernel, by decide +kernel⟩
/-- a number of the j-th person -/
def spNum (K : PySem.W.Frag) (C : Addr) (g : Bk → List Int) : Sp := fun vs H Q _ => ∃ (b : Addr) (M : Bk) (z : Str) (j : Nat) (n : Int), vs = [.ref b, .str z] ∧ BookAt K C H b M ∧ NamesOk M.names ∧ M.names[j]? = some z ∧ (g M)[j]? = some n ∧ ∀ H', Same H H' → Q (.int n) H'
/-- a new list of notes of the j-th person -/
def spRow (K : PySem.W.Frag) (C : Addr) (g : List (Str × Int) → Int → List (Str × Int)) : Sp := fun vs H Q _ => ∃ (b : Addr) (M : Bk) (z : Str) (j : Nat) (l : List (Str × Int)) (n : Int), vs = [.ref b, .str z] ∧ BookAt K C H b M ∧ NamesOk M.names ∧ M.names[j]? = some z ∧
  M.stacks[j]? = some l ∧ M.drops[j]? = some n ∧ l.length ≤ 100 ∧ ∀ r xs H', Same H H' → H r = none → H' r = some (.lst xs) → DtAll K H' xs (notesD (g l n)) → Q (.ref r) H'
theorem map_get {α β : Type} {f : α → β} {l : List α} {j : Nat} {x : α} (h : l[j]? = some x) : (l.map f)[j]? = some (f x) := by
  rw [List.getElem?_map, h]
  rfl
theorem ok_given {f fp C : Addr} {fd fdp : FuncData} (F : Fun K "given" "Book.given" sGiven f fd) (T : ClsF K C) (PL : HasM P w K mg base C 3 "place_of" ["self", "who"] (spPlace K C) fp fdp) :
    FnOk P w K mg base CX0 4 f fd ["self", "who"] (spNum K C Bk.gifts) := by
  refine F.ok scGiven (fun vs H Q E h => ?_) (fun cdv A outer s H vs Q E hr h => ?_)
  · obtain ⟨_, _, _, _, _, rfl, _⟩ := h
    rfl
  · obtain ⟨b, M, z, j, n, rfl, hb, ok, ej, en, q⟩ := h
    refine ⟨_, pss_one (ps_ret (pe_ix ix_tupD (pe_fld (pv 0) rfl) (pe_meth (pv 0) T.cl PL.m PL.ok hr PL.b .nil pass0 (pa_cons (pv 1) pa_nil)) (fun _ _ => rfl))), ?_⟩
    obtain ⟨dx, tn, on, wg, ws, wd, e, h1, hn, h2, h3, h4⟩ := hb.ex
    refine ⟨.ref b, rfl, b, C, dx, _, _, rfl, e, T.cl, T.n2, bf_gifts, .ref b, rfl, b, dx, _, rfl, e, bf_no (NoF.mk' (by decide +kernel)), .str z, rfl, b, M, z, j, rfl, hb, ok, ej, fun H1 s1 => ?_⟩
    exact ⟨_, j, .int n, Dt.same s1 _ h2, rfl, map_get en, fun v dv => by cases dv; exact q H1 s1⟩
theorem ok_fallen {f fp C : Addr} {fd fdp : FuncData} (F : Fun K "fallen" "Book.fallen" sFallen f fd) (T : ClsF K C) (PL : HasM P w K mg base C 3 "place_of" ["self", "who"] (spPlace K C) fp fdp) :
    FnOk P w K mg base CX0 4 f fd ["self", "who"] (spNum K C Bk.drops) := by
  refine F.ok scFallen (fun vs H Q E h => ?_) (fun cdv A outer s H vs Q E hr h => ?_)
  · obtain ⟨_, _, _, _, _, rfl, _⟩ := h
    rfl
  · obtain ⟨b, M, z, j, n, rfl, hb, ok, ej, en, q⟩ := h
    refine ⟨_, pss_one (ps_ret (pe_ix ix_tupD (pe_fld (pv 0) rfl) (pe_meth (pv 0) T.cl PL.m PL.ok hr PL.b .nil pass0 (pa_cons (pv 1) pa_nil)) (fun _ _ => rfl))), ?_⟩
    obtain ⟨dx, tn, on, wg, ws, wd, e, h1, hn, h2, h3, h4⟩ := hb.ex
    refine ⟨.ref b, rfl, b, C, dx, _, _, rfl, e, T.cl, T.n4, bf_drops, .ref b, rfl, b, dx, _, rfl, e, bf_no (NoF.mk' (by decide +kernel)), .str z, rfl, b, M, z, j, rfl, hb, ok, ej, fun H1 s1 => ?_⟩
    exact ⟨_, j, .int n, Dt.same s1 _ h4, rfl, map_get en, fun v dv => by cases dv; exact q H1 s1⟩
theorem ok_notes {f fp C : Addr} {fd fdp : FuncData} (F : Fun K "notes" "Book.notes" sNotes f fd) (T : ClsF K C) (B3 : Blt3 mg) (PL : HasM P w K mg base C 3 "place_of" ["self", "who"] (spPlace K C) fp fdp) :
    FnOk P w K mg base CX0 4 f fd ["self", "who"] (spRow K C fun l _ => l) := by
  refine F.ok scNotes (fun vs H Q E h => ?_) (fun cdv A outer s H vs Q E hr h => ?_)
  · obtain ⟨_, _, _, _, _, _, rfl, _⟩ := h
    rfl
  · obtain ⟨b, M, z, j, l, n, rfl, hb, ok, ej, el, en, hl, q⟩ := h
    refine ⟨_, pss_one (ps_ret (pe_callTy call_listD (by rfl) B3.list (by decide +kernel) (pa_cons (pe_ix ix_tupD (pe_fld (pv 0) rfl) (pe_meth (pv 0) T.cl PL.m PL.ok hr PL.b .nil pass0 (pa_cons (pv 1) pa_nil)) (fun _ _ => rfl)) pa_nil))), ?_⟩
    obtain ⟨dx, tn, on, wg, ws, wd, e, h1, hn, h2, h3, h4⟩ := hb.ex
    refine ⟨.ref b, rfl, b, C, dx, _, _, rfl, e, T.cl, T.n3, bf_stacks, .ref b, rfl, b, dx, _, rfl, e, bf_no (NoF.mk' (by decide +kernel)), .str z, rfl, b, M, z, j, rfl, hb, ok, ej, fun H1 s1 => ?_⟩
    refine ⟨_, j, stackD l, Dt.same s1 _ h3, rfl, map_get el, fun v dv => ⟨v, _, rfl, .inl dv, fun r xs nr dx => ?_⟩⟩
    exact q r xs _ (s1.trans (same_upd nr)) (s1.free nr) upd_same (DtAll.same (same_upd nr) _ dx)
theorem ok_pile {f fs fn ff C : Addr} {fd fds fdn fdf : FuncData} (F : Fun K "pile" "Book.pile" sPile f fd) (T : ClsF K C) (SP : Has P w K mg base 1 "split_notes" ["notes", "fallen"] (spSplit K) fs fds)
    (NT : HasM P w K mg base C 4 "notes" ["self", "who"] (spRow K C fun l _ => l) fn fdn) (FL : HasM P w K mg base C 4 "fallen" ["self", "who"] (spNum K C Bk.drops) ff fdf) :
    FnOk P w K mg base CX0 5 f fd ["self", "who"] (spRow K C leftN) := by
  refine F.ok scPile (fun vs H Q E h => ?_) (fun cdv A outer s H vs Q E hr h => ?_)
  · obtain ⟨_, _, _, _, _, _, rfl, _⟩ := h
    rfl
  · obtain ⟨b, M, z, j, l, n, rfl, hb, ok, ej, el, en, hl, q⟩ := h
    refine ⟨_, pss_cons (ps_asg (pe_call SP.ok (hr.mono (by decide)) (by rfl) SP.g SP.kp SP.b .nil pass0 (pa_cons (pe_meth (pv 0) T.cl NT.m NT.ok hr NT.b .nil pass0 (pa_cons (pv 1) pa_nil))
        (pa_cons (pe_meth (pv 0) T.cl FL.m FL.ok hr FL.b .nil pass0 (pa_cons (pv 1) pa_nil)) pa_nil)))
        (pg_tup rfl (pgs_cons (pg_name (i := 2) scPile.nd rfl (.inl rfl)) (pgs_cons (pg_name (i := 3) scPile.nd rfl (.inl rfl)) pgs_nil))))
      (pss_one (ps_ret (pv 3))), ?_⟩
    obtain ⟨dx, tn, on, wg, ws, wd, e, h1, hn, h2, h3, h4⟩ := hb.ex
    refine ⟨.ref b, rfl, b, dx, _, rfl, e, bf_no (NoF.mk' (by decide +kernel)), .str z, rfl, b, M, z, j, l, n, rfl, hb, ok, ej, el, en, hl, fun r xs H1 s1 nr hr' dr => ?_⟩
    refine ⟨.ref b, rfl, b, dx, _, rfl, s1 _ _ e, bf_no (NoF.mk' (by decide +kernel)), .str z, rfl, b, M, z, j, n, rfl, book_same hb s1, ok, ej, en, fun H2 s2 => ?_⟩
    refine ⟨r, xs, true, l, n, rfl, .inl (.inl (s2 _ _ hr')), DtAll.same s2 _ dr, hl, fun t g m gx mx H3 s3 ht ng nm gm hg hm dg dm => ?_⟩
    refine ⟨t, _, rfl, .inl (.inl ht), rfl, _, _, rfl, _, _, rfl, rfl, .ref m, rfl, ?_⟩
    exact q m mx H3 (s1.trans (s2.trans s3)) ((s1.trans s2).free nm) hm dm
end
end Rc

namespace Rc
open PySem PySem.Spec PyProof.Rows L2 RZ
theorem walk_zipT {K : PySem.W.Frag} {a b : Addr} {xs ys : List V} {n : Nat} (hn : n = min xs.length ys.length) : Walk (ItzT K a b) n (fun H => SqT K H a xs ∧ SqT K H b ys) (YPair (fun i => xs[i]?) (fun i => ys[i]?)) := by
  subst hn
  refine ⟨fun i _ hi q => ?_, fun _ q => ⟨xs, ys, q.1, q.2, by omega⟩, fun i H v H' _ q y => ?_⟩
  · have h1 : i < xs.length := by omega
    have h2 : i < ys.length := by omega
    exact ⟨xs, ys, xs[i], ys[i], q.1, q.2, by simp [h1], by simp [h2]⟩
  · obtain ⟨T, x, z, g1, g2, g3, g4, g5⟩ := y
    exact ⟨T, x, z, g1, g2, g3, g4 xs q.1, g5 ys q.2⟩
def sumTo (z : Str) (l : List (Str × Int)) : Int := ((l.filter fun n => decide (n.1 = z)).map (·.2)).sum
def fallTo (M : Bk) (z : Str) : Int := ((M.stacks.zip M.drops).map fun p => sumTo z (goneN p.1 p.2)).sum
theorem len_le_sum : ∀ {l : List (List (Str × Int))} {x : List (Str × Int)}, x ∈ l → x.length ≤ (l.map List.length).sum
  | [], _, h => by cases h
  | y :: r, x, h => by
    rw [List.map_cons, List.sum_cons]
    rcases List.mem_cons.mp h with e | e
    · rw [e]
      exact Nat.le_add_right _ _
    · have := len_le_sum e
      omega
theorem Bk.Ok.row {M : Bk} (h : M.Ok) {l : List (Str × Int)} (hm : l ∈ M.stacks) : l.length ≤ 60 := Nat.le_trans (len_le_sum hm) h.many
theorem Bk.Ok.at_ {M : Bk} (h : M.Ok) {j : Nat} {z : Str} (e : M.names[j]? = some z) : ∃ g l d, M.gifts[j]? = some g ∧ M.stacks[j]? = some l ∧ M.drops[j]? = some d ∧ l.length ≤ 60 := by
  have hj : j < M.names.length := (List.getElem?_eq_some_iff.mp e).1
  have h1 : j < M.gifts.length := by rw [h.lg]; exact hj
  have h2 : j < M.stacks.length := by rw [h.ls]; exact hj
  have h3 : j < M.drops.length := by rw [h.ld]; exact hj
  exact ⟨_, _, _, List.getElem?_eq_getElem h1, List.getElem?_eq_getElem h2, List.getElem?_eq_getElem h3, h.row (List.getElem_mem h2)⟩
section
variable {P : Program} {w : World} {K : PySem.W.Frag} {mg : Str → Option Value} {base : Heap}
/-! ### fallen_to -/
abbrev sFallTo : Stmt := inBook 10
abbrev nFallTo : List Str := ["self", "who", "name", "total", "stack", "drop", "gone", "left", "to", "part"]
theorem scFallTo : FnScope nFallTo ["self", "who"] (defScope sFallTo) := ⟨rfl, rfl, rfl, by decide +kernel, rfl, by decide +kernel, by decide +kernel⟩
def spCalc (K : PySem.W.Frag) (C : Addr) (g : Bk → Nat → Str → Int) : Sp := fun vs H Q _ => ∃ (b : Addr) (M : Bk) (z : Str) (j : Nat), vs = [.ref b, .str z] ∧ BookAt K C H b M ∧ M.Ok ∧ M.names[j]? = some z ∧ ∀ H', Same H H' → Q (.int (g M j z)) H'
theorem ok_fallTo {f fp fs C : Addr} {fd fdp fds : FuncData} (F : Fun K "fallen_to" "Book.fallen_to" sFallTo f fd) (T : ClsF K C) (B3 : Blt3 mg) (PL : HasM P w K mg base C 3 "place_of" ["self", "who"] (spPlace K C) fp fdp)
    (SP : Has P w K mg base 1 "split_notes" ["notes", "fallen"] (spSplit K) fs fds) : FnOk P w K mg base CX0 4 f fd ["self", "who"] (spCalc K C fun M _ z => fallTo M z) := by
  refine F.ok scFallTo (fun vs H Q E h => ?_) (fun cdv A outer s H vs Q E hr h => ?_)
  · obtain ⟨_, _, _, _, rfl, _⟩ := h
    rfl
  · obtain ⟨b, M, z, j, rfl, hb, ok, ej, q⟩ := h
    refine ⟨_, pss_cons (ps_set (i := 2) scFallTo.nd rfl (.inr rfl) (pe_ix ix_tup (pe_fld (pv 0) rfl) (pe_meth (pv 0) T.cl PL.m PL.ok hr PL.b .nil pass0 (pa_cons (pv 1) pa_nil)) (fun _ _ => rfl)))
      (pss_cons (ps_set (i := 3) scFallTo.nd rfl (.inl rfl) pe_int)
      (pss_cons (ps_for PassesOwn.never rfl (pi_zipA (by rfl) B3.zip (pa_cons (pe_fld (pv 0) rfl) (pa_cons (pe_fld (pv 0) rfl) pa_nil))) (pg_tup rfl (pgs_cons (pg_name (i := 4) scFallTo.nd rfl (.inl rfl)) (pgs_cons (pg_name (i := 5) scFallTo.nd rfl (.inl rfl)) pgs_nil)))
        (pss_cons (ps_asg (pe_call SP.ok (hr.mono (by decide)) (by rfl) SP.g SP.kp SP.b .nil pass0 (pa_cons (pv 4) (pa_cons (pv 5) pa_nil))) (pg_tup rfl (pgs_cons (pg_name (i := 6) scFallTo.nd rfl (.inl rfl)) (pgs_cons (pg_name (i := 7) scFallTo.nd rfl (.inl rfl)) pgs_nil))))
        (pss_one (ps_aug (i := 3) scFallTo.nd rfl (.inl rfl) (pe_callB (cr_sum rfl) (by rfl) B3.sum (by decide +kernel) (pa_cons
          (pe_lc (own := [("to", 8), ("part", 9)]) (g := gTup K 2 (gCons (gName 8) (gCons (gName 9) gNil))) rfl scFallTo.nd (pi_list (pv 6)) (blkOk_by (N := nFallTo) (sc := defScope sFallTo) (own := [("to", 8), ("part", 9)]) (by decide +kernel))
            (fun _ _ _ _ _ => pg_tup rfl (pgs_cons (pg_name (i := 8) scFallTo.nd rfl (.inl rfl) (hf := .inr rfl)) (pgs_cons (pg_name (i := 9) scFallTo.nd rfl (.inl rfl) (hf := .inr rfl)) pgs_nil)))
            (fun _ _ _ _ _ => pts_one (pt_cmpR op_eq (pv 8) (pv 2) (nomark _))) (fun _ _ _ _ _ => pv 9)) pa_nil)) ip_add))))
      (pss_one (ps_ret (pv 3))))), ?_⟩
    obtain ⟨dx, tn, on, wg, ws, wd, e, h1, hn, h2, h3, h4⟩ := hb.ex
    refine ⟨.ref b, rfl, b, C, dx, _, _, rfl, e, T.cl, T.n1, bf_names, .ref b, rfl, b, dx, _, rfl, e, bf_no (NoF.mk' (by decide +kernel)), .str z, rfl, b, M, z, j, rfl, hb, ok.names, ej, fun H1 s1 => ?_⟩
    refine ⟨tn, _, _, .str z, rfl, rfl, .inl (.inr ⟨on, s1 _ _ h1⟩), atI_nat (map_get ej), ?_⟩
    have h3' := Dt.same s1 _ h3
    have h4' := Dt.same s1 _ h4
    obtain ⟨ta, xs, rfl, qa, da⟩ := h3'.tup_inv
    obtain ⟨tb, ys, rfl, qb, db⟩ := h4'.tup_inv
    have ey := db.ints_eq
    subst ey
    refine ⟨.ref b, rfl, b, C, dx, _, _, rfl, s1 _ _ e, T.cl, T.n3, bf_stacks, .ref b, rfl, b, C, dx, _, _, rfl, s1 _ _ e, T.cl, T.n4, bf_drops, ta, tb, xs, _, rfl, .inr ⟨qa, qb, ?_⟩⟩
    have lx : xs.length = M.names.length := by
      rw [da.len, List.length_map, ok.ls]
    have ly : (M.drops.map V.int).length = M.names.length := by
      rw [List.length_map, ok.ld]
    refine for_it (walk_zipT (xs := xs) (ys := M.drops.map V.int) (n := M.names.length) (by rw [lx, ly, Nat.min_self])) (fun i σ H' => ∃ y4 y5 y6 y7 y8 y9, σ = [some (.ref b), some (.str z), some (.str z), some (.int (((M.stacks.zip M.drops).take i).map fun p => sumTo z (goneN p.1 p.2)).sum), y4, y5, y6, y7, y8, y9] ∧ Same H1 H')
      ⟨_, _, _, _, _, _, rfl, Same.refl _⟩ (fun i σ H' _ hP => ?_) (fun i x σ H2' H2 hi hP hY => ?_) (fun σ H' hP => ?_)
    · obtain ⟨_, _, _, _, _, _, _, s2⟩ := hP
      exact ⟨same_seqT s2 qa, same_seqT s2 qb⟩
    · obtain ⟨y4, y5, y6, y7, y8, y9, rfl, s2⟩ := hP
      obtain ⟨Tt, x1, x2, rfl, nT, rfl, e1, e2⟩ := hY
      have e1' : xs[i]? = some x1 := e1
      have e2' : (M.drops.map V.int)[i]? = some x2 := e2
      have hs : i < M.stacks.length := by rw [ok.ls]; exact hi
      have hdr : i < M.drops.length := by rw [ok.ld]; exact hi
      rw [List.getElem?_map, List.getElem?_eq_getElem hdr] at e2'
      have ex2 : x2 = .int M.drops[i] := (Option.some.inj e2').symm
      subst ex2
      obtain ⟨v1, g1, d1⟩ := da.get (n := i) (d := stackD M.stacks[i]) (map_get (List.getElem?_eq_getElem hs))
      rw [e1'] at g1
      cases g1
      have s3 := s2.trans (same_upd (o := .tup [x1, V.int M.drops[i]]) nT)
      obtain ⟨sa, sx, rfl, sq, sd⟩ := (Dt.same s3 _ d1).tup_inv
      refine ⟨Tt, _, rfl, .inl (.inl upd_same), rfl, _, _, rfl, _, _, rfl, rfl, ?_⟩
      refine ⟨.ref sa, rfl, _, rfl, sa, sx, false, M.stacks[i], M.drops[i], rfl, sq, sd, by have := ok.row (List.getElem_mem hs); omega, fun t g m gx mx H4 s4 ht ng nm gm hg hm dg dm => ?_⟩
      refine ⟨t, _, rfl, .inl (.inl ht), rfl, _, _, rfl, _, _, rfl, rfl, ?_⟩
      refine ⟨_, rfl, .ref g, rfl, g, rfl, ⟨_, .inl (.inl hg)⟩, fun D nD => ?_⟩
      generalize hG : goneN M.stacks[i] M.drops[i] = G at dg
      have lg : gx.length = G.length := by
        rw [dg.len]
        unfold notesD
        rw [List.length_map]
      have lG : G.length ≤ 60 := by
        rw [← hG]
        exact Nat.le_trans (goneN_len _ _) (ok.row (List.getElem_mem hs))
      refine lc_it (walk_list (xs := gx)) (fun i' H' => Same H4 H' ∧ H' D = some (.lst (((G.take i').filter fun n => decide (n.1 = z)).map fun n => .int n.2))) ⟨same_upd nD, upd_same⟩ (fun i' H' _ hP => hP.1.seq (.inl (.inl hg)))
        (fun i' x' H5' H5 hi' hP hY => ?_) (fun H5 hP => ?_)
      · obtain ⟨rfl, hx⟩ := hY
        obtain ⟨hil, dn⟩ := (DtAll.same hP.1 _ dg).notes_get hx
        obtain ⟨na, rfl, qn⟩ := note_inv dn
        refine ⟨na, _, rfl, qn, rfl, _, _, rfl, _, _, rfl, rfl, rfl, _, rfl, _, rfl, rfl, _, rfl, ?_⟩
        have tk : G.take (i' + 1) = G.take i' ++ [G[i']] := by
          rw [List.take_add_one, List.getElem?_eq_getElem hil]
          rfl
        by_cases hz : G[i'].1 = z
        · rw [show decide (V.str G[i'].1 = V.str z) = true from decide_eq_true (by rw [hz])]
          refine iteT ⟨_, rfl, _, hP.2, ?_, fun c o ec => ?_, ?_⟩
          · rw [List.length_map]
            have := List.length_filter_le (fun n : Str × Int => decide (n.1 = z)) (G.take i')
            rw [List.length_take] at this
            exact small1000 (by omega)
          · rw [upd_ne (ne_of_none ec nD)]
            exact hP.1 c o ec
          · rw [upd_same, tk, List.filter_append, List.map_append]
            simp [hz]
        · rw [show decide (V.str G[i'].1 = V.str z) = false from decide_eq_false (fun c => hz (V.str.inj c))]
          refine iteF ⟨hP.1, ?_⟩
          rw [hP.2, tk, List.filter_append]
          simp [hz]
      · refine ⟨D, (G.filter fun n => decide (n.1 = z)).map (·.2), rfl, .inl (.inl ?_), _, _, rfl, rfl, ?_⟩
        · rw [hP.2, lg, List.take_length, List.map_map]
          rfl
        refine ⟨some (.ref sa), some (.int M.drops[i]), some (.ref g), some (.ref m), y8, y9, ?_, s3.trans (s4.trans hP.1)⟩
        have tk : (M.stacks.zip M.drops).take (i + 1) = (M.stacks.zip M.drops).take i ++ [(M.stacks[i], M.drops[i])] := by
          rw [List.take_add_one, List.getElem?_zip_eq_some (z := (M.stacks[i], M.drops[i])) |>.mpr ⟨List.getElem?_eq_getElem hs, List.getElem?_eq_getElem hdr⟩]
          rfl
        rw [tk, List.map_append, List.sum_append]
        simp only [List.map_cons, List.map_nil, List.sum_cons, List.sum_nil, Int.add_zero]
        rw [hG]
        rfl
    · obtain ⟨y4, y5, y6, y7, y8, y9, rfl, s2⟩ := hP
      refine ⟨_, rfl, ?_⟩
      rw [List.take_of_length_le (by rw [List.length_zip, ok.ls, ok.ld, Nat.min_self]; exact Nat.le_refl _)]
      exact q _ (s1.trans s2)
end
end Rc

namespace Rc
open PySem PySem.Spec PyProof.Rows L2 RZ
def cashM (M : Bk) (j : Nat) (z : Str) : Int := M.gifts.getD j 0 + fallTo M z - M.drops.getD j 0
def putM (M : Bk) (j : Nat) (y : Str) (n : Int) : Bk := { M with stacks := M.stacks.set j (M.stacks.getD j [] ++ [(y, n)]) }
def giveM (M : Bk) (j : Nat) (n : Int) : Bk := { M with gifts := M.gifts.set j (M.gifts.getD j 0 + n) }
theorem getD_of {α : Type} {l : List α} {j : Nat} {x d : α} (h : l[j]? = some x) : l.getD j d = x := by
  rw [List.getD_eq_getElem?_getD, h]
  rfl
def rLenS (K : PySem.W.Frag) : List V → Hp → VK → Prop := fun xs H Q => ∃ p ys, xs = [V.ref p] ∧ (SqL K H p ys ∨ SqT K H p ys) ∧ Q (V.int ys.length) H
theorem call_lenS {X : Cx} {K : PySem.W.Frag} (e : X.K = K) : CallR X (.builtin "len") (rLenS K) := by
  subst e
  exact call_len_seq
def manyM (M : Bk) : Nat := (M.stacks.map List.length).sum
section
variable {P : Program} {w : World} {K : PySem.W.Frag} {mg : Str → Option Value} {base : Heap}
/-! ### cash -/
abbrev sCash : Stmt := inBook 11
theorem scCash : FnScope ["self", "who"] ["self", "who"] (defScope sCash) := ⟨rfl, rfl, rfl, by decide +kernel, rfl, by decide +kernel, by decide +kernel⟩
theorem ok_cash {f f1 f2 f3 C : Addr} {fd fd1 fd2 fd3 : FuncData} (F : Fun K "cash" "Book.cash" sCash f fd) (T : ClsF K C) (GV : HasM P w K mg base C 4 "given" ["self", "who"] (spNum K C Bk.gifts) f1 fd1)
    (FT : HasM P w K mg base C 4 "fallen_to" ["self", "who"] (spCalc K C fun M _ z => fallTo M z) f2 fd2) (FL : HasM P w K mg base C 4 "fallen" ["self", "who"] (spNum K C Bk.drops) f3 fd3) :
    FnOk P w K mg base CX0 5 f fd ["self", "who"] (spCalc K C cashM) := by
  refine F.ok scCash (fun vs H Q E h => ?_) (fun cdv A outer s H vs Q E hr h => ?_)
  · obtain ⟨_, _, _, _, rfl, _⟩ := h
    rfl
  · obtain ⟨b, M, z, j, rfl, hb, ok, ej, q⟩ := h
    refine ⟨_, pss_one (ps_ret (pe_op op_sub (pe_op op_add (pe_meth (pv 0) T.cl GV.m GV.ok hr GV.b .nil pass0 (pa_cons (pv 1) pa_nil)) (pe_meth (pv 0) T.cl FT.m FT.ok hr FT.b .nil pass0 (pa_cons (pv 1) pa_nil))) (pe_meth (pv 0) T.cl FL.m FL.ok hr FL.b .nil pass0 (pa_cons (pv 1) pa_nil)))), ?_⟩
    obtain ⟨g, l, d, eg, el, ed, _⟩ := ok.at_ ej
    obtain ⟨dx, tn, on, wg, ws, wd, e, h1, hn, h2, h3, h4⟩ := hb.ex
    refine ⟨.ref b, rfl, b, dx, _, rfl, e, bf_no (NoF.mk' (by decide +kernel)), .str z, rfl, b, M, z, j, g, rfl, hb, ok.names, ej, eg, fun H1 s1 => ?_⟩
    refine ⟨.ref b, rfl, b, dx, _, rfl, s1 _ _ e, bf_no (NoF.mk' (by decide +kernel)), .str z, rfl, b, M, z, j, rfl, book_same hb s1, ok, ej, fun H2 s2 => ⟨_, _, rfl, rfl, ?_⟩⟩
    have s12 := s1.trans s2
    refine ⟨.ref b, rfl, b, dx, _, rfl, s12 _ _ e, bf_no (NoF.mk' (by decide +kernel)), .str z, rfl, b, M, z, j, d, rfl, book_same hb s12, ok.names, ej, ed, fun H3 s3 => ⟨_, _, rfl, rfl, ?_⟩⟩
    have ec : cashM M j z = g + fallTo M z - d := by
      unfold cashM
      rw [getD_of eg, getD_of ed]
    have qq := q _ (s12.trans s3)
    rw [ec] at qq
    exact qq
/-! ### put, give -/
abbrev sPut : Stmt := inBook 12
abbrev nPut : List Str := ["self", "who", "to", "amount", "place", "name", "stack"]
theorem scPut : FnScope nPut ["self", "who", "to", "amount"] (defScope sPut) := ⟨rfl, rfl, rfl, by decide +kernel, rfl, by decide +kernel, by decide +kernel⟩
def spPut (K : PySem.W.Frag) (C : Addr) : Sp := fun vs H Q _ => ∃ (b : Addr) (M : Bk) (z y : Str) (j k : Nat) (n : Int), vs = [.ref b, .str z, .str y, .int n] ∧ BookAt K C H b M ∧ M.Ok ∧ M.names[j]? = some z ∧ M.names[k]? = some y ∧ 1 ≤ n ∧ manyM M < 60 ∧
  ∀ b' H', Same H H' → H b' = none → BookAt K C H' b' (putM M j y n) → Q (.ref b') H'
theorem map_set {α β : Type} (f : α → β) (l : List α) (j : Nat) (x : α) : (l.map f).set j (f x) = (l.set j x).map f := by
  rw [List.map_set]
theorem ok_put {f f1 f2 f3 f4 C : Addr} {fd fd1 fd2 fd3 fd4 : FuncData} (F : Fun K "put" "Book.put" sPut f fd) (T : ClsF K C) (B : Blt mg) (B3 : Blt3 mg) (gM : ∃ t, mg "MOST" = some (.int 60 t))
    (PL : HasM P w K mg base C 3 "place_of" ["self", "who"] (spPlace K C) f1 fd1) (CA : Has P w K mg base 3 "check_amount" ["amount"] (spCheckA K) f2 fd2) (CH : Has P w K mg base 1 "with_changed" ["row", "place", "thing"] (spChg K) f3 fd3)
    (WT : HasM P w K mg base C 5 "with_these" ["self", "gifts", "stacks", "drops"] (spWith K C) f4 fd4) : FnOk P w K mg base CX0 6 f fd ["self", "who", "to", "amount"] (spPut K C) := by
  obtain ⟨tM, gM⟩ := gM
  refine F.ok scPut (fun vs H Q E h => ?_) (fun cdv A outer s H vs Q E hr h => ?_)
  · obtain ⟨_, _, _, _, _, _, _, rfl, _⟩ := h
    rfl
  · obtain ⟨b, M, z, y, j, k, n, rfl, hb, ok, ej, ek, n1, mm, q⟩ := h
    have hr3 := hr.mono (show 3 ≤ 5 by decide)
    have hr1 := hr.mono (show 1 ≤ 5 by decide)
    refine ⟨_, pss_cons (ps_set (i := 4) scPut.nd rfl (.inl rfl) (pe_meth (pv 0) T.cl PL.m PL.ok hr3 PL.b .nil pass0 (pa_cons (pv 1) pa_nil)))
      (pss_cons (ps_set (i := 5) scPut.nd rfl (.inl rfl) (pe_ix ix_tup (pe_fld (pv 0) rfl) (pe_meth (pv 0) T.cl PL.m PL.ok hr3 PL.b .nil pass0 (pa_cons (pv 2) pa_nil)) (fun _ _ => rfl)))
      (pss_cons (ps_expr (pe_call CA.ok hr3 (by rfl) CA.g CA.kp CA.b .nil pass0 (pa_cons (pv 3) pa_nil)))
      (pss_cons (ps_if (pt_cmpR op_ge (pe_callB (cr_sum rfl) (by rfl) B3.sum (by decide +kernel) (pa_cons
          (pe_lc (own := [("stack", 6)]) (g := gName 6) (tt := tYes) rfl scPut.nd (pi_tup (pe_fld (pv 0) rfl)) (blkOk_by (N := nPut) (sc := defScope sPut) (own := [("stack", 6)]) (by decide +kernel))
            (fun _ _ _ _ _ => pg_name (i := 6) scPut.nd rfl (.inl rfl) (hf := .inr rfl)) (fun _ _ _ _ _ => pts_nil)
            (fun _ _ _ _ _ => pe_callB (call_lenS (K := K) rfl) (by rfl) B.len PySem.boot_len (pa_cons (pv 6) pa_nil))) pa_nil)) (pe_glob (v := .int 60) (by rfl) gM ⟨_, rfl⟩) (nomark _)) pss_never pss_nil)
      (pss_cons (ps_set (i := 6) scPut.nd rfl (.inl rfl) (pe_op op_catD (pe_ix ix_tupD (pe_fld (pv 0) rfl) (pv 4) (fun _ _ => rfl)) (pe_tup (pa_cons (pe_tup (pa_cons (pv 5) (pa_cons (pv 3) pa_nil))) pa_nil))))
      (pss_one (ps_ret (pe_meth (pv 0) T.cl WT.m WT.ok hr WT.b .nil pass0 (pa_cons (pe_fld (pv 0) rfl) (pa_cons (pe_call CH.ok hr1 (by rfl) CH.g CH.kp CH.b .nil pass0 (pa_cons (pe_fld (pv 0) rfl) (pa_cons (pv 4) (pa_cons (pv 6) pa_nil))))
        (pa_cons (pe_fld (pv 0) rfl) pa_nil)))))))))), ?_⟩
    obtain ⟨g, l, d, eg, el, ed, ll⟩ := ok.at_ ej
    obtain ⟨dx, tn, on, wg, ws, wd, e, h1, hn, h2, h3, h4⟩ := hb.ex
    refine ⟨.ref b, rfl, b, dx, _, rfl, e, bf_no (NoF.mk' (by decide +kernel)), .str z, rfl, b, M, z, j, rfl, hb, ok.names, ej, fun H1 s1 => ?_⟩
    refine ⟨.ref b, rfl, b, C, dx, _, _, rfl, s1 _ _ e, T.cl, T.n1, bf_names, .ref b, rfl, b, dx, _, rfl, s1 _ _ e, bf_no (NoF.mk' (by decide +kernel)), .str y, rfl, b, M, y, k, rfl, book_same hb s1, ok.names, ek, fun H2 s2 => ?_⟩
    have s12 := s1.trans s2
    refine ⟨tn, _, _, .str y, rfl, rfl, .inl (.inr ⟨on, s12 _ _ h1⟩), atI_nat (map_get ek), ?_⟩
    refine ⟨.int n, rfl, n, rfl, n1, fun H3 s3 => ?_⟩
    have s13 := s12.trans s3
    obtain ⟨ta, xs, ews, qa, da⟩ := (Dt.same s13 _ h3).tup_inv
    subst ews
    refine ⟨.ref b, rfl, b, C, dx, _, _, rfl, s13 _ _ e, T.cl, T.n3, bf_stacks, ta, rfl, ⟨_, qa⟩, fun D nD => ?_⟩
    refine lc_it (walk_tup (xs := xs)) (fun i H' => Same H3 H' ∧ H' D = some (.lst ((M.stacks.take i).map fun l => .int (l.length : Nat)))) ⟨same_upd nD, upd_same⟩ (fun i H' _ hP => same_seqT hP.1 qa)
      (fun i x H4' H4 hi hP hY => ?_) (fun H4 hP => ?_)
    · obtain ⟨rfl, hx⟩ := hY
      have hs : i < M.stacks.length := by
        have := da.len
        rw [List.length_map] at this
        omega
      obtain ⟨v1, g1, d1⟩ := da.get (n := i) (d := stackD M.stacks[i]) (map_get (List.getElem?_eq_getElem hs))
      rw [hx] at g1
      cases g1
      obtain ⟨sa, sx, rfl, sq, sd⟩ := (Dt.same hP.1 _ d1).tup_inv
      have lsx : sx.length = M.stacks[i].length := by
        rw [sd.len]
        unfold notesD
        rw [List.length_map]
      refine ⟨rfl, .ref sa, rfl, sa, sx, rfl, .inr sq, _, hP.2, ?_, fun c o ec => ?_, ?_⟩
      · rw [List.length_map, List.length_take]
        have := ok.n1
        have := ok.ls
        exact small1000 (by omega)
      · rw [upd_ne (ne_of_none ec nD)]
        exact hP.1 c o ec
      · rw [upd_same, List.take_add_one, List.getElem?_eq_getElem hs, List.map_append, lsx]
        rfl
    · have lx : xs.length = M.stacks.length := by
        rw [da.len, List.length_map]
      refine ⟨D, M.stacks.map fun l => ((l.length : Nat) : Int), rfl, .inl (.inl ?_), _, _, rfl, rfl, _, rfl, ?_⟩
      · rw [hP.2, lx, List.take_length, List.map_map]
        rfl
      have esum : (M.stacks.map fun l => ((l.length : Nat) : Int)).sum = ((manyM M : Nat) : Int) := by
        unfold manyM
        generalize M.stacks = S
        induction S with
        | nil => rfl
        | cons a r ih =>
          rw [List.map_cons, List.sum_cons, ih, List.map_cons, List.sum_cons]
          omega
      rw [esum, show decide ((60 : Int) ≤ ((manyM M : Nat) : Int)) = false from decide_eq_false (by omega)]
      have s14 := s13.trans hP.1
      refine iteF ?_
      refine ⟨.ref b, rfl, b, C, dx, _, _, rfl, s14 _ _ e, T.cl, T.n3, bf_stacks, .int (j : Nat), rfl, _, j, stackD l, Dt.same s14 _ h3, rfl, map_get el, fun v dv => ?_⟩
      refine ⟨.str y, rfl, .int n, rfl, by show 2 ≤ sizeLine; decide, fun t1 nt1 => ⟨by show 1 ≤ sizeLine; decide, fun t2 nt2 => ?_⟩⟩
      have s5 := (same_upd (o := .tup [V.str y, V.int n]) nt1).trans (same_upd (o := .tup [V.ref t1]) nt2)
      refine ⟨notesD l, [noteD (y, n)], Dt.same s5 _ dv, .tup (.inl (.inl upd_same)) (.cons (.tup (.inl (.inl (same_upd nt2 _ _ upd_same))) (.cons (.str y) (.cons (.int n) .nil))) .nil), ?_, fun v6 H6 s6 d6 => ?_⟩
      · unfold notesD
        rw [List.length_map, List.length_singleton]
        omega
      have s16 := s14.trans (s5.trans s6)
      have en : notesD l ++ [noteD (y, n)] = notesD (l ++ [(y, n)]) := by
        unfold notesD
        rw [List.map_append]
        rfl
      rw [en] at d6
      -- self.with_these(self.gifts, with_changed(self.stacks, place, stack), self.drops)
      refine ⟨.ref b, rfl, b, dx, _, rfl, s16 _ _ e, bf_no (NoF.mk' (by decide +kernel)), .ref b, rfl, b, C, dx, _, _, rfl, s16 _ _ e, T.cl, T.n2, bf_gifts, .ref b, rfl, b, C, dx, _, _, rfl, s16 _ _ e, T.cl, T.n3, bf_stacks,
        .int (j : Nat), rfl, v6, rfl, _, _, j, v6, stackD (l ++ [(y, n)]), rfl, Dt.same s16 _ h3, d6, ?_, ?_, fun v7 H7 s7 d7 => ?_⟩
      · rw [List.length_map]
        exact (List.getElem?_eq_some_iff.mp el).1
      · rw [List.length_map, ok.ls]
        have := ok.n1
        omega
      have s17 := s16.trans s7
      rw [map_set] at d7
      refine ⟨.ref b, rfl, b, C, dx, _, _, rfl, s17 _ _ e, T.cl, T.n4, bf_drops, b, M, _, _, _, M.gifts, _, M.drops, rfl, book_same hb s17, ok.names, Dt.same s17 _ h2, d7, Dt.same s17 _ h4, fun b' H8 s8 nb hb' => ?_⟩
      refine q b' H8 (s17.trans s8) (s17.free nb) ?_
      have ep : putM M j y n = ⟨M.names, M.gifts, M.stacks.set j (l ++ [(y, n)]), M.drops⟩ := by
        unfold putM
        rw [getD_of el]
      rw [ep]
      exact hb'
abbrev sGive : Stmt := inBook 13
theorem scGive : FnScope ["self", "who", "amount", "place", "gift"] ["self", "who", "amount"] (defScope sGive) := ⟨rfl, rfl, rfl, by decide +kernel, rfl, by decide +kernel, by decide +kernel⟩
def spGive (K : PySem.W.Frag) (C : Addr) : Sp := fun vs H Q _ => ∃ (b : Addr) (M : Bk) (z : Str) (j : Nat) (n : Int), vs = [.ref b, .str z, .int n] ∧ BookAt K C H b M ∧ M.Ok ∧ M.names[j]? = some z ∧ 1 ≤ n ∧
  ∀ b' H', Same H H' → H b' = none → BookAt K C H' b' (giveM M j n) → Q (.ref b') H'
theorem ok_give {f f1 f2 f3 f4 C : Addr} {fd fd1 fd2 fd3 fd4 : FuncData} (F : Fun K "give" "Book.give" sGive f fd) (T : ClsF K C)
    (PL : HasM P w K mg base C 3 "place_of" ["self", "who"] (spPlace K C) f1 fd1) (CA : Has P w K mg base 3 "check_amount" ["amount"] (spCheckA K) f2 fd2) (CH : Has P w K mg base 1 "with_changed" ["row", "place", "thing"] (spChg K) f3 fd3)
    (WT : HasM P w K mg base C 5 "with_these" ["self", "gifts", "stacks", "drops"] (spWith K C) f4 fd4) : FnOk P w K mg base CX0 6 f fd ["self", "who", "amount"] (spGive K C) := by
  refine F.ok scGive (fun vs H Q E h => ?_) (fun cdv A outer s H vs Q E hr h => ?_)
  · obtain ⟨_, _, _, _, _, rfl, _⟩ := h
    rfl
  · obtain ⟨b, M, z, j, n, rfl, hb, ok, ej, n1, q⟩ := h
    have hr3 := hr.mono (show 3 ≤ 5 by decide)
    have hr1 := hr.mono (show 1 ≤ 5 by decide)
    refine ⟨_, pss_cons (ps_set (i := 3) scGive.nd rfl (.inl rfl) (pe_meth (pv 0) T.cl PL.m PL.ok hr3 PL.b .nil pass0 (pa_cons (pv 1) pa_nil)))
      (pss_cons (ps_expr (pe_call CA.ok hr3 (by rfl) CA.g CA.kp CA.b .nil pass0 (pa_cons (pv 2) pa_nil)))
      (pss_cons (ps_set (i := 4) scGive.nd rfl (.inl rfl) (pe_op op_add (pe_ix ix_tupD (pe_fld (pv 0) rfl) (pv 3) (fun _ _ => rfl)) (pv 2)))
      (pss_one (ps_ret (pe_meth (pv 0) T.cl WT.m WT.ok hr WT.b .nil pass0 (pa_cons (pe_call CH.ok hr1 (by rfl) CH.g CH.kp CH.b .nil pass0 (pa_cons (pe_fld (pv 0) rfl) (pa_cons (pv 3) (pa_cons (pv 4) pa_nil))))
        (pa_cons (pe_fld (pv 0) rfl) (pa_cons (pe_fld (pv 0) rfl) pa_nil)))))))), ?_⟩
    obtain ⟨g, l, d, eg, el, ed, ll⟩ := ok.at_ ej
    obtain ⟨dx, tn, on, wg, ws, wd, e, h1, hn, h2, h3, h4⟩ := hb.ex
    refine ⟨.ref b, rfl, b, dx, _, rfl, e, bf_no (NoF.mk' (by decide +kernel)), .str z, rfl, b, M, z, j, rfl, hb, ok.names, ej, fun H1 s1 => ?_⟩
    refine ⟨.int n, rfl, n, rfl, n1, fun H3 s3 => ?_⟩
    have s13 := s1.trans s3
    refine ⟨.ref b, rfl, b, C, dx, _, _, rfl, s13 _ _ e, T.cl, T.n2, bf_gifts, .int (j : Nat), rfl, _, j, .int g, Dt.same s13 _ h2, rfl, map_get eg, fun v dv => ?_⟩
    cases dv
    refine ⟨.int n, rfl, g, n, rfl, rfl, ?_⟩
    refine ⟨.ref b, rfl, b, dx, _, rfl, s13 _ _ e, bf_no (NoF.mk' (by decide +kernel)), .ref b, rfl, b, C, dx, _, _, rfl, s13 _ _ e, T.cl, T.n2, bf_gifts,
      .int (j : Nat), rfl, .int (g + n), rfl, _, _, j, _, .int (g + n), rfl, Dt.same s13 _ h2, .int _, ?_, ?_, fun v7 H7 s7 d7 => ?_⟩
    · rw [List.length_map]
      exact (List.getElem?_eq_some_iff.mp eg).1
    · rw [List.length_map, ok.lg]
      have := ok.n1
      omega
    have s17 := s13.trans s7
    rw [map_set] at d7
    refine ⟨.ref b, rfl, b, C, dx, _, _, rfl, s17 _ _ e, T.cl, T.n3, bf_stacks, .ref b, rfl, b, C, dx, _, _, rfl, s17 _ _ e, T.cl, T.n4, bf_drops, b, M, _, _, _, _, M.stacks, M.drops, rfl, book_same hb s17, ok.names, d7, Dt.same s17 _ h3, Dt.same s17 _ h4, fun b' H8 s8 nb hb' => ?_⟩
    refine q b' H8 (s17.trans s8) (s17.free nb) ?_
    have ep : giveM M j n = ⟨M.names, M.gifts.set j (g + n), M.stacks, M.drops⟩ := by
      unfold giveM
      rw [getD_of eg]
    rw [ep]
    exact hb'
/-! ### key -/
abbrev sKey : Stmt := inBook 16
theorem scKey : FnScope ["self"] ["self"] (defScope sKey) := ⟨rfl, rfl, rfl, by decide +kernel, rfl, by decide +kernel, by decide +kernel⟩
def keyD (M : Bk) : PyData := .tuple [.tuple (M.names.map .str), .tuple (M.gifts.map .int), .tuple (M.stacks.map stackD), .tuple (M.drops.map .int)]
def spKey (K : PySem.W.Frag) (C : Addr) : Sp := fun vs H Q _ => ∃ b M, vs = [.ref b] ∧ BookAt K C H b M ∧ ∀ v H', Same H H' → Dt K H' v (keyD M) → Q v H'
theorem ok_key {f C : Addr} {fd : FuncData} (F : Fun K "key" "Book.key" sKey f fd) (T : ClsF K C) : FnOk P w K mg base CX0 1 f fd ["self"] (spKey K C) := by
  refine F.ok scKey (fun vs H Q E h => ?_) (fun cdv A outer s H vs Q E hr h => ?_)
  · obtain ⟨_, _, rfl, _⟩ := h
    rfl
  · obtain ⟨b, M, rfl, hb, q⟩ := h
    refine ⟨_, pss_one (ps_ret (pe_tup (pa_cons (pe_fld (pv 0) rfl) (pa_cons (pe_fld (pv 0) rfl) (pa_cons (pe_fld (pv 0) rfl) (pa_cons (pe_fld (pv 0) rfl) pa_nil)))))), ?_⟩
    obtain ⟨dx, tn, on, wg, ws, wd, e, h1, hn, h2, h3, h4⟩ := hb.ex
    refine ⟨.ref b, rfl, b, C, dx, _, _, rfl, e, T.cl, T.n1, bf_names, .ref b, rfl, b, C, dx, _, _, rfl, e, T.cl, T.n2, bf_gifts, .ref b, rfl, b, C, dx, _, _, rfl, e, T.cl, T.n3, bf_stacks, .ref b, rfl, b, C, dx, _, _, rfl, e, T.cl, T.n4, bf_drops, by show 4 ≤ sizeLine; decide, fun t nt => ?_⟩
    have st := same_upd (o := .tup [V.ref tn, wg, ws, wd]) nt
    exact q _ _ st (.tup (.inl (.inl upd_same)) (.cons (.tup (.inl (.inr ⟨on, st _ _ h1⟩)) (DtAll.strs _)) (.cons (Dt.same st _ h2) (.cons (Dt.same st _ h3) (.cons (Dt.same st _ h4) .nil)))))
end
end Rc

namespace Rc
open PySem PySem.Spec PyProof.Rows L2 RZ
theorem out_it {J : It} {n : Nat} {G : Hp → Prop} {Y : Nat → Hp → V → Hp → Prop} (w : Walk J n G Y) {Body : V → Hp → (Hp → Prop) → Prop} {H0 : Hp} {Qd : Hp → Prop} (Pv : Nat → Hp → Prop) (h0 : Pv 0 H0) (hG : ∀ i H, i ≤ n → Pv i H → G H)
    (hs : ∀ i x H H', i < n → Pv i H → Y i H x H' → Body x H' (Pv (i + 1))) (hd : ∀ H, Pv n H → Qd H) :
    ∃ W : Nat → Nat → Hp → Prop, (∃ m, W 0 m H0) ∧ ∀ i m H, W i m H → (J.stop i H ∧ Qd H) ∨ (J.go i H ∧ ∃ Nx : Hp → Prop, (∀ H', Nx H' → ∃ m', m' < m ∧ W (i + 1) m' H') ∧ ∀ x H', J.yld i H x H' → Body x H' Nx) := by
  refine ⟨fun i m H => m = n - i ∧ i ≤ n ∧ Pv i H, ⟨n, by simp, Nat.zero_le _, h0⟩, ?_⟩
  rintro i m H ⟨rfl, hi, p⟩
  have g := hG i H hi p
  by_cases hlt : i < n
  · exact .inr ⟨w.goes i H hlt g, Pv (i + 1), fun H' p' => ⟨n - (i + 1), by omega, rfl, hlt, p'⟩, fun x H' y => hs i x H H' hlt p (w.yields i H x H' hlt g y)⟩
  · obtain rfl : i = n := by omega
    exact .inl ⟨w.stops H g, hd H p⟩
def leftM (M : Bk) (i : Nat) : List (Str × Int) := ((M.stacks.zip M.drops).take i).flatMap fun p => leftN p.1 p.2
theorem leftM_succ {M : Bk} {i : Nat} {l : List (Str × Int)} {d : Int} (h1 : M.stacks[i]? = some l) (h2 : M.drops[i]? = some d) : leftM M (i + 1) = leftM M i ++ leftN l d := by
  unfold leftM
  rw [List.take_add_one, List.getElem?_zip_eq_some (z := (l, d)) |>.mpr ⟨h1, h2⟩, List.flatMap_append]
  simp
theorem leftM_len (M : Bk) (ok : M.Ok) : ∀ i, (leftM M i).length ≤ ((M.stacks.take i).map List.length).sum
  | 0 => by simp [leftM]
  | i + 1 => by
    have ih := leftM_len M ok i
    by_cases h : i < M.stacks.length
    · have h2 : i < M.drops.length := by
        rw [ok.ld, ← ok.ls]
        exact h
      rw [leftM_succ (List.getElem?_eq_getElem h) (List.getElem?_eq_getElem h2), List.take_add_one, List.getElem?_eq_getElem h, List.map_append, List.sum_append, List.length_append]
      have := leftN_len M.stacks[i] M.drops[i]
      simp only [Option.toList_some, List.map_cons, List.map_nil, List.sum_cons, List.sum_nil]
      omega
    · have e1 : (M.stacks.zip M.drops).take (i + 1) = (M.stacks.zip M.drops).take i := by
        rw [List.take_of_length_le (by rw [List.length_zip]; omega), List.take_of_length_le (by rw [List.length_zip]; omega)]
      have e2 : M.stacks.take (i + 1) = M.stacks.take i := by
        rw [List.take_of_length_le (by omega), List.take_of_length_le (by omega)]
      unfold leftM at ih ⊢
      rw [e1, e2]
      exact ih
theorem sum_take_le : ∀ (l : List (List (Str × Int))) (i : Nat), ((l.take i).map List.length).sum ≤ (l.map List.length).sum
  | [], _ => by simp
  | _ :: _, 0 => by simp
  | a :: r, i + 1 => by
    have := sum_take_le r i
    simp only [List.take_succ_cons, List.map_cons, List.sum_cons]
    omega
section
variable {P : Program} {w : World} {K : PySem.W.Frag} {mg : Str → Option Value} {base : Heap}
abbrev sLefts : Stmt := inBook 17
abbrev nLefts : List Str := ["self", "who", "note"]
theorem scLefts : FnScope nLefts ["self"] (defScope sLefts) := ⟨rfl, rfl, rfl, by decide +kernel, rfl, by decide +kernel, by decide +kernel⟩
def spLefts (K : PySem.W.Frag) (C : Addr) : Sp := fun vs H Q _ => ∃ b M, vs = [.ref b] ∧ BookAt K C H b M ∧ M.Ok ∧ ∀ r xs H', Same H H' → H r = none → H' r = some (.lst xs) → xs.length = (leftM M M.names.length).length → Q (.ref r) H'
theorem ok_lefts {f fp C : Addr} {fd fdp : FuncData} (F : Fun K "notes_left" "Book.notes_left" sLefts f fd) (T : ClsF K C) (PI' : HasM P w K mg base C 5 "pile" ["self", "who"] (spRow K C leftN) fp fdp) :
    FnOk P w K mg base CX0 6 f fd ["self"] (spLefts K C) := by
  refine F.ok scLefts (fun vs H Q E h => ?_) (fun cdv A outer s H vs Q E hr h => ?_)
  · obtain ⟨_, _, rfl, _⟩ := h
    rfl
  · obtain ⟨b, M, rfl, hb, ok, q⟩ := h
    refine ⟨_, pss_one (ps_ret (pe_lc2 (own := [("who", 1), ("note", 2)]) (vs1 := [2]) (g := gName 1) (g1 := gName 2) (tt := tYes) (tt1 := tYes) (te := tVar 2) (wi1 := iList K (tMeth C "pile" (spRow K C leftN) [] E0 (tVar 0) (tCons (tVar 1) tNil))) rfl scLefts.nd (pi_tup (pe_fld (pv 0) rfl))
      (blkOk_by (N := nLefts) (sc := defScope sLefts) (own := [("who", 1), ("note", 2)]) (by decide +kernel)) (by decide) (fun _ _ _ _ _ => pg_name (i := 1) scLefts.nd rfl (.inl rfl) (hf := .inr rfl)) (fun _ _ _ _ _ => pts_nil)
      (fun _ _ _ _ _ => pi_list (pe_meth (pv 0) T.cl PI'.m PI'.ok hr PI'.b .nil pass0 (pa_cons (pv 1) pa_nil))) (fun _ _ _ _ _ => pg_name (i := 2) scLefts.nd rfl (.inl rfl) (hf := .inr rfl)) (fun _ _ _ _ _ => pts_nil) (fun _ _ _ _ _ => pv 2))), ?_⟩
    obtain ⟨dx, tn, on, wg, ws, wd, e, h1, hn, h2, h3, h4⟩ := hb.ex
    have qn : SqT K H tn (M.names.map V.str) := .inl (.inr ⟨on, h1⟩)
    refine ⟨.ref b, rfl, b, C, dx, _, _, rfl, e, T.cl, T.n1, bf_names, tn, rfl, ⟨_, qn⟩, fun D nD => ?_⟩
    have bound : ∀ i, (leftM M i).length ≤ 60 := fun i => Nat.le_trans (leftM_len M ok i) (Nat.le_trans (sum_take_le _ _) ok.many)
    refine out_it (walk_tup (K := K) (a := tn) (xs := M.names.map V.str)) (fun i H' => Same H H' ∧ ∃ acc, H' D = some (.lst acc) ∧ acc.length = (leftM M i).length) ⟨same_upd nD, [], upd_same, rfl⟩ (fun i H' _ hP => same_seqT hP.1 qn)
      (fun i x H1' H1 hi hP hY => ?_) (fun H1 hP => ?_)
    · obtain ⟨rfl, hx⟩ := hY
      rw [List.length_map] at hi
      obtain ⟨s1, acc, hD, ha⟩ := hP
      have ex : x = .str M.names[i] := by
        rw [List.getElem?_map, List.getElem?_eq_getElem hi] at hx
        exact (Option.some.inj hx).symm
      subst ex
      obtain ⟨g, l, d, eg, el, ed, ll⟩ := ok.at_ (List.getElem?_eq_getElem hi)
      refine ⟨rfl, ?_⟩
      refine ⟨.ref b, rfl, b, dx, _, rfl, s1 _ _ e, bf_no (NoF.mk' (by decide +kernel)), _, rfl, b, M, _, i, l, d, rfl, book_same hb s1, ok.names, List.getElem?_eq_getElem hi, el, ed, by omega, fun r xs H2 s2 nr hr2 dr => ?_⟩
      have lx : xs.length = (leftN l d).length := by
        rw [dr.len]
        unfold notesD
        rw [List.length_map]
      have rD : r ≠ D := (ne_of_none hD nr).symm
      refine ⟨r, rfl, ⟨_, .inl (.inl hr2)⟩, ?_⟩
      have es := leftM_succ el ed
      have b1 := bound (i + 1)
      rw [es, List.length_append] at b1
      refine out_it (walk_list (K := K) (a := r) (xs := xs)) (fun j H' => Same H H' ∧ H' r = some (.lst xs) ∧ ∃ acc', H' D = some (.lst acc') ∧ acc'.length = (leftM M i).length + j) ⟨s1.trans s2, hr2, acc, s2 _ _ hD, by omega⟩ (fun j H' _ hP => .inl (.inl hP.2.1))
        (fun j y H3' H3 hj hP hY => ?_) (fun H3 hP => ?_)
      · obtain ⟨rfl, hy⟩ := hY
        obtain ⟨s3, hr3, acc', hD3, ha3⟩ := hP
        refine ⟨rfl, y, rfl, acc', hD3, small1000 (by omega), fun c o ec => ?_, ?_, acc' ++ [y], upd_same, ?_⟩
        · rw [upd_ne (ne_of_none ec nD)]
          exact s3 c o ec
        · rw [upd_ne rD]
          exact hr3
        · rw [List.length_append, ha3]
          rfl
      · obtain ⟨s3, hr3, acc', hD3, ha3⟩ := hP
        exact ⟨s3, acc', hD3, by rw [es, List.length_append, ha3, lx]⟩
    · obtain ⟨s1, acc, hD, ha⟩ := hP
      rw [List.length_map] at ha
      exact q D acc H1 s1 nD hD ha
/-! ### len -/
abbrev sLenB : Stmt := inBook 19
theorem scLenB : FnScope ["self"] ["self"] (defScope sLenB) := ⟨rfl, rfl, rfl, by decide +kernel, rfl, by decide +kernel, by decide +kernel⟩
def lenM (M : Bk) : Nat := (leftM M M.names.length).length
def spLenB (K : PySem.W.Frag) (C : Addr) : Sp := fun vs H Q _ => ∃ b M, vs = [.ref b] ∧ BookAt K C H b M ∧ M.Ok ∧ ∀ H', Same H H' → Q (.int (lenM M : Nat)) H'
theorem ok_lenB {f fp C : Addr} {fd fdp : FuncData} (F : Fun K "__len__" "Book.__len__" sLenB f fd) (T : ClsF K C) (B : Blt mg) (LF : HasM P w K mg base C 6 "notes_left" ["self"] (spLefts K C) fp fdp) :
    FnOk P w K mg base CX0 7 f fd ["self"] (spLenB K C) := by
  refine F.ok scLenB (fun vs H Q E h => ?_) (fun cdv A outer s H vs Q E hr h => ?_)
  · obtain ⟨_, _, rfl, _⟩ := h
    rfl
  · obtain ⟨b, M, rfl, hb, ok, q⟩ := h
    refine ⟨_, pss_one (ps_ret (pe_callB call_len_seq (by rfl) B.len PySem.boot_len (pa_cons (pe_meth0 (pv 0) T.cl LF.m LF.ok hr LF.b .nil pass0) pa_nil))), ?_⟩
    obtain ⟨dx, tn, on, wg, ws, wd, e, h1, hn, h2, h3, h4⟩ := hb.ex
    refine ⟨.ref b, rfl, b, dx, _, rfl, e, bf_no (NoF.mk' (by decide +kernel)), b, M, rfl, hb, ok, fun r xs H' s' nr hr' hl => ?_⟩
    refine ⟨r, xs, rfl, .inl (.inl (.inl hr')), ?_⟩
    rw [hl]
    exact q H' s'
theorem lenM_le {M : Bk} (ok : M.Ok) : lenM M ≤ 60 := Nat.le_trans (leftM_len M ok _) (Nat.le_trans (sum_take_le _ _) ok.many)
/-- len(book) -/
def rLenB (K : PySem.W.Frag) (C : Addr) : List V → Hp → VK → Prop := fun xs H Q => ∃ b M, xs = [.ref b] ∧ BookAt K C H b M ∧ M.Ok ∧ ∀ H', Same H H' → Q (.int (lenM M : Nat)) H'
theorem call_lenB {X : Cx} {C f : Addr} {fd : FuncData} (G : FnOk X.prog X.w X.K X.mg X.base CX0 7 f fd ["self"] (spLenB X.K C)) (bd : Binds X.K fd ["self"] []) (hm : Meth X.K C "__len__" f) (hr : Room 8 X.A) : CallR X (.builtin "len") (rLenB X.K C) := by
  intro pins s σ H xs us Q I r h
  obtain ⟨b, M, rfl, hb, ok, q⟩ := h
  obtain ⟨u, rfl, ru⟩ := vals1 r
  cases ru
  obtain ⟨dx, tn, on, wg, ws, wd, e, h1, hn, h2, h3, h4⟩ := hb.ex
  obtain ⟨m, Fm⟩ := I.fr
  obtain ⟨mA, O, _⟩ := ins_get I.hok e
  obtain ⟨od, J, _⟩ := O.look
  refine PySem.W.len_K Fm I.ok.mod.kin J hm.at_ hm.fn ?_
  have e0 := I.env0
  refine wpAny_call (codeAny_mono (G.run X.A.in1 X.stack s H ⟨[.ref b], []⟩ [.ref b] [.ref b] (fun v H' => v = .int (lenM M : Nat) ∧ Q (.int (lenM M : Nat)) H') E0 hr.in1 e0.in1 (bd s [.ref b] I.kIn rfl) (.cons rfl .nil) ⟨b, M, rfl, hb, ok, fun H' s' => ⟨rfl, q H' s'⟩⟩) fun r s' hq => ?_)
  match r, hq with
  | .error e, hq => exact hq.elim
  | .ok .next, hq => exact hq.elim
  | .ok .brk, hq => exact hq.elim
  | .ok .cont, hq => exact hq.elim
  | .ok (.ret u), hq =>
    obtain ⟨v, H', I', rv, ev, q'⟩ := I.after hq
    subst ev
    obtain ⟨t, rfl⟩ := rv
    have := lenM_le ok
    exact ⟨⟨by omega, by omega⟩, ⟨.int _, H', I'.tok _, ⟨_, rfl⟩, q'⟩⟩
end
end Rc

namespace Rc
/-! ### own exceptions by super().__init__(text); self.f = f; .. -/
namespace EX
open PySem PySem.W PySem.Calls PyProof.Rows PySem.HandSPX
open L2 (defScope defBody defArgs)
abbrev supS (t : Str) (p0 p1 p2 p3 p4 p5 : Pos) : Stmt := .Expr (.Call (.Attribute (.Call (.Name "super" p0) [] [] p1) "__init__" p2) [.Constant (.str t) 0 p3] [] p4) p5
abbrev fldS (f : Str) (q1 q2 q3 q4 : Pos) : Stmt := .Assign [.Attribute (.Name "self" q1) f q2] (.Name f q3) q4
/-- an instance, its dict or none -/
abbrev exI (C t : Addr) (d : Option Addr) : Obj := { cls := .ref C, dict := d, data := .fields #[.ref t, .none, .none, .none, .bool false, .none] }
section
variable {prog : Program} {w : World} {A : Around} {E : Value → Shared → Prop} {K : Frag} {x C : Addr} {f : Str} {v : Value} {cd : ClassData} {B newId initId : String} {bmB : List Value} {s : Shared}
theorem st_new {t0 : Addr} {Q : Unit → Shared → Prop} (SF : StoreFacts B bmB "object.__setattr__" "object") (X : K.In s.heap) (hx : s.heap.get? x = some (exI C t0 none))
    (hcd : clsIn K C = some cd) (hh : cd.hasDict = true) (ov : excOver K C bmB = true) (sa : findIn K (.ref C) "__setattr__" = some (some (.builtin "object.__setattr__"))) (nf : findIn K (.ref C) f = some none)
    (hq : ∀ h' tk dx, (∀ b o, b ≠ x → s.heap.get? b = some o → h'.get? b = some o) → s.heap.objs.size ≤ dx → dx ≠ x → s.heap.objs.size ≤ h'.objs.size →
      h'.get? x = some (exI C t0 (some dx)) → h'.Ns1 dx (fun y => if y = f then some v else none) → Q () { s with heap := h', toks := tk }) :
    wpAny (model prog w) A (setAttr (.ref x) f v) Q E s := by
  obtain ⟨hp, g, d, t, os⟩ := s
  have I : InstAt hp x (exI C t0 none) C none := ⟨hx, rfl, rfl, trivial⟩
  have xs : x ≠ hp.objs.size := Nat.ne_of_lt (Heap.lt_size hx)
  have L : Looks (model prog w) hp (classData C) cd := looks_clsIn X hcd
  have tk : takerIn K C f = some none := by unfold takerIn; rw [nf]; rfl
  refine set_plain X I sa (osa_openX (s := ⟨hp, g, d, t + 1, os⟩) SF X I ov tk fun b => ?_)
  obtain ⟨c1, c2, c3, c4, c5, c6, c7, c8, c9, c10, c11⟩ := cd
  dsimp only at hh
  subst hh
  dsimp only
  unfold Builtin.ObjectAttr.storeInOwnDict Builtin.ObjectAttr.ownDictForStores
  repeat (first | with_reducible refine store_in_new ?_ ?_ | with_reducible refine wpAny_loadPart_at hx ?_ | with_reducible refine L.at ?_ | wp_step)
  · exact ⟨_, #[], _, (Heap.get?_update_ne _ _ _ _ xs.symm).trans (Heap.get?_push_at rfl rfl), rfl, fun e he => absurd he (by simp), fun _ => rfl⟩
  · intro h' tk' hn' hs
    have hx1 : (hp.push { cls := .type "dict", data := .dict #[] }).get? x = some (exI C t0 none) := Heap.get?_push_of_some _ hx
    refine hq h' tk' hp.objs.size (fun b o hb ho => ?_) (Nat.le_refl _) xs.symm ?_ ?_ hn'
    · have z1 := Heap.get?_push_of_some { cls := .type "dict", data := .dict #[] } ho
      exact (hs.2 b (Nat.ne_of_lt (Heap.lt_size ho))).trans ((Heap.get?_update_ne _ _ _ _ hb).trans z1)
    · have z := (hn'.lt : hp.objs.size < h'.objs.size)
      exact Nat.le_of_lt z
    · exact (hs.2 x xs).trans (Heap.get?_update_self _ hx1 rfl)
theorem st_old {t0 dx : Addr} {m0 : Str → Option Value} {nl : List Str} {Q : Unit → Shared → Prop} (SF : StoreFacts B bmB "object.__setattr__" "object") (X : K.In s.heap) (hx : s.heap.get? x = some (exI C t0 (some dx)))
    (hns : s.heap.Ns1 dx m0) (hw : Within m0 nl) (hz : nl.length ≤ 1000)
    (hcd : clsIn K C = some cd) (hh : cd.hasDict = true) (ov : excOver K C bmB = true) (sa : findIn K (.ref C) "__setattr__" = some (some (.builtin "object.__setattr__"))) (nf : findIn K (.ref C) f = some none)
    (hq : ∀ h' tk, (∀ b o, b ≠ dx → s.heap.get? b = some o → h'.get? b = some o) → s.heap.objs.size ≤ h'.objs.size → h'.Ns1 dx (fun y => if y = f then some v else m0 y) → Q () { s with heap := h', toks := tk }) :
    wpAny (model prog w) A (setAttr (.ref x) f v) Q E s := by
  obtain ⟨hp, g, d, t, os⟩ := s
  obtain ⟨oD, _, _, hoD, _, _⟩ := hns.count hw
  have I : InstAt hp x (exI C t0 (some dx)) C (some oD) := ⟨hx, rfl, rfl, hoD⟩
  have L : Looks (model prog w) hp (classData C) cd := looks_clsIn X hcd
  have tk : takerIn K C f = some none := by unfold takerIn; rw [nf]; rfl
  refine set_plain X I sa (osa_openX (s := ⟨hp, g, d, t + 1, os⟩) SF X I ov tk fun b => ?_)
  obtain ⟨c1, c2, c3, c4, c5, c6, c7, c8, c9, c10, c11⟩ := cd
  dsimp only at hh
  subst hh
  dsimp only
  unfold Builtin.ObjectAttr.storeInOwnDict Builtin.ObjectAttr.ownDictForStores
  repeat (first | with_reducible refine ESX.store_in_old hns hw hz ?_ | with_reducible refine wpAny_loadPart_at hx ?_ | with_reducible refine L.at ?_ | wp_step)
  intro h' tk' hn' hs
  exact hq h' tk' (fun b o hb ho => (hs.2 b hb).trans ho) (Nat.le_of_eq hs.1.symm) hn'
/-- initId bound to x, called -/
theorem run_bound {u t0 : Addr} {rest : List Value} {Q : Value → Shared → Prop} (FB : ExcBaseFacts B newId initId bmB) (X : K.In s.heap) (q : excInitIn K C bmB newId = true)
    (hx : s.heap.get? x = some (exI C t0 none)) (hu : s.heap.get? u = some (kxs_mw initId x)) (hz : rest.length ≤ sizeLine)
    (hq : ∀ h' t1, (∀ b o, b ≠ x → s.heap.get? b = some o → h'.get? b = some o) → s.heap.objs.size ≤ h'.objs.size → h'.get? x = some (exI C t1 none) → Q .none { s with heap := h' }) :
    wpAny (model prog w) A (call (.ref u) rest) Q E s := by
  obtain ⟨nm, N', qn, bs, bm, hdct, sn, sub, ab, col, dd, k0, k1, k2, k3, k5, hC, hT⟩ := excInit_of X q
  obtain ⟨hh, g, d, tk, os⟩ := s
  refine wpAny_call (codeAny_of_tree ?_)
  show wpAny _ A.in1 (callAny (.ref u) ⟨rest, []⟩) _ _ _
  simp only [callAny]
  refine wpAny_bind (wpAny_load hu ?_)
  simp only [kxs_mw, show (Value.type "method-wrapper" == Value.type "method" || Value.type "method-wrapper" == Value.type "builtin_function_or_method" || Value.type "method-wrapper" == Value.type "method-wrapper") = true from by decide, if_true]
  refine KFB.if_so (by decide) ?_
  refine wpAny_bind (check_bound_init FB.toExcCallFacts hC hx rfl (wpAny_bind (wpAny_pure (wpAny_pure ?_))))
  refine ⟨plainId_quiet FB.init.plain _, codeAny_builtin FB.initEntry ?_⟩
  refine exc_init_tree (cls := .ref C) (t0 := t0) (dv := none) (c2 := .none) (c3 := .none) (b4 := .bool false) hx hz fun h' k e et => ?_
  exact hq h' _ k (Nat.le_of_lt (Heap.lt_size et)) e
/-- .. all in one row -/
def OneRow (tx : Str) (p0 p1 p2 p3 p4 : Pos) : Prop := ∃ pl : Sem Bool, ∀ env : Env, eval (.Call (.Attribute (.Call (.Name "super" p0) [] [] p1) "__init__" p2) [.Constant (.str tx) 0 p3] [] p4) env = (do
  let ov ← attributeBase (.Call (.Name "super" p0) [] [] p1) "__init__" env (eval (.Call (.Name "super" p0) [] [] p1) env)
  standAt p2.atName
  let (f, first) ← holding [ov] (getMethod ov "__init__" pl)
  callWith p4 f first (backTo p4 (starEach [.Constant (.str tx) 0 p3] env)) [])
/-- super().__init__(text), in the def's own frame -/
theorem ex_super {t0 L fI cda cc : Addr} {scope : Scope} {qual : Str} {body : List Stmt} {tx : Str} {p0 p1 p2 p3 p4 p5 : Pos} {m mg mb : Str → Option Value} {fd : FuncData} {oc ccl cl : Value} {od cdd cld : Option Addr} {osl ccs csl : Array (Option Value)} {ar : Arg} {vs : Array Value} {file : Str} {tf : Tok} {Q : Flow → Shared → Prop}
    (row : OneRow tx p0 p1 p2 p3 p4) (FB : ExcBaseFacts B newId initId bmB) (KF : KxsFacts B initId) (X : K.In s.heap) (q : excInitIn K C bmB newId = true) (hcd : clsIn K C = some cd)
    (hg : s.heap.Ns mainGlobals mg) (hm : mg "super" = none) (hb : s.heap.Ns builtinsNs mb) (hbs : mb "super" = some (.type "super"))
    (hL : s.heap.Ns L m) (hv : m "self" = some (.ref x)) (hx : s.heap.get? x = some (exI C t0 none))
    (lf : K.lookup fI = some ⟨oc, od, .func fd, osl⟩) (hp : (fd.params.posonlyargs ++ fd.params.args).head? = some ar) (har : ar.arg = "self")
    (lc : K.lookup cda = some ⟨ccl, cdd, .fields vs, ccs⟩) (hvs : vs[2]? = some (.str file tf)) (hfile : ((prog.main.file : Str) == file) = true) (htop : (prog.main.scope.names.lookup ("super" : Str)).isSome = false)
    (lcell : K.lookup cc = some ⟨cl, cld, .cell (some (.ref C)), csl⟩) (hsub : mroIn K C (.ref C) = some true) (opq : nsIn K cStatics "thirdparty.any" = some none)
    (hsup : alongIn K "__init__" ((cd.mro.dropWhile (· != .ref C)).drop 1) = some (some (.builtin initId))) (hB : subIn K (.ref C) (.type B) = some true)
    (hk : scope.kind = .function) (hks : scope.names.lookup ("super" : Str) = some .globalImplicit) (hkc : scope.names.lookup ("__class__" : Str) = some .free) (hka : scope.names.lookup ("self" : Str) = some .local)
    (hq : ∀ h' tk t1, (∀ b o, b ≠ x → s.heap.get? b = some o → h'.get? b = some o) → s.heap.objs.size ≤ h'.objs.size → h'.get? x = some (exI C t1 none) → Q .next { s with heap := h', toks := tk }) :
    _root_.PySem.wpAt (model prog w) A (.func body (ksEnv qual scope L fI (.ref cda) cc)) (exec (supS tx p0 p1 p2 p3 p4 p5) (ksEnv qual scope L fI (.ref cda) cc)) Q E s := by
  have I : InstAt s.heap x (exI C t0 none) C none := ⟨hx, rfl, rfl, trivial⟩
  have xC : x ≠ C := ks_ne X I hcd
  obtain ⟨hh, g, d, t, os⟩ := s
  obtain ⟨oD, hD1, hD2⟩ : ∃ oD, hh.get? C = some oD ∧ oD.data = .cls cd := by
    unfold clsIn at hcd
    split at hcd
    · rename_i c d cd' sl ho
      cases hcd
      exact ⟨_, X _ _ ho, rfl⟩
    · cases hcd
  obtain ⟨pl, row⟩ := row
  obtain ⟨kd, nms, g1, g2, mo⟩ := scope
  dsimp only at hk hks hkc hka
  subst hk
  refine ks_wpAt_Expr_any (ks_wpAt_MethodCall (pl := pl) ?_ (row _))
  refine ks_wpAt_super_base (env := ksEnv qual ⟨.function, nms, g1, g2, mo⟩ L fI (.ref cda) cc) hks hkc (by decide) rfl (X _ _ lf) rfl hp rfl (X _ _ lc) rfl hvs hfile htop ?_
  refine ks_loadName_global rfl hks (loadGlobal_builtin (env := ksEnv qual ⟨.function, nms, g1, g2, mo⟩ L fI (.ref cda) cc) hg hm hb hbs ⟨rfl, ?_⟩)
  refine wpAny_loadName_free rfl hkc rfl ⟨_, X _ _ lcell, rfl⟩ ?_
  rw [har]
  refine wpAny_loadName_local rfl hka hL hv (ks_wpAny_isType_cls hD1 hD2 ⟨rfl, ?_⟩)
  refine ks_wpAny_call_super hD1 hD2 hx rfl (fun c e => by cases e) (looks_mroIn X hsub) (fun h1 e1 k1 => ?_)
  have X1 : K.In h1 := X.keeps k1
  have I1 : InstAt h1 x (exI C t0 none) C none := ⟨k1 _ _ hx, rfl, rfl, trivial⟩
  refine kxs_getMethod KF e1 (looks_opaque X1 opq) (l₀ := cd.mro) ?_ rfl X1 hsup (I1.type.andThen (looks_subIn X1 hB)) xC (by decide) ?_
  · exact fun A Q E s k q => wpAny_bind ((looks_clsIn X1 hcd) A _ E s k (wpAny_pure q))
  have k2 : ∀ b o, hh.get? b = some o → (h1.push (kxs_mw initId x)).get? b = some o := fun b o e => Heap.get?_push_of_some _ (k1 b o e)
  have hu : (h1.push (kxs_mw initId x)).get? h1.objs.size = some (kxs_mw initId x) := Heap.get?_push_at rfl rfl
  refine kxs_callWith (i := initId) (x := x) rfl ?_
  refine evalArgs_plain (spliced_cons (Calls.Constant_str (k := 0) (pos := p3) (spliced_nil ⟨hu, ?_⟩)))
  refine run_bound FB (X.keeps k2) q (k2 _ _ hx) hu (by rw [sizeLine_eq]; exact (by decide : 1 ≤ 16777216)) fun h' t1 k sz e => ?_
  have sz1 : hh.objs.size ≤ h1.objs.size := Nat.le_of_lt (Heap.lt_size e1)
  have sz2 : h1.objs.size ≤ (h1.push (kxs_mw initId x)).objs.size := Nat.le_of_lt (Heap.lt_size hu)
  exact hq h' _ t1 (fun b o hb ho => k b o hb (k2 b o ho)) (Nat.le_trans sz1 (Nat.le_trans sz2 sz)) e
inductive Flds : List Stmt → List Str → Prop
  | nil : Flds [] []
  | cons {f : Str} {q1 q2 q3 q4 : Pos} {r : List Stmt} {fs : List Str} : Flds r fs → Flds (fldS f q1 q2 q3 q4 :: r) (f :: fs)
/-- the exception at x, with these fields so far -/
def Held (h : Heap) (lo : Nat) (x C : Addr) : List (Str × Value) → Prop
  | [] => ∃ t1, h.get? x = some (exI C t1 none)
  | m => ∃ t1 dx, lo ≤ dx ∧ dx ≠ x ∧ h.get? x = some (exI C t1 (some dx)) ∧ h.Ns1 dx (fun y => m.lookup y)
theorem look_put (f y : Str) (v : Value) (m : List (Str × Value)) : ((f, v) :: m).lookup y = if y = f then some v else m.lookup y := by
  by_cases h : y = f
  · subst h
    simp [List.lookup]
  · have e : (y == f) = false := by simpa using h
    rw [if_neg h]
    simp [List.lookup, e]
theorem look_in : ∀ (m : List (Str × Value)), Within (fun y => m.lookup y) (m.map (·.1))
  | [], y, h => absurd rfl h
  | (f, v) :: m, y, h => by
    have h' : ((f, v) :: m).lookup y ≠ none := h
    rw [look_put] at h'
    by_cases e : y = f
    · rw [e]
      exact List.mem_cons_self
    · rw [if_neg e] at h'
      exact List.mem_cons_of_mem _ (look_in m y h')
theorem run_flds {L fI : Addr} {cdv : Value} {cc : Addr} {h0 : Heap} {nms : List (Str × NameKind)} {g1 g2 : Bool} {mo : List (Str × Const)} {qual : Str} {m : Str → Option Value} {Q : Flow → Shared → Prop}
    (SF : StoreFacts B bmB "object.__setattr__" "object") (X : K.In h0) (hnx : K.lookup x = none) (hL : h0.Ns L m) (hLx : L ≠ x) (hself : m "self" = some (.ref x)) (hka : nms.lookup ("self" : Str) = some .local)
    (hcd : clsIn K C = some cd) (hh : cd.hasDict = true) (ov : excOver K C bmB = true) (sa : findIn K (.ref C) "__setattr__" = some (some (.builtin "object.__setattr__"))) :
    ∀ {rest : List Stmt} {fs : List Str}, Flds rest fs → ∀ (acc : List (Str × Value)) (us : List Value) (s : Shared), (∀ b o, b ≠ x → h0.get? b = some o → s.heap.get? b = some o) → h0.objs.size ≤ s.heap.objs.size → Held s.heap h0.objs.size x C acc →
      (∀ p ∈ fs.zip us, m p.1 = some p.2) → us.length = fs.length → acc.length + fs.length ≤ 900 → (∀ f ∈ fs, nms.lookup f = some .local ∧ findIn K (.ref C) f = some none ∧ (f == ("__debug__" : Str)) = false) →
      (∀ h' tk, (∀ b o, b ≠ x → h0.get? b = some o → h'.get? b = some o) → h0.objs.size ≤ h'.objs.size → Held h' h0.objs.size x C ((fs.zip us).reverse ++ acc) → Q .next { s with heap := h', toks := tk }) →
      wpAny (model prog w) A (execs rest (ksEnv qual ⟨.function, nms, g1, g2, mo⟩ L fI cdv cc)) Q E s := by
  intro rest fs hF
  induction hF with
  | nil =>
    intro acc us s k sz hd _ hl _ _ hq
    obtain rfl : us = [] := List.eq_nil_of_length_eq_zero hl
    exact wpAny_execs_nil (hq s.heap s.toks k sz hd)
  | @cons f q1 q2 q3 q4 r fs hr ih =>
    intro acc us s k sz hd hv hl hz hf hq
    obtain ⟨u, us, rfl⟩ : ∃ u us', us = u :: us' := by
      cases us with
      | nil => simp at hl
      | cons u us => exact ⟨u, us, rfl⟩
    obtain ⟨f1, f2, f3⟩ := hf f List.mem_cons_self
    have eu : m f = some u := hv (f, u) List.mem_cons_self
    have XK : K.In s.heap := fun a o e => k a o (fun z => by rw [z, hnx] at e; cases e) (X a o e)
    have nsL : s.heap.Ns L m := by
      obtain ⟨oL, es, ep, eL, r⟩ := hL
      exact ⟨oL, es, ep, k _ _ hLx eL, r⟩
    refine wpAny_execs_cons (plainObj_wpAny_Assign_Attribute (wpAny_Name (wpAny_loadName_local rfl f1 nsL eu (wpAny_Name (wpAny_loadName_local rfl hka nsL hself ?_) (by decide))) f3))
    have fin : ∀ h' tk, (∀ b o, b ≠ x → h0.get? b = some o → h'.get? b = some o) → h0.objs.size ≤ h'.objs.size → Held h' h0.objs.size x C ((f, u) :: acc) →
        wpAny (model prog w) A (execs r (ksEnv qual ⟨.function, nms, g1, g2, mo⟩ L fI cdv cc)) Q E { s with heap := h', toks := tk } := fun h' tk k' sz' hd' => by
      refine ih ((f, u) :: acc) us { s with heap := h', toks := tk } k' sz' hd' (fun p hp => hv p (List.mem_cons_of_mem _ hp)) (by simpa using hl) (by simp at hz ⊢; omega) (fun g hg => hf g (List.mem_cons_of_mem _ hg)) fun h2 tk2 k2 sz2 hd2 => ?_
      refine hq h2 tk2 k2 sz2 ?_
      show Held h2 _ x C (((f, u) :: fs.zip us).reverse ++ acc)
      rw [List.reverse_cons, List.append_assoc]
      exact hd2
    have lt0 : ∀ {b : Addr} {o : Obj} {dx : Nat}, h0.get? b = some o → h0.objs.size ≤ dx → b ≠ dx := fun {b o dx} e z => Nat.ne_of_lt (Nat.lt_of_lt_of_le (Heap.lt_size e) z)
    cases acc with
    | nil =>
      obtain ⟨t1, hx⟩ := hd
      refine st_new SF XK hx hcd hh ov sa f2 fun h' tk dx kk dn dne szn hx' hn => fin h' tk (fun b o hb e => kk b o hb (k b o hb e)) (Nat.le_trans sz szn) ⟨t1, dx, Nat.le_trans sz dn, dne, hx', ?_⟩
      have e : (fun y => List.lookup y [(f, u)]) = fun y => if y = f then some u else none := by
        funext y
        exact look_put f y u []
      rw [e]
      exact hn
    | cons a acc =>
      obtain ⟨t1, dx, dn, dne, hx, hn⟩ := hd
      refine st_old SF XK hx hn (look_in (a :: acc)) (by simp at hz ⊢; omega) hcd hh ov sa f2 fun h' tk kk szn hn' => fin h' tk (fun b o hb e => kk b o (lt0 e dn) (k b o hb e)) (Nat.le_trans sz szn) ⟨t1, dx, dn, dne, kk x _ dne.symm hx, ?_⟩
      have e : (fun y => List.lookup y ((f, u) :: a :: acc)) = fun y => if y = f then some u else List.lookup y (a :: acc) := by
        funext y
        exact look_put f y u _
      rw [e]
      exact hn'
end
/-- the written text of such an __init__ -/
structure Txt (st : Stmt) (fs : List Str) : Prop where
  ne : fs ≠ []
  few : fs.length ≤ 900
  kind : (defScope st).kind = .function
  co : (defScope st).isCoroutine = false
  gen : (defScope st).isGenerator = false
  nocell : ∀ x ∈ (defScope st).names, x.2 ≠ .cell
  ls : (defScope st).names.lookup ("super" : Str) = some .globalImplicit
  lc : (defScope st).names.lookup ("__class__" : Str) = some .free
  lself : (defScope st).names.lookup ("self" : Str) = some .local
  lf : ∀ f ∈ fs, (defScope st).names.lookup f = some .local ∧ (f == ("__debug__" : Str)) = false ∧ f ≠ "self"
  nd : fs.Nodup
  ar : ∃ a : Arg, ((defArgs st).posonlyargs ++ (defArgs st).args).head? = some a ∧ a.arg = "self"
  bd : ∀ (qual : Str) (doc pm cdv ct : Value) (an : Option Addr) (cc : Addr) (u : Value) (vs : List Value), vs.length = fs.length →
    bindArgs (ksFn "__init__" qual (defArgs st) (defBody st) (defScope st) .none .none doc pm an cdv ct cc) ⟨u :: vs, []⟩ = pure ((("self" : Str), u) :: fs.zip vs)
  body : ∃ tx p0 p1 p2 p3 p4 p5 rest, defBody st = supS tx p0 p1 p2 p3 p4 p5 :: rest ∧ OneRow tx p0 p1 p2 p3 p4 ∧ Flds rest fs
/-- what the top leaves of such a class -/
structure Cx' (P : Program) (K : Frag) (mg : Str → Option Value) (nm : Str) (st : Stmt) (fs : List Str) (B newId initId : String) (bmB : List Value) (C : Addr) : Prop where
  gC : mg nm = some (.ref C)
  ini : excInitIn K C bmB newId = true
  over : excOver K C bmB = true
  hd : hasDictIn K C = true
  sa : findIn K (.ref C) "__setattr__" = some (some (.builtin "object.__setattr__"))
  ga : findIn K (.ref C) "__getattribute__" = some (some (.builtin "BaseException.__getattribute__"))
  gg : findIn K (.ref C) "__getattr__" = some none
  noF : ∀ f ∈ fs, findIn K (.ref C) f = some none
  kC : keepIn K (.ref C) = true
  exC : subIn K (.ref C) (.type "BaseException") = some true
  tyC : typeIn K (.ref C) = some (.type "type")
  hB : subIn K (.ref C) (.type B) = some true
  hsub : mroIn K C (.ref C) = some true
  opq : nsIn K cStatics "thirdparty.any" = some none
  sup : ks_superIn K C C "__init__" = some (some (.builtin initId))
  mgs : mg "super" = none
  top : (P.main.scope.names.lookup ("super" : Str)).isSome = false
  fn : ∃ (fI : Addr) (oc : Value) (od : Option Addr) (qual : Str) (doc pm : Value) (an : Option Addr) (cda : Addr) (ct : Value) (cc : Addr) (osl : Array (Option Value)), findIn K (.ref C) "__init__" = some (some (.ref fI)) ∧ typeIn K (.ref fI) = some (.type "function") ∧
    K.lookup fI = some ⟨oc, od, .func (ksFn "__init__" qual (defArgs st) (defBody st) (defScope st) .none .none doc pm an (.ref cda) ct cc), osl⟩ ∧ codeIn K (.ref cda) qual = true ∧
    (∃ (cl : Value) (cld : Option Addr) (csl : Array (Option Value)), K.lookup cc = some ⟨cl, cld, .cell (some (.ref C)), csl⟩) ∧
    ∃ (ccl : Value) (cdd : Option Addr) (vs : Array Value) (ccs : Array (Option Value)) (file : Str) (tf : Tok), K.lookup cda = some ⟨ccl, cdd, .fields vs, ccs⟩ ∧ vs[2]? = some (.str file tf) ∧ ((P.main.file : Str) == file) = true
structure Base (B newId initId : String) (bmB : List Value) : Prop where
  FB : ExcBaseFacts B newId initId bmB
  KF : KxsFacts B initId
  SF : StoreFacts B bmB "object.__setattr__" "object"
theorem base_Lookup : Base "LookupError" "LookupError.__new__" "LookupError.__init__" [.type "LookupError", .type "Exception", .type "BaseException", .type "object"] := ⟨F.excBase_LookupError, kxs_LookupError, F.store_LookupError⟩
theorem base_Runtime : Base "RuntimeError" "RuntimeError.__new__" "RuntimeError.__init__" [.type "RuntimeError", .type "Exception", .type "BaseException", .type "object"] := ⟨F.excBase_RuntimeError, kxs_RuntimeError, F.store_RuntimeError⟩
theorem base_Arith : Base "ArithmeticError" "ArithmeticError.__new__" "ArithmeticError.__init__" [.type "ArithmeticError", .type "Exception", .type "BaseException", .type "object"] := ⟨F.excBase_ArithmeticError, kxs_ArithmeticError, F.store_ArithmeticError⟩
theorem base_Value : Base "ValueError" "ValueError.__new__" "ValueError.__init__" [.type "ValueError", .type "Exception", .type "BaseException", .type "object"] := ⟨F.excBase_ValueError, kxs_ValueError, F.store_ValueError⟩
theorem zip_look {β : Type} : ∀ {fs : List Str} {us : List β} (p : Str × β), fs.Nodup → p ∈ fs.zip us → (fs.zip us).reverse.lookup p.1 = some p.2
  | [], _, p, _, h => by simp at h
  | _ :: _, [], p, _, h => by simp at h
  | f :: fs, u :: us, p, nd, h => by
    rw [List.zip_cons_cons, List.reverse_cons, List.lookup_append]
    obtain ⟨n1, n2⟩ := List.nodup_cons.mp nd
    rcases List.mem_cons.mp h with rfl | h
    · have e : List.lookup f (fs.zip us).reverse = none := by
        rw [List.lookup_eq_none_iff]
        intro q hq
        have := (List.of_mem_zip (List.mem_reverse.mp hq)).1
        have hne : q.1 ≠ f := fun z => n1 (by rw [← z]; exact this)
        exact by simpa using Ne.symm hne
      rw [e]
      simp [List.lookup]
    · rw [zip_look p n2 h]
      rfl
section
variable {P : Program} {w : World} {A : Around} {R : Result → Shared → Prop} {K : Frag} {mg mb : Str → Option Value} {nm : Str} {st : Stmt} {fs : List Str} {B newId initId : String} {bmB : List Value} {C : Addr} {s : Shared}
theorem run_init {x t0 : Addr} {us : List Value} (T : Cx' P K mg nm st fs B newId initId bmB C) (TT : Txt st fs) (BB : Base B newId initId bmB) {fI : Addr} (iC : findIn K (.ref C) "__init__" = some (some (.ref fI)))
    (X : K.In s.heap) (hg : s.heap.Ns mainGlobals mg) (hb : s.heap.Ns builtinsNs mb) (hbs : mb "super" = some (.type "super")) (hlim : s.heap.NoLimit) (hx : s.heap.get? x = some (exI C t0 none)) (hnx : K.lookup x = none)
    (hroom : A.depth < recursionLimit) (hl : us.length = fs.length)
    (hq : ∀ h' tk t1 dx, (∀ b o, b ≠ x → s.heap.get? b = some o → h'.get? b = some o) → s.heap.objs.size ≤ dx → dx ≠ x → h'.get? x = some (exI C t1 (some dx)) → h'.Ns1 dx (fun y => (fs.zip us).reverse.lookup y) → R (.ok (.ret .none)) { s with heap := h', toks := tk }) :
    codeAny (model P w) A (.call (.ref fI) ⟨.ref x :: us, []⟩) R s := by
  obtain ⟨fI', oc, od, qual, doc, pm, an, cda, ct, cc, osl, i1, i2, i3, i4, ⟨cl, cld, csl, i5⟩, ccl, cdd, vs, ccs, file, tf, i6, i7, i8⟩ := T.fn
  have e := i1.symm.trans iC
  cases e
  obtain ⟨tx, p0, p1, p2, p3, p4, p5, rest, eb, row, hF⟩ := TT.body
  obtain ⟨ar, a1, a2⟩ := TT.ar
  obtain ⟨cd, hcd, hh⟩ : ∃ cd, clsIn K C = some cd ∧ cd.hasDict = true := by
    have z := T.hd
    unfold hasDictIn at z
    cases c : clsIn K C with
    | none => rw [c] at z; cases z
    | some cd => exact ⟨cd, rfl, by rw [c] at z; exact z⟩
  have hsup : alongIn K "__init__" ((cd.mro.dropWhile (· != .ref C)).drop 1) = some (some (.builtin initId)) := by
    have z := T.sup
    unfold ks_superIn at z
    rw [hcd] at z
    exact z
  have kd := TT.kind
  have loc : ∀ y ∈ ((("self" : Str), Value.ref x) :: fs.zip us), (defScope st).names.lookup y.1 = some .local := fun y hy => by
    rcases List.mem_cons.mp hy with rfl | hy
    · exact TT.lself
    · exact (TT.lf _ (List.of_mem_zip hy).1).1
  refine ks_codeAny_call_defAt (fd := ksFn "__init__" qual (defArgs st) (defBody st) (defScope st) .none .none doc pm an (.ref cda) ct cc) (body := defBody st) (binds := (("self" : Str), .ref x) :: fs.zip us) hroom (X _ _ i3) rfl hlim
    (codeRec_of X i4) rfl (BindsTo.of_eq (TT.bd _ _ _ _ _ _ _ _ _ hl)) TT.nocell loc (fun h0 hns k => ?_) TT.co TT.gen TT.kind
  have X0 : K.In h0 := X.keeps k
  have Lx : s.heap.objs.size ≠ x := Nat.ne_of_gt (Heap.lt_size hx)
  have hm0 : ((("self" : Str), Value.ref x) :: fs.zip us).reverse.lookup ("self" : Str) = some (Value.ref x) := by
    rw [List.reverse_cons, List.lookup_append]
    have e : List.lookup ("self" : Str) (fs.zip us).reverse = none := by
      rw [List.lookup_eq_none_iff]
      intro q hq
      have := (TT.lf _ (List.of_mem_zip (List.mem_reverse.mp hq)).1).2.2
      exact by simpa using Ne.symm this
    rw [e]
    rfl
  have hmf : ∀ p ∈ fs.zip us, ((("self" : Str), Value.ref x) :: fs.zip us).reverse.lookup p.1 = some p.2 := fun p hp => by
    rw [List.reverse_cons, List.lookup_append, zip_look p TT.nd hp]
    rfl
  have hlf := TT.lf
  have hls := TT.ls
  have hlc := TT.lc
  have hlself := TT.lself
  have eE : callEnv (ksFn "__init__" qual (defArgs st) (defBody st) (defScope st) .none .none doc pm an (.ref cda) ct cc) s.heap.objs.size fI = ksEnv qual (defScope st) s.heap.objs.size fI (.ref cda) cc := rfl
  rw [eE]
  generalize hsc : defScope st = sc at i3 kd hlf hls hlc hlself
  obtain ⟨kk, nms, g1, g2, mo⟩ := sc
  dsimp only at kd hlf hls hlc hlself
  subst kd
  have szL : s.heap.objs.size < h0.objs.size := hns.lt
  rw [eb]
  refine ks_wpAt_execs_cons (ex_super (s := { s with heap := h0, toks := _ }) (fd := ksFn "__init__" qual (defArgs st) (defBody st) ⟨.function, nms, g1, g2, mo⟩ .none .none doc pm an (.ref cda) ct cc) row BB.FB BB.KF X0 T.ini hcd (hg.keeps k) T.mgs (hb.keeps k) hbs hns hm0 (k _ _ hx) i3 a1 a2 i6 i7 i8 T.top i5 T.hsub T.opq hsup T.hB rfl hls hlc hlself
    fun h1 tk t1 k1 sz1 e1 => ?_)
  refine wpAt_of_wpAny (run_flds (h0 := h0) BB.SF X0 hnx hns Lx hm0 hlself hcd hh T.over T.sa hF [] us { s with heap := h1, toks := tk } k1 sz1 ⟨t1, e1⟩ hmf hl (by have := TT.few; simpa using this) (fun f hf => ⟨(hlf f hf).1, T.noF f hf, (hlf f hf).2.1⟩) fun h2 tk2 k2 sz2 hd2 => ?_)
  rw [List.append_nil] at hd2
  have nn : (fs.zip us).reverse ≠ [] := by
    have := TT.ne
    cases fs with
    | nil => exact absurd rfl this
    | cons f fs =>
      cases us with
      | nil => simp at hl
      | cons u us => simp
  cases er : (fs.zip us).reverse with
  | nil => exact absurd er nn
  | cons a m =>
    rw [er] at hd2
    obtain ⟨t2, dx, dn, dne, hx2, hn2⟩ := hd2
    rw [er] at hq
    exact hq h2 tk2 t2 dx (fun b o hb e => k2 b o hb (k b o e)) (Nat.le_of_lt (Nat.lt_of_lt_of_le szL dn)) dne hx2 hn2
end
end EX
end Rc

namespace Rc
namespace EX
open PySem PySem.W PySem.Calls PyProof.Rows PySem.HandSPX
open L2 (defScope defBody defArgs)
section
variable {P : Program} {w : World} {A : Around} {R : Result → Shared → Prop} {K : Frag} {mg mb : Str → Option Value} {nm : Str} {st : Stmt} {fs : List Str} {B newId initId : String} {bmB : List Value} {C : Addr} {s : Shared}
/-- a new exception of the class, from its place e -/
structure Made (h h' : Heap) (e C d : Addr) (m : List (Str × Value)) : Prop where
  keep : ∀ b o, h.get? b = some o → h'.get? b = some o
  new : h.objs.size ≤ e
  obj : ∃ t1, h'.get? e = some (exI C t1 (some d))
  dbig : h.objs.size ≤ d
  dne : d ≠ e
  ns : h'.Ns1 d (fun y => m.lookup y)
theorem made {us : List Value} (T : Cx' P K mg nm st fs B newId initId bmB C) (TT : Txt st fs) (BB : Base B newId initId bmB)
    (X : K.In s.heap) (hg : s.heap.Ns mainGlobals mg) (hb : s.heap.Ns builtinsNs mb) (hbs : mb "super" = some (.type "super")) (hlim : s.heap.NoLimit)
    (hroom : A.depth + 1 < recursionLimit) (hl : us.length = fs.length)
    (hq : ∀ h' tk e d, Made s.heap h' e C d (fs.zip us).reverse → R (.ok (.ret (.ref e))) { s with heap := h', toks := tk }) :
    codeAny (model P w) A (.call (.ref C) ⟨us, []⟩) R s := by
  obtain ⟨nm', N', qn, bs, bm, hdct, sn, sub, ab, col, dd, k0, k1, k2, k3, k5, hC, hT⟩ := excInit_of X T.ini
  obtain ⟨fI, oc, od, qual, doc, pm, an, cda, ct, cc, osl, i1, i2, _⟩ := T.fn
  obtain ⟨hp, g, dr, tk, os⟩ := s
  have kp : ∀ b o, hp.get? b = some o → ((hp.push (kdv_tup us)).push (excO C hp.objs.size)).get? b = some o := fun b o e => Heap.get?_push_of_some _ (Heap.get?_push_of_some _ e)
  have hget : ((hp.push (kdv_tup us)).push (excO C hp.objs.size)).get? (hp.objs.size + 1) = some (exI C hp.objs.size none) := by heap_get
  have hnx : K.lookup (hp.objs.size + 1) = none := by
    cases e : K.lookup (hp.objs.size + 1) with
    | none => rfl
    | some o => exact absurd (Nat.lt_of_succ_lt (Heap.lt_size (X _ _ e))) (Nat.lt_irrefl _)
  have hfew : us.length ≤ sizeLine := by
    have := TT.few
    rw [hl, sizeLine_eq]
    omega
  refine call_own BB.FB hT hC (looks_findIn X i1) (fun self => bind_fn X self i2) hfew ?_
  refine run_init (s := ⟨(hp.push (kdv_tup us)).push (excO C hp.objs.size), g, dr, tk, os⟩) T TT BB i1 (X.keeps kp) (hg.keeps kp) (hb.keeps kp) hbs (hlim.keeps kp) hget hnx ?_ hl fun h' tk' t1 dx k' dn dne hx hns => ?_
  · show A.depth + 1 < recursionLimit
    exact hroom
  · have sz : hp.objs.size + 1 + 1 ≤ dx := by
      have q := dn
      simp only [Heap.size_push] at q
      exact q
    exact ⟨rfl, hq h' tk' (hp.objs.size + 1) dx ⟨fun b o e => k' b o (Nat.ne_of_lt (Nat.lt_succ_of_lt (Heap.lt_size e))) (kp b o e), Nat.le_succ _, ⟨_, hx⟩, (show hp.objs.size ≤ dx by omega), dne, hns⟩⟩
end
end EX
open PySem PySem.Spec PyProof.Rows L2
theorem look_rel : ∀ {fs : List Str} {vs : List V} {us : List Value}, Vals vs us → ∀ f : Str, RelO ((fs.zip vs).reverse.lookup f) ((fs.zip us).reverse.lookup f)
  | [], _, _, _, f => trivial
  | _ :: _, _, _, .nil, f => trivial
  | g :: fs, v :: vs, u :: us, .cons r rs, f => by
    rw [List.zip_cons_cons, List.zip_cons_cons, List.reverse_cons, List.reverse_cons, List.lookup_append, List.lookup_append]
    have ih := look_rel (fs := fs) rs f
    cases e1 : (fs.zip vs).reverse.lookup f with
    | some a =>
      cases e2 : (fs.zip us).reverse.lookup f with
      | some b => rw [e1, e2] at ih; exact ih
      | none => rw [e1, e2] at ih; exact ih.elim
    | none =>
      cases e2 : (fs.zip us).reverse.lookup f with
      | some b => rw [e1, e2] at ih; exact ih.elim
      | none =>
        show RelO (List.lookup f [(g, v)]) (List.lookup f [(g, u)])
        by_cases h : f = g
        · subst h
          simp [List.lookup]
          exact r
        · have hb : (f == g) = false := by simpa using h
          simp [List.lookup, hb]
          trivial
section
variable {X : Cx} {nm : Str} {st : Stmt} {fs : List Str} {B newId initId : String} {bmB : List Value} {C : Addr}
/-- C(e, ..) -/
def tMkE (C : Addr) (fs : List Str) (ta : TA) : L2.St → Hp → XK → Prop := fun σ H Q => ta σ H fun vs H1 => vs.length = fs.length ∧ ∀ d, H1 d = none → Q (.ref C) (some d) (upd H1 d (.xd (fs.zip vs).reverse))
theorem pmk_ex {e : Expr} {es : List Expr} {ta : TA} {p pos : Pos} {k : Nat} (T : EX.Cx' X.prog X.K X.mg nm st fs B newId initId bmB C) (TT : EX.Txt st fs) (BB : EX.Base B newId initId bmB) (hr : Room (k + 1) X.A) (ha : PA X (e :: es) ta) (hg : Gl X nm)
    (hdb : (nm == ("__debug__" : Str)) = false := by decide) (he : starEach (e :: es) X.env = (false, eval e X.env) :: starEach es X.env := by rfl) (hpl : (backTo pos (starEach es X.env)).any (·.1) = false := by rfl) :
    PMk X (.Call (.Name nm p) (e :: es) [] pos) (tMkE C fs ta) := by
  intro pins s σ H Q I h
  refine wpAny_Call_Name_kw (ld_glob I hg T.gC ?_ hdb)
  refine PySem.W.callWith_K (h₀ := X.base) I.ok.mod.kin T.kC (thn (ha.run pos pins s σ H _ I h) fun us s1 hh => ?_) he hpl
  obtain ⟨vs, H1, I1, r1, hl, q1⟩ := hh
  refine ⟨I1.kIn, ?_⟩
  show wpAny _ _ (call (.ref C) us) _ _ _
  obtain ⟨mb, b1, b2⟩ := I1.ok.mod.blt
  have hlim := I1.nolimit
  have kb := I1.bk
  obtain ⟨hp, g, dr, tk, os⟩ := s1
  refine wpAny_call (EX.made T TT BB I1.kIn (I1.ok.mod.glob.keeps kb) (b1.keeps kb) ((b2 _ (by decide)).trans (by decide +kernel : bootBuiltins "super" = some (.type "super"))) hlim (by have := hr.dp; omega) (r1.length.symm.trans hl) fun h' tk' a d M => ?_)
  show MkP X pins σ Q (.ref a) ⟨h', g, dr, tk', os⟩
  obtain ⟨t1, hoe⟩ := M.obj
  obtain ⟨G, g1, g2⟩ := restrict h' fun b => decide (b ≠ a)
  have gk : ∀ b, b ≠ a → G.get? b = h'.get? b := fun b hb => g1 b (decide_eq_true hb)
  have ge : G.get? a = none := g2 a (by simp)
  have old : ∀ b o, hp.get? b = some o → G.get? b = some o := fun b o q => (gk b (Nat.ne_of_lt (Nat.lt_of_lt_of_le (Heap.lt_size q) M.new))).trans (M.keep b o q)
  have ob : ObjOk X.prog X.w (upd H1 d (.xd (fs.zip vs).reverse)) G d (.xd (fs.zip vs).reverse) := ⟨_, M.ns.at (fun o q => (gk d M.dne).trans q), look_rel r1⟩
  have J : Inv X pins σ (upd H1 d (.xd (fs.zip vs).reverse)) ⟨G, g, dr, tk', os⟩ := I1.laid (t' := tk') old M.dbig ob
  refine ⟨a, _, _, ⟨G, g, dr, tk', os⟩, _, .ref C, some d, rfl, J, fun b o q => ?_, ge, hoe, ⟨rfl, rfl⟩, rfl, rfl, ?_, rfl, I1.bare, raises_own T.exC T.tyC, q1 d (I1.hok.fresh M.dbig)⟩
  · by_cases hb : b = a
    · have q' : G.get? b = some o := q
      rw [hb, ge] at q'
      cases q'
    · exact (gk b hb).symm.trans q
  · rw [upd_ne (Ne.symm M.dne)]
    exact I1.hok.fresh M.new
end
end Rc

namespace Rc
open PySem PySem.Spec PyProof.Rows L2
/-! ### several except clauses, with names or without -/
abbrev Suite := Addr → Value → Option Addr → TS
/-- behind a suite its name has gone -/
abbrev offD (i : Nat) (D : Ends) : Ends := { nx := fun τ G => D.nx (τ.set i none) G, rt := D.rt, bk := fun τ G => D.bk (τ.set i none) G, ct := fun τ G => D.ct (τ.set i none) G }
def wMix (K : PySem.W.Frag) (Wo : WX) (D : Ends) : List (Value × Option Nat × Suite) → WX
  | [] => Wo
  | (c, none, ts) :: r => fun cls d σ H => ∃ y, PySem.W.exmOne K cls c = some y ∧ (y = true → ∀ a, H a = none → ts a cls d D σ H) ∧ (y = false → wMix K Wo D r cls d σ H)
  | (c, some i, ts) :: r => fun cls d σ H => ∃ y, PySem.W.exmOne K cls c = some y ∧ (y = true → ∀ a, H a = none → ts a cls d (offD i D) (σ.set i (some (.ref a))) H) ∧ (y = false → wMix K Wo D r cls d σ H)
abbrev SuiteOk (X : Cx) (ss : List Stmt) (ts : Suite) : Prop := ∀ (a : Addr) (oe : Obj) (cls : Value) (d : Option Addr) (pn : List (Addr × Obj)), Zc cls d oe → (∃ vs, oe.data = .fields vs) → PSs (X.suite a ((a, oe) :: pn)) ss (ts a cls d)
inductive HdsX (X : Cx) : List ExceptHandler → List (Value × Option Nat × Suite) → Prop
  | nil : HdsX X [] []
  | plain {x : Str} {c : Value} {ts : Suite} {s0 : Stmt} {ss : List Stmt} {p1 p2 : Pos} {hs : List ExceptHandler} {l : List (Value × Option Nat × Suite)} (hc : Names X x c) (ok : SuiteOk X (s0 :: ss) ts) (r : HdsX X hs l) :
      HdsX X (.ExceptHandler (some (.Name x p1)) none (s0 :: ss) p2 :: hs) ((c, none, ts) :: l)
  | named {x n : Str} {i : Nat} {c : Value} {ts : Suite} {s0 : Stmt} {ss : List Stmt} {p1 p2 : Pos} {hs : List ExceptHandler} {l : List (Value × Option Nat × Suite)} (hi : X.N[i]? = some n) (hn : X.env.kindOf n = some .local) (hc : Names X x c) (ok : SuiteOk X (s0 :: ss) ts) (r : HdsX X hs l) :
      HdsX X (.ExceptHandler (some (.Name x p1)) (some n) (s0 :: ss) p2 :: hs) ((c, some i, ts) :: l)
section
variable {X : Cx} {body : List Stmt} {hd : ExceptHandler} {hds : List ExceptHandler} {l : List (Value × Option Nat × Suite)} {pos : Pos} {tb : WX → TS} {Wo : WX}
theorem ps_try_mix (est : X.stack = X.env :: X.outer) (efr : X.env.frame = some X.env.locals) (nd : X.N.Nodup) (tk : Takes X Wo)
    (hb : ∀ (W : WX) (pn : List (Addr × Obj)) (xe : Value → Shared → Prop), Takes (X.tr pn xe) W → PassesOwn (model X.prog X.w) X.A X.env xe → PSs (X.tr pn xe) body (tb W))
    (hh : HdsX X (hd :: hds) l) : PS X (.Try body (hd :: hds) [] [] pos) (fun D σ H => tb (wMix X.K Wo D l) D σ H) := by
  refine ⟨fun pins s σ H D I hw => ?_⟩
  have ok := I.ok
  have frs1 : X.A.frames = some (X.env :: X.outer) := ok.frames.trans (congrArg some est)
  refine wpAny_Try_except (wpAny_mono ((hb (wMix X.K Wo D l) (X.pn ++ pins) (fun u s1 => wpAny (model X.prog X.w) X.A (noteFrame u X.env) (fun _ s2 => wpAny (model X.prog X.w) X.A (setFlight u none) (fun _ s3 =>
    wpAny (model X.prog X.w) X.A (handleBy u X.env (hd :: hds)) (SP X pins D) X.xe s3) X.xe s2) X.xe s1) (fun u s' z => ?_) PassesOwn.looking).run [] s σ H D (I.toTry _) hw) (fun fl s1 z => ?_) (fun _ _ z => z))
  · obtain ⟨a, Bs, sI, pins', τ, G, cls, d, rfl, J', nb, up, sky, na, os, ag, ww⟩ := z
    have J : Inv X pins τ G sI := J'.ofTry ok
    have sky1 : Sky Bs (X.env :: X.outer) a (Zc cls d) X.env.locals s'.heap := est ▸ sky
    show wpAny (model X.prog X.w) X.A (noteFrame (.ref a) X.env) _ _ _
    refine Sky.land Zc.steady frs1 efr sky1 fun h3 fl3 up3 => ?_
    have J3 : Inv X pins τ G { s' with heap := h3 } := J.landed nb fl3.1 (up.trans up3) os ag
    obtain ⟨o3, v3, e3, z3, d3⟩ := fl3.there
    have nfr : a ∉ frs (X.env :: X.outer) := fun hm => by
      obtain ⟨_, o', e', no'⟩ := fl3.2.2.1.mem hm
      rw [e3] at e'
      cases e'
      exact no' _ d3
    have nL : a ≠ X.env.locals := fun y => nfr (List.mem_filterMap.mpr ⟨X.env, List.mem_cons_self, by rw [efr, y]⟩)
    have nF : a ∉ X.fs := fun hm => by
      obtain ⟨e, he, q⟩ := List.mem_filterMap.mp hm
      exact nfr (List.mem_filterMap.mpr ⟨e, .tail _ he, q⟩)
    have S3 := J3.suite e3 d3 na nL nF
    have LT : PySem.W.Looks (model X.prog X.w) h3 (typeOf (.ref a)) cls := fun A Q E s k q => wpAny_typeOf_ref (k _ _ e3) (by rw [z3.1]; exact q)
    have look : ∀ {x : Str} {c : Value} {np : Pos} {Q : Value → Shared → Prop} {E : Value → Shared → Prop}, Names X x c → Q c { s' with heap := h3 } → wpAny (model X.prog X.w) (X.A.mark (some (.ref a))) (eval (.Name x np) X.env) Q E { s' with heap := h3 } := fun {x c np Q E} hc q => by
      obtain ⟨hg, hdb, hm | ⟨hm, hv, hnn⟩⟩ := hc
      · exact ld_glob (X := X.suite a ((a, o3) :: (X.pn ++ pins))) S3 hg hm q hdb
      · exact ld_blt (X := X.suite a ((a, o3) :: (X.pn ++ pins))) S3 hg hm hv q hnn hdb
    have go : ∀ {hs' : List ExceptHandler} {l' : List (Value × Option Nat × Suite)}, HdsX X hs' l' → wMix X.K Wo D l' cls d τ G → wpAny (model X.prog X.w) X.A (handleBy (.ref a) X.env hs') (SP X pins D) X.xe { s' with heap := h3 } := by
      intro hs' l' hk
      induction hk with
      | nil =>
        intro wo
        refine wpAny_handleBy_nil ?_
        obtain ⟨k1, k2, k3, oe, vs, TB, oT, ts', he, hz, hdd, h1, hr⟩ := id fl3
        unfold PySem.passOn
        refine wpAny_bind (wpAny_field he hdd h1 ?_)
        rw [if_neg (show ¬ ((Value.ref TB == Value.none) = true) from by simp)]
        have last : wpAny (model X.prog X.w) X.A (setFlight (.ref a) X.env.frame) (fun _ s4 => wpAny (model X.prog X.w) X.A (throw (.ref a) : Sem Flow) (SP X pins D) X.xe s4) X.xe { s' with heap := h3 } := by
          rw [efr]
          refine HandSPX.setFlight_upZ fl3 fun h4 hh4 up4 => wpAny_throw (tk _ _ ⟨a, Bs, sI, pins, τ, G, cls, d, rfl, J, nb, (up.trans up3).trans up4, .inr (.inr (by rw [est]; exact hh4)), na, os, ag, wo⟩)
        first
          | exact wpAny_bind (wpAny_pure (wpAny_bind last))
          | exact wpAny_bind last
      | @plain x c ts s0 ss p1 p2 hs2 l2 hc sok r ih =>
        intro ⟨y, hy, yes, no⟩
        refine wpAny_handleBy_cons (codeAny_handlers_test ?_) (by intro q; cases q)
        refine look hc ((PySem.W.exm_one (M := model X.prog X.w) J3.kIn LT hy).here ?_)
        cases y with
        | false =>
          show wpAny _ X.A (handleBy (.ref a) X.env hs2) _ _ _
          exact ih (no rfl)
        | true =>
          refine codeAny_handlers_suite (HandSPX.lands_againZ fl3 fun h4 fl4 up4 => ?_)
          have J4 : Inv X pins τ G { s' with heap := h4 } := J.landed nb fl4.1 ((up.trans up3).trans up4) os ag
          obtain ⟨o4, v4, e4, z4, d4⟩ := fl4.there
          refine wpAny_mono ((sok a o4 cls d (X.pn ++ pins) z4 ⟨_, d4⟩).run [] _ _ G _ (J4.suite e4 d4 na nL nF) (yes rfl a na)) (fun fl s6 z6 => ?_) (fun _ _ z => False.elim z)
          cases fl with
          | next => exact let ⟨_, _, S6, q6⟩ := z6; ⟨_, _, S6.unsuite ok, q6⟩
          | brk => exact let ⟨_, _, S6, q6⟩ := z6; ⟨_, _, S6.unsuite ok, q6⟩
          | cont => exact let ⟨_, _, S6, q6⟩ := z6; ⟨_, _, S6.unsuite ok, q6⟩
          | ret u => exact let ⟨_, _, _, S6, r6, q6⟩ := z6; ⟨_, _, _, S6.unsuite ok, r6, q6⟩
      | @named x n i c ts s0 ss p1 p2 hs2 l2 hi hn hc sok r ih =>
        intro ⟨y, hy, yes, no⟩
        refine wpAny_handleBy_cons (codeAny_handlers_test ?_) (by intro q; cases q)
        refine look hc ((PySem.W.exm_one (M := model X.prog X.w) J3.kIn LT hy).here ?_)
        cases y with
        | false =>
          show wpAny _ X.A (handleBy (.ref a) X.env hs2) _ _ _
          exact ih (no rfl)
        | true =>
          refine codeAny_handlers_suite_as (HandSPX.lands_againZ fl3 fun h4 fl4 up4 => ?_)
          have J4 : Inv X pins τ G { s' with heap := h4 } := J.landed nb fl4.1 ((up.trans up3).trans up4) os ag
          obtain ⟨o4, v4, e4, z4, d4⟩ := fl4.there
          refine store_ok (X := X.suite a ((a, o4) :: (X.pn ++ pins))) (v := .ref a) (J4.suite e4 d4 na nL nF) nd hi (.inl hn) rfl (fun s5 S5 => ?_) (.inr hn)
          refine wpAny_mono ((sok a o4 cls d (X.pn ++ pins) z4 ⟨_, d4⟩).run [] s5 _ G _ S5 (yes rfl a na)) (fun fl s6 z6 => ?_) (fun _ _ z => False.elim z)
          have off : ∀ {σ6 : L2.St} {H6 : Hp} {Q : Shared → Prop}, Inv (X.suite a ((a, o4) :: (X.pn ++ pins))) [] σ6 H6 s6 → (∀ s7, Inv X pins (σ6.set i none) H6 s7 → Q s7) →
              wpAny (model X.prog X.w) X.A (do bindName X.env n .none; unbindBehindTheSuite X.env n p2) (fun _ s7 => Q s7) X.xe s6 := fun {σ6 H6 Q} S6 q => gone_ok (S6.unsuite ok) nd hi hn q
          cases fl with
          | next => exact let ⟨_, _, S6, q6⟩ := z6; off S6 fun s7 J7 => ⟨_, _, J7, q6⟩
          | brk => exact let ⟨_, _, S6, q6⟩ := z6; off S6 fun s7 J7 => ⟨_, _, J7, q6⟩
          | cont => exact let ⟨_, _, S6, q6⟩ := z6; off S6 fun s7 J7 => ⟨_, _, J7, q6⟩
          | ret u => exact let ⟨_, _, _, S6, r6, q6⟩ := z6; off S6 fun s7 J7 => ⟨_, _, _, J7, r6, q6⟩
    exact go hh ww
  · cases fl with
    | next => exact let ⟨_, _, J', q⟩ := z; wpAny_execs_nil ⟨_, _, J'.ofTry ok, q⟩
    | brk => exact let ⟨_, _, J', q⟩ := z; ⟨_, _, J'.ofTry ok, q⟩
    | cont => exact let ⟨_, _, J', q⟩ := z; ⟨_, _, J'.ofTry ok, q⟩
    | ret u => exact let ⟨_, _, _, J', r, q⟩ := z; ⟨_, _, _, J'.ofTry ok, r, q⟩
end
end Rc

namespace Rc
open PySem PySem.Spec PyProof.Rows L2
/-! ### NoSuch -/
abbrev sNoS : Stmt := inClass (topS 5) 0
theorem txNoS : EX.Txt sNoS ["who"] :=
  ⟨by simp, by decide, rfl, rfl, rfl, by decide +kernel, rfl, rfl, rfl, fun f hf => by
      obtain rfl := List.mem_singleton.mp hf
      exact ⟨rfl, by decide, by decide⟩, by decide, ⟨_, rfl, rfl⟩,
    fun _ _ _ _ _ _ _ _ vs hl => match vs, hl with | [v], _ => rfl, ⟨_, _, _, _, _, _, _, _, rfl, ⟨_, fun _ => rfl⟩, .cons .nil⟩⟩
abbrev ClsN (P : Program) (K : PySem.W.Frag) (mg : Str → Option Value) (CN : Addr) : Prop :=
  EX.Cx' P K mg "NoSuch" sNoS ["who"] "LookupError" "LookupError.__new__" "LookupError.__init__" [.type "LookupError", .type "Exception", .type "BaseException", .type "object"] CN
/-- dead code -/
def tNot : TE := fun _ _ _ => False
theorem pe_not_here {X : Cx} {e : Expr} : PE X e tNot := ⟨fun _ _ _ _ _ _ h => h.elim⟩
section
variable {P : Program} {w : World} {K : PySem.W.Frag} {mg : Str → Option Value} {base : Heap}
/-- what is no person is refused -/
def spNo (K : PySem.W.Frag) (C CN : Addr) : Sp := fun vs H _ E => ∃ b M v d, vs = [.ref b, v] ∧ BookAt K C H b M ∧ NamesOk M.names ∧ Dt K H v d ∧ ShortD d ∧ hasD M d = false ∧
  ∀ H' dd, Same H H' → H dd = none → H' dd = some (.xd [("who", v)]) → E (.ref CN) (some dd) H'
theorem spNo_len {C CN : Addr} {a b : Str} : ∀ vs H Q E, spNo K C CN vs H Q E → vs.length = [a, b].length := fun vs H Q E h => by
  obtain ⟨_, _, _, _, rfl, _⟩ := h
  rfl
/-- a def that refuses -/
structure HasX (P : Program) (w : World) (K : PySem.W.Frag) (mg : Str → Option Value) (base : Heap) (k : Nat) (nm : Str) (ps : List Str) (sp : Sp) (f : Addr) (fd : FuncData) : Prop where
  ok : FnOk P w K mg base (L2.CX P w) k f fd ps sp
  g : mg nm = some (.ref f)
  kp : PySem.W.keepIn K (.ref f) = true
  b : Binds K fd ps []
structure HasMX (P : Program) (w : World) (K : PySem.W.Frag) (mg : Str → Option Value) (base : Heap) (C : Addr) (k : Nat) (nm : Str) (ps : List Str) (sp : Sp) (f : Addr) (fd : FuncData) : Prop where
  ok : FnOk P w K mg base (L2.CX P w) k f fd ps sp
  m : Meth K C nm f
  b : Binds K fd ps []
theorem no_place {f fh C CN : Addr} {fd fdh : FuncData} (F : Fun K "place_of" "Book.place_of" sPlace f fd) (T : ClsF K C) (N : ClsN P K mg CN) (HS : HasM P w K mg base C 2 "has" ["self", "who"] (spHas K C) fh fdh) :
    FnOk P w K mg base (L2.CX P w) 3 f fd ["self", "who"] (spNo K C CN) := by
  refine F.okX scPlace spNo_len (fun cdv A outer s H vs Q E hr h => ?_)
  obtain ⟨b, M, v, d, rfl, hb, ok, hv, hs, hn, q⟩ := h
  refine ⟨_, pss_cons (ps_if (pt_not (pt_val (pe_meth (pv 0) T.cl HS.m HS.ok hr HS.b .nil pass0 (pa_cons (pv 1) pa_nil))))
      (pss_one (ps_raise rfl (takes_of rfl rfl rfl rfl) (pmk_ex N txNoS EX.base_Lookup hr (pa_cons (pv 1) pa_nil) (by rfl)))) pss_nil) pss_never, ?_⟩
  obtain ⟨dx, tn, on, wg, ws, wd, e, h1, hn', h2, h3, h4⟩ := hb.ex
  refine ⟨.ref b, rfl, b, dx, _, rfl, e, bf_no (NoF.mk' (by decide +kernel)), v, rfl, b, M, v, d, rfl, hb, ok, hv, hs, fun H1 s1 => ⟨_, rfl, ?_⟩⟩
  rw [hn]
  refine iteT ⟨v, rfl, rfl, fun dd nd => ?_⟩
  exact q _ dd (s1.trans (same_upd nd)) (s1.free nd) upd_same
theorem no_notes {f fp C CN : Addr} {fd fdp : FuncData} (F : Fun K "notes" "Book.notes" sNotes f fd) (T : ClsF K C) (B3 : Blt3 mg) (PL : HasMX P w K mg base C 3 "place_of" ["self", "who"] (spNo K C CN) fp fdp) :
    FnOk P w K mg base (L2.CX P w) 4 f fd ["self", "who"] (spNo K C CN) := by
  refine F.okX scNotes spNo_len (fun cdv A outer s H vs Q E hr h => ?_)
  obtain ⟨b, M, v, d, rfl, hb, ok, hv, hs, hn, q⟩ := h
  refine ⟨_, pss_one (ps_ret (pe_callTy call_listD (by rfl) B3.list (by decide +kernel) (pa_cons (pe_ix ix_tupD (pe_fld (pv 0) rfl) (pe_meth (pv 0) T.cl PL.m PL.ok hr PL.b .nil (passes_call (takes_of rfl rfl rfl rfl) fun _ _ _ _ z => z) (pa_cons (pv 1) pa_nil)) (fun _ _ => rfl)) pa_nil))), ?_⟩
  obtain ⟨dx, tn, on, wg, ws, wd, e, h1, hn', h2, h3, h4⟩ := hb.ex
  exact ⟨.ref b, rfl, b, C, dx, _, _, rfl, e, T.cl, T.n3, bf_stacks, .ref b, rfl, b, dx, _, rfl, e, bf_no (NoF.mk' (by decide +kernel)), v, rfl, b, M, v, d, rfl, hb, ok, hv, hs, hn, q⟩
theorem no_pile {f fs fn C CN : Addr} {fd fds fdn : FuncData} (F : Fun K "pile" "Book.pile" sPile f fd) (T : ClsF K C) (SP : Has P w K mg base 1 "split_notes" ["notes", "fallen"] (spSplit K) fs fds)
    (NT : HasMX P w K mg base C 4 "notes" ["self", "who"] (spNo K C CN) fn fdn) : FnOk P w K mg base (L2.CX P w) 5 f fd ["self", "who"] (spNo K C CN) := by
  refine F.okX scPile spNo_len (fun cdv A outer s H vs Q E hr h => ?_)
  obtain ⟨b, M, v, d, rfl, hb, ok, hv, hs, hn, q⟩ := h
  refine ⟨_, pss_cons (ps_asg (pe_call SP.ok (hr.mono (by decide)) (by rfl) SP.g SP.kp SP.b .nil pass0 (pa_cons (pe_meth (pv 0) T.cl NT.m NT.ok hr NT.b .nil (passes_call (takes_of rfl rfl rfl rfl) fun _ _ _ _ z => z) (pa_cons (pv 1) pa_nil)) (pa_cons pe_not_here pa_nil)))
      (pg_tup rfl (pgs_cons (pg_name (i := 2) scPile.nd rfl (.inl rfl)) (pgs_cons (pg_name (i := 3) scPile.nd rfl (.inl rfl)) pgs_nil)))) pss_never, ?_⟩
  obtain ⟨dx, tn, on, wg, ws, wd, e, h1, hn', h2, h3, h4⟩ := hb.ex
  exact ⟨.ref b, rfl, b, dx, _, rfl, e, bf_no (NoF.mk' (by decide +kernel)), v, rfl, b, M, v, d, rfl, hb, ok, hv, hs, hn, q⟩
end
end Rc

set_option maxHeartbeats 2000000
namespace Rc
open PySem PySem.Spec PyProof.Rows L2 LamX
/-- the law's own heap at its entry: the script, and empty tables -/
def entryT (K : PySem.W.Frag) (ts : List Addr) (a : Addr) (o : Obj) (xs : List V) : Hp := fun b => if b ∈ ts then some (.tbl #[]) else entryH K a o xs b
/-- a law called where no repr is under way, with tables of code: cs, the code objects and their tables -/
theorem law_callGT {P : Program} {w : World} {K : PySem.W.Frag} {mg mb : Str → Option Value} {CX : CXT} {k : Nat} {fa a : Addr} {cs : List (Addr × Addr)} {fd : FuncData} {x : Str} {sp : Sp} {s₁ : Shared} {vs : List Value} {ns : List Int}
    (KX : K.In s₁.heap) (hns : s₁.heap.Ns mainGlobals mg) (hb : s₁.heap.Ns builtinsNs mb) (hbb : ∀ x : Str, x ≠ "__name__" → mb x = bootBuiltins x) (hlim : s₁.heap.NoLimit) (hg : s₁.gens = #[])
    (hT : ∀ p ∈ cs, s₁.heap.get? p.2 = some { cls := .none, data := .fields #[] }) (nT : ∀ p ∈ cs, K.lookup p.2 = none) (C : ∀ p ∈ cs, PySem.W.CodeHd s₁.heap p.1 p.2)
    (hbm : ∃ (bm : Addr) (ob : Obj), mg "__builtins__" = some (.ref bm) ∧ bm ≠ builtinsNs ∧ s₁.heap.get? bm = some ob ∧ ob.cls = .type "module" ∧ ob.dict = some builtinsNs ∧ ob.data = .plain)
    (ha : s₁.heap.get? a = some { cls := .type "list", data := .seq vs.toArray }) (hi : IntsAre vs ns) (hl : ns.length ≤ sizeLine) (hr : Room k callerA)
    (F : ∀ base : Heap, K.In base → base.Ns mainGlobals mg → (∀ p ∈ cs, TabB base mg p.1 p.2) → FnG P w K mg base CX k fa fd [x] sp) (hbind : ∀ (s : Shared) (u : Value), BindsTo s fd ⟨[u], []⟩ [(x, u)])
    (hsp : ∀ H : Hp, (∀ p ∈ cs, H p.2 = some (.tbl #[])) → SqL K H a (ns.map V.int) → sp [.ref a] H (fun v _ => v = .bl true) fun _ _ _ => False)
    (hCX : ∀ H e s', CX [] H s₁ (fun _ _ _ => False) e s' → False) :
    codeAny (model P w) callerA (.call (.ref fa) ⟨[.ref a], []⟩) (fun r s' => r = .ok (.ret (.bool true)) ∧ OldK s₁.heap s'.heap ∧ s'.os = s₁.os ∧ AllBare s'.gens) s₁ := by
  have rv := vals_ints hi
  have lv := hi.length
  have tab : ∀ {b : Addr}, b ∈ cs.map (·.2) → s₁.heap.get? b = some { cls := .none, data := .fields #[] } := fun {b} z => by
    obtain ⟨p, hp, rfl⟩ := List.mem_map.mp z
    exact hT p hp
  have mem : ∀ {p : Addr × Addr}, p ∈ cs → p.2 ∈ cs.map (·.2) := fun {p} hp => List.mem_map.mpr ⟨p, hp, rfl⟩
  have na : a ∉ cs.map (·.2) := fun z => by
    have e := tab z
    rw [ha] at e
    cases e
  generalize hH : entryT K (cs.map (·.2)) a { cls := .type "list", data := .seq vs.toArray } (ns.map V.int) = H
  have hat : ∀ {b : Addr} {u : HO}, H b = some u → (b ∈ cs.map (·.2) ∧ u = .tbl #[]) ∨ (b = a ∧ K.lookup a = none ∧ u = .frz { cls := .type "list", data := .seq vs.toArray } (.lst (ns.map V.int))) := fun {b u} e => by
    rw [← hH] at e
    unfold entryT at e
    split at e
    · rename_i z
      exact .inl ⟨z, (Option.some.inj e).symm⟩
    · exact .inr (entryH_at e)
  have hTb : ∀ p ∈ cs, H p.2 = some (.tbl #[]) := fun p hp => by
    rw [← hH]
    exact if_pos (mem hp)
  have sq : SqL K H a (ns.map V.int) := by
    cases hk : K.lookup a with
    | none =>
      refine .inl (.inr ⟨{ cls := .type "list", data := .seq vs.toArray }, ?_⟩)
      rw [← hH]
      exact (if_neg na).trans (if_pos ⟨rfl, hk⟩)
    | some o =>
      have e := KX a o hk
      rw [ha] at e
      cases e
      exact .inr ⟨_, vs.toArray, _, hk, rfl, rfl, rfl, by rw [List.size_toArray, lv]; exact hl, by simpa using rv⟩
  have hok : HOk P w H s₁.heap := fun b u e => by
    rcases hat e with ⟨z, rfl⟩ | ⟨rfl, _, rfl⟩
    · exact tab z
    · exact ⟨ha, by rw [List.length_map]; exact hl, vs, _, rv, ha⟩
  -- what is neither a list of values nor an empty table is not tracked
  have away : ∀ {b : Addr} {o : Obj}, s₁.heap.get? b = some o → (∀ z n, o.data ≠ .seq z n) → o.data ≠ .fields #[] → H b = none := fun {b o} e d1 d2 => by
    cases q : H b with
    | none => rfl
    | some u =>
      rcases hat q with ⟨z, _⟩ | ⟨rfl, _, _⟩
      · rw [tab z] at e
        cases e
        exact (d2 rfl).elim
      · rw [ha] at e
        cases e
        exact (d1 _ _ rfl).elim
  have nsK : ∀ {b : Addr} {m : Str → Option Value}, s₁.heap.Ns b m → (hidT s₁.heap H).Ns b m :=
    fun {b m} z => let ⟨o, es, ep, e, d, r⟩ := z; ⟨o, es, ep, hidT_get e (away e (fun z n y => by rw [d] at y; cases y) (fun y => by rw [d] at y; cases y)), d, r⟩
  have kb : K.In (hidT s₁.heap H) := fun b o e => hidT_get (KX b o e) (by
    cases q : H b with
    | none => rfl
    | some u =>
      rcases hat q with ⟨z, _⟩ | ⟨rfl, z, _⟩
      · obtain ⟨p, hp, rfl⟩ := List.mem_map.mp z
        rw [nT p hp] at e
        cases e
      · rw [z] at e
        cases e)
  have md : Mod K mg (hidT s₁.heap H) := ⟨kb, nsK hns, ⟨mb, nsK hb, hbb⟩, let ⟨mc, h1, h2⟩ := hlim; ⟨mc, nsK h1, h2⟩⟩
  have TB : ∀ p ∈ cs, TabB (hidT s₁.heap H) mg p.1 p.2 := fun p hp => by
    obtain ⟨gO, gE, gP, ge, gd, _⟩ := id hns
    have mp : mainGlobals ≠ p.2 := fun z => by
      rw [z, hT p hp] at ge
      cases ge
      cases gd
    refine ⟨?_, ?_, mp⟩
    · obtain ⟨o, us, file, tf, flags, tg, inF, text, tt, e1, r1, r2, r3, r4, r5, r6, r7, r8, r9⟩ := C p hp
      refine ⟨o, us, file, tf, flags, tg, inF, text, tt, hidT_get e1 (away e1 (fun z n y => by rw [r2] at y; cases y) fun y => ?_), r1, r2, r3, r4, r5, r6, r7, r8, r9⟩
      rw [r2] at y
      cases y
      simp at r3
    · obtain ⟨bm, ob, b1, b2, b3, b4, b5, b6⟩ := hbm
      refine ⟨bm, ob, b1, b2, fun z => ?_, fun z => ?_, hidT_get b3 (away b3 (fun z n y => by rw [b6] at y; cases y) fun y => by rw [b6] at y; cases y), b4, b5, b6⟩
      · rw [z, ge] at b3
        cases b3
        rw [gd] at b6
        cases b6
      · rw [z, hT p hp] at b3
        cases b3
        cases b6
  have e0 : Env0 P w K mg (hidT s₁.heap H) callerA [] s₁ H :=
    { frames := rfl, mod := md, bs := fun b o e => of_hidT e, bsz := Nat.le_of_eq (hidT_size _ _), funs := trivial, frf := fun b z => absurd (show b ∈ ([] : List Addr) from z) (by simp), hok := hok, bare := .of_eq hg }
  refine codeAny_mono ((F _ kb (nsK hns) TB).go callerA [] s₁ H ⟨[.ref a], []⟩ [.ref a] [.ref a] _ _ hr rfl e0 (hbind s₁ (.ref a)) (.cons rfl .nil) (hsp H hTb sq)) fun r s' h => ?_
  match r, h with
  | .error e, h => exact (hCX H e s' h).elim
  | .ok .next, h => exact h.elim
  | .ok .brk, h => exact h.elim
  | .ok .cont, h => exact h.elim
  | .ok (.ret u), h =>
    obtain ⟨v, H', os, bare, un, hok', r', q⟩ := h
    have q' : v = .bl true := q
    subst q'
    obtain rfl : u = Value.bool true := r'
    have rest : ∀ b o, b ∉ cs.map (·.2) → s₁.heap.get? b = some o → s'.heap.get? b = some o := fun b o nb e => by
      cases z : H b with
      | none => exact un.keep b o e z (fun y => absurd (show b ∈ ([] : List Addr) from y) (by simp)) (by simp)
      | some u =>
        rcases hat z with ⟨y, _⟩ | ⟨rfl, _, rfl⟩
        · exact absurd y nb
        · have e2 := (hok' _ _ (un.frzs _ _ _ z)).1
          rw [ha] at e
          cases e
          exact e2
    have grown : ∀ p ∈ cs, ∃ more : Array Value, s'.heap.get? p.2 = some { cls := .none, data := .fields more } := fun p hp => by
      obtain ⟨more, z⟩ := un.tbls p.2 #[] (hTb p hp)
      exact ⟨_, hok' p.2 _ z⟩
    refine ⟨rfl, ⟨fun b o e => ?_, fun b o e => ?_⟩, os, bare⟩
    · by_cases hm : b ∈ cs.map (·.2)
      · obtain ⟨p, hp, rfl⟩ := List.mem_map.mp hm
        obtain ⟨more, z⟩ := grown p hp
        rw [hT p hp] at e
        cases e
        exact .inr (.inl ⟨((C p hp).tab (hT p hp)).isCodeTable, rfl, #[], more, rfl, by rw [Array.empty_append]; exact z⟩)
      · exact .inl (rest b o hm e)
    · by_cases hm : b ∈ cs.map (·.2)
      · obtain ⟨p, hp, rfl⟩ := List.mem_map.mp hm
        obtain ⟨more, z⟩ := grown p hp
        exact ⟨_, z⟩
      · exact ⟨o, rest b o hm e⟩
/-- what a law's end file must bring, tables of code among it -/
def LawAtG (l : PySem.W.OpenLaw) (w : World) (K : PySem.W.Frag) (CX : CXT) (k n : Nat) (x : Str) (mg : Str → Option Value) (fa : Addr) (h : Heap) : Prop :=
  ∃ (fd : FuncData) (cs : List (Addr × Addr)) (sp : Sp), (∀ p ∈ cs, h.get? p.2 = some { cls := .none, data := .fields #[] } ∧ K.lookup p.2 = none ∧ PySem.W.CodeHd h p.1 p.2) ∧ (∀ (s : Shared) (u : Value), BindsTo s fd ⟨[u], []⟩ [(x, u)]) ∧
    (∀ (H : Hp) (a : Addr) (ns : List Int), ns.length ≤ n → (∀ p ∈ cs, H p.2 = some (.tbl #[])) → SqL K H a (ns.map V.int) → sp [.ref a] H (fun v _ => v = .bl true) fun _ _ _ => False) ∧
    ∀ base : Heap, K.In base → base.Ns mainGlobals mg → (∀ p ∈ cs, TabB base mg p.1 p.2) → FnG l.prog w K mg base CX k fa fd [x] sp
theorem walk_ofGT {l : PySem.W.OpenLaw} {n k : Nat} {q : Program} {loose : List Str} {XP : (Str → Option Value) → Heap → Prop} {YP : World → Heap → Prop} {d : DefRec} {K : Params → PySem.W.Frag} {CX : World → CXT} {x : Str}
    (hn : l.most = some n) (hn2 : n ≤ sizeLine) (hdf : d.params.defaults = []) (hr : Room k callerA) (hY : ∀ (w : World) (h : Heap), YP w h → (K w.params).In h)
    (F : ∀ (w : World) (mg : Str → Option Value) (fa : Addr) (h : Heap), YP w h → (K w.params).In h → h.Ns mainGlobals mg → mg d.name = some (.ref fa) → LawAtG l w (K w.params) (CX w) k n x mg fa h)
    (hCX : ∀ (w : World) (H : Hp) (s : Shared) (e : Value) (s' : Shared), CX w [] H s (fun _ _ _ => False) e s' → False) :
    PySem.W.WalkO q loose XP YP l.row.toRowW d [] (fun f vs => PySem.call f vs) := by
  refine Att.attach_call hn hdf fun w s₀ s₁ mg mb fa o pm cd doc a vs ns G Y ho hd hcd hmg hobj hints hlen hg => ?_
  obtain ⟨fd, cs, sp, hT, b1, hsp, b2⟩ := F w mg fa _ Y (hY w _ Y) G.T.g hmg
  exact law_callGT (hY w _ Y) G.T.g G.T.b G.T.builtins G.T.nolimit hg (fun p hp => (hT p hp).1) (fun p hp => (hT p hp).2.1) (fun p hp => (hT p hp).2.2) G.T.bmain hobj hints (Nat.le_trans hlen hn2) hr b2 b1 (fun H hH hS => hsp H a ns hlen hH hS) fun H e s' => hCX w H s₁ e s'
end Rc

namespace Rc
open PySem PySem.Spec PyProof.Rows L2 RZ
def abcS : Str := "abcdefghijklmnopqrstuvwxyz"
theorem abcS_len : abcS.length = 26 := by decide +kernel
theorem abcS_abc : abcS.cps.toList = abc := letters_abc
theorem nodup_le {α : Type} [DecidableEq α] : ∀ (l zs : List α), l.Nodup → (∀ x ∈ l, x ∈ zs) → l.length ≤ zs.length
  | [], _, _, _ => Nat.zero_le _
  | a :: r, zs, nd, h => by
    have hn := List.nodup_cons.mp nd
    have ha : a ∈ zs := h a List.mem_cons_self
    have ih := nodup_le r (zs.erase a) hn.2 fun x hx => by
      have ne : x ≠ a := fun e => hn.1 (e ▸ hx)
      exact (List.mem_erase_of_ne ne).mpr (h x (List.mem_cons_of_mem _ hx))
    rw [List.length_erase_of_mem ha] at ih
    have : 0 < zs.length := List.length_pos_of_mem ha
    rw [List.length_cons]
    omega
def oneS (c : Nat) : Str := ⟨#[c]⟩
theorem oneS_name {c : Nat} (h : c ∈ abc) : nameT (oneS c) = true := by
  have e1 : (oneS c).length = 1 := rfl
  have e2 : (oneS c).cps.toList = [c] := rfl
  unfold nameT
  rw [e1, e2]
  simp [h]
theorem abc_nodup : (abc.map oneS).Nodup := by decide +kernel
/-- some letter is not among thirteen names -/
theorem free_letter {zs : List Str} (h : zs.length ≤ 13) : (abc.filter fun c => !decide (oneS c ∈ zs)) ≠ [] := fun e => by
  have hall : ∀ x ∈ abc.map oneS, x ∈ zs := fun x hx => by
    obtain ⟨c, hc, rfl⟩ := List.mem_map.mp hx
    by_cases hz : oneS c ∈ zs
    · exact hz
    · have hm : c ∈ abc.filter fun c => !decide (oneS c ∈ zs) := List.mem_filter.mpr ⟨hc, by simp [hz]⟩
      rw [e] at hm
      cases hm
  have := nodup_le _ _ abc_nodup hall
  rw [List.length_map] at this
  have e26 : abc.length = 26 := by decide
  omega
theorem nameT_of {z : Str} (h1 : 1 ≤ z.length) (h2 : z.length ≤ 8) (h3 : ∀ c ∈ z.cps.toList, c ∈ abc) : nameT z = true := by
  unfold nameT
  rw [decide_eq_true h1, decide_eq_true h2]
  simp only [Bool.true_and, List.all_eq_true, decide_eq_true_eq]
  exact h3
def wordsL : List Str := ["person", "persons", "pay", "clear", "settle", "put", "give", "yes"]
theorem words_ok : ∀ z ∈ wordsL, nameT z = true := by decide +kernel
section
variable {P : Program} {w : World} {K : PySem.W.Frag} {mg : Str → Option Value} {base : Heap}
/-! ### _law_name -/
abbrev sLNm : Stmt := topS 24
abbrev nLNm : List Str := ["_law_pot_here", "_law_used", "_law_letters", "_law_name_here", "_law_k", "_law_letter"]
theorem scLNm : FnScope nLNm ["_law_pot_here", "_law_used"] (defScope sLNm) := ⟨rfl, rfl, rfl, by decide +kernel, rfl, by decide +kernel, by decide +kernel⟩
def spLNm : Sp := fun vs H Q _ => ∃ p u zs, vs = [.ref p, .ref u] ∧ Pot H p ∧ u ≠ p ∧ H u = some (.lst (List.map V.str zs)) ∧ zs.length ≤ 13 ∧ ∀ z H', nameT z = true → z ∉ zs → Pot H' p → But p H H' → Q (.str z) H'
theorem ok_lnm {f fT : Addr} {fd fdT : FuncData} (F : Fun K "_law_name" "_law_name" sLNm f fd) (B : Blt mg) (B2 : Blt2 mg) (T : HasTake P w K mg base fT fdT) : FnOk P w K mg base CX0 2 f fd ["_law_pot_here", "_law_used"] spLNm := by
  refine F.ok scLNm (fun vs H Q E h => ?_) (fun cdv Ar outer s H vs Q E hr h => ?_)
  · obtain ⟨_, _, _, rfl, _⟩ := h
    rfl
  · obtain ⟨p, u, zs, rfl, hp, up, hu, hz, q⟩ := h
    refine ⟨_, pss_cons (ps_set (i := 2) scLNm.nd rfl (.inr rfl) pe_str)
      (pss_cons (ps_set (i := 3) scLNm.nd rfl (.inl rfl) (pe_join pe_str
        (pe_lc (own := [("_law_k", 4)]) (g := gName 4) (tt := tYes) rfl scLNm.nd (pi_range1 (by rfl) B2.range (pa_cons (pe_op op_add pe_int (pe_call T.ok hr (by rfl) T.g T.kp T.b .nil pass0 (pa_cons (pv 0) (pa_cons pe_int pa_nil)))) pa_nil))
          (blkOk_by (N := nLNm) (sc := defScope sLNm) (own := [("_law_k", 4)]) (by decide +kernel))
          (fun _ _ _ _ _ => pg_name (i := 4) scLNm.nd rfl (.inl rfl)) (fun _ _ _ _ _ => pts_nil)
          (fun _ _ _ _ _ => pe_ix ix_str (pv 2) (pe_call T.ok hr (by rfl) T.g T.kp T.b .nil pass0 (pa_cons (pv 0) (pa_cons pe_int pa_nil))) (fun _ _ => rfl)))))
      (C8.pss_cut (ps_if (pt_cmpR op_eq (pe_call T.ok hr (by rfl) T.g T.kp T.b .nil pass0 (pa_cons (pv 0) (pa_cons pe_int pa_nil))) pe_int (nomark _))
        (pss_one (ps_set (i := 3) scLNm.nd rfl (.inl rfl) (pe_ix ix_list (pe_lst (pa_cons pe_str (pa_cons pe_str (pa_cons pe_str (pa_cons pe_str (pa_cons pe_str (pa_cons pe_str (pa_cons pe_str (pa_cons pe_str pa_nil)))))))))
          (pe_call T.ok hr (by rfl) T.g T.kp T.b .nil pass0 (pa_cons (pv 0) (pa_cons pe_int pa_nil))) (fun _ _ => rfl)))) pss_nil)
      (pss_cons (ps_if (pt_cmpR op_in_seq (pv 3) (pv 1) (by rfl))
        (pss_one (ps_ret (pe_ix ix_list (pe_lc (own := [("_law_letter", 5)]) (g := gName 5) (tt := tTest (tOp (rIn K true) (tVar 5) (tVar 1))) (te := tVar 5) rfl scLNm.nd (pi_str (pv 2)) (blkOk_by (N := nLNm) (sc := defScope sLNm) (own := [("_law_letter", 5)]) (by decide +kernel))
          (fun _ _ _ _ _ => pg_name (i := 5) scLNm.nd rfl (.inl rfl)) (fun _ _ _ _ _ => pts_one (pt_cmpR op_notIn_seq (pv 5) (pv 1) (by rfl))) (fun _ _ _ _ _ => pv 5)) pe_int (fun _ _ => rfl)))) pss_nil)
      (pss_one (ps_ret (pv 3)))))), ?_⟩
    refine ⟨⟨_, rfl⟩, .ref p, rfl, p, 8, rfl, hp, litM _ (by decide) (by decide), fun d H1 d0 d1 hp1 hb1 => ⟨_, _, rfl, rfl, 1 + d, rfl, by omega, by omega, fun D nD => ?_⟩⟩
    have nDp : D ≠ p := by
      obtain ⟨x, y, e, _⟩ := hp1
      exact (ne_of_none e nD).symm
    refine lc_it walk_range (fun i H' => ∃ cs : List Nat, cs.length = i ∧ (∀ c ∈ cs, c ∈ abc) ∧ H' D = some (.lst (cs.map fun c => .str ⟨#[c]⟩)) ∧ Pot H' p ∧ But p H H')
      ⟨[], rfl, fun c hc => absurd hc List.not_mem_nil, upd_same, hp1.new nD, hb1.trans (But.new nD)⟩ (fun _ _ _ _ => trivial) (fun i x H2 H3 hi hP hY => ?_) (fun H2 hP => ?_)
    · obtain ⟨rfl, rfl⟩ := hY
      obtain ⟨cs, lc, hc, hD, hp2, hb2⟩ := hP
      refine ⟨rfl, .str abcS, rfl, .ref p, rfl, p, 26, rfl, hp2, litM _ (by decide) (by decide), fun e H4 e0 e1 hp4 hb4 => ?_⟩
      have el : abcS.cps.toList.length = 26 := abcS_len
      obtain ⟨c, p1, p2⟩ := pick (xs := abcS.cps.toList) e0 (by rw [el]; exact e1)
      refine ⟨abcS, e, c, rfl, rfl, small_line (by rw [abcS_len]; decide), p1, _, hb4 _ _ nDp hD, ?_, cs ++ [c], by rw [List.length_append, lc]; rfl, fun k hk => ?_, ?_, ?_, fun b o n eb => ?_⟩
      · rw [List.length_map, lc]
        exact small1000 (by omega)
      · rcases List.mem_append.mp hk with z | z
        · exact hc k z
        · rw [List.mem_singleton.mp z, ← abcS_abc]
          exact p2
      · rw [upd_same, List.map_append]
        rfl
      · obtain ⟨x, y, z, r⟩ := hp4
        exact ⟨x, y, by rw [upd_ne nDp.symm]; exact z, r⟩
      · have nb : b ≠ D := ne_of_none (hb1 b o n eb) nD
        rw [upd_ne nb]
        exact hb4 _ _ n (hb2 _ _ n eb)
    · obtain ⟨cs, lc, hc, hD, hp2, hb2⟩ := hP
      have ej := join_ones cs
      have nm : nameT (Txt.join "" (cs.map fun c => (⟨#[c]⟩ : Str))) = true := by
        have el : (Txt.join "" (cs.map fun c => (⟨#[c]⟩ : Str))).length = cs.length := by
          show (Txt.join "" (cs.map fun c => (⟨#[c]⟩ : Str))).cps.size = cs.length
          rw [← Array.length_toList, ej]
        refine nameT_of (by rw [el]; omega) (by rw [el]; omega) (by rw [ej]; exact hc)
      refine ⟨"", D, cs.map fun c => ⟨#[c]⟩, rfl, rfl, .inl (.inl (.inl (by rw [hD, List.map_map]; rfl))), ?_, ?_⟩
      · rw [lens_ones]
        show cs.length + _ * 0 ≤ _
        omega
      generalize Txt.join "" (cs.map fun c => (⟨#[c]⟩ : Str)) = z at nm
      refine ⟨fun σ' H' => ∃ z' y4 y5, σ' = [some (.ref p), some (.ref u), some (.str abcS), some (.str z'), y4, y5] ∧ nameT z' = true ∧ Pot H' p ∧ But p H H', ?_, ?_⟩
      · refine ⟨.ref p, rfl, p, 8, rfl, hp2, litM _ (by decide) (by decide), fun k H3 k0 k1 hp3 hb3 => ⟨rfl, _, rfl, ite2 (fun e => ?_) (fun e => ?_)⟩⟩
        · refine ⟨by show 8 ≤ sizeLine; decide, fun l nl => ?_⟩
          have nlp : l ≠ p := by
            obtain ⟨x, y, e, _⟩ := hp3
            exact (ne_of_none e nl).symm
          refine ⟨.ref p, rfl, p, 8, rfl, hp3.new nl, litM _ (by decide) (by decide), fun e H5 e0 e1 hp5 hb5 => ?_⟩
          obtain ⟨v, p1, p2⟩ := pick (xs := wordsL.map V.str) e0 e1
          refine ⟨l, _, e, v, rfl, rfl, .inl (.inl (hb5 _ _ nlp upd_same)), p1, ?_⟩
          obtain ⟨z', hz', rfl⟩ := List.mem_map.mp p2
          exact ⟨z', _, _, rfl, words_ok z' hz', hp5, hb2.trans (hb3.trans ((But.new nl).trans hb5))⟩
        · exact ⟨z, _, _, rfl, nm, hp3, hb2.trans hb3⟩
      · rintro σ' H' ⟨z', y4, y5, rfl, nm', hp', hb'⟩
        have hu' := hb' _ _ up hu
        refine ⟨.str z', rfl, .ref u, rfl, u, _, rfl, .inl (.inl (.inl hu')), rfl, flat_strs _, _, rfl, ?_⟩
        show if inV (.str z') (zs.map V.str) = true then _ else _
        rw [inV_strs]
        refine ite2 (fun e => ?_) (fun e => ?_)
        · refine ⟨.str abcS, rfl, abcS, rfl, fun D' nD' => ?_⟩
          refine lc_it walk_str (fun i H'' => Same H' H'' ∧ H'' D' = some (.lst (((abc.take i).filter fun c => !decide (oneS c ∈ zs)).map fun c => .str (oneS c)))) ⟨same_upd nD', upd_same⟩ (fun _ _ _ _ => trivial) (fun i x H3' H3 hi hP hY => ?_) (fun H3 hP => ?_)
          · obtain ⟨rfl, c, hc', rfl⟩ := hY
            have hc2 : abc[i]? = some c := by
              rw [← abcS_abc, Array.getElem?_toList]
              exact hc'
            refine ⟨rfl, _, rfl, .ref u, rfl, u, _, rfl, .inl (.inl (.inl (hP.1 _ _ hu'))), rfl, flat_strs _, _, rfl, ?_⟩
            have tk : abc.take (i + 1) = abc.take i ++ [c] := by
              rw [List.take_add_one, hc2]
              rfl
            show if (!inV (.str (oneS c)) (zs.map V.str)) = true then _ else _
            rw [inV_strs]
            refine ite2 (fun e' => ?_) (fun e' => ?_)
            · refine ⟨_, rfl, _, hP.2, ?_, fun b o eb => ?_, ?_⟩
              · rw [List.length_map]
                have h1 := List.length_filter_le (fun c => !decide (oneS c ∈ zs)) (abc.take i)
                have h2 : (abc.take i).length ≤ 26 := by
                  rw [List.length_take]
                  exact Nat.min_le_right _ _
                exact small1000 (by omega)
              · rw [upd_ne (ne_of_none eb nD')]
                exact hP.1 b o eb
              · rw [upd_same, tk, List.filter_append, List.map_append]
                simp only [List.filter_cons, e', if_true, List.filter_nil, List.map_cons, List.map_nil]
                rfl
            · refine ⟨hP.1, ?_⟩
              rw [hP.2, tk, List.filter_append]
              simp only [List.filter_cons, e', List.filter_nil, Bool.false_eq_true, if_false, List.append_nil]
          · have esz : abc.take abcS.cps.size = abc := List.take_of_length_le (by decide +kernel)
            rw [esz] at hP
            have ne := free_letter hz
            cases hl : (abc.filter fun c => !decide (oneS c ∈ zs)) with
            | nil => exact absurd hl ne
            | cons c r =>
              have hm : c ∈ abc.filter fun c => !decide (oneS c ∈ zs) := by
                rw [hl]
                exact List.mem_cons_self
              obtain ⟨m1, m2⟩ := List.mem_filter.mp hm
              rw [hl] at hP
              refine ⟨D', _, 0, .str (oneS c), rfl, rfl, .inl (.inl hP.2), atI_nat (j := 0) rfl, ?_⟩
              exact q _ _ (oneS_name m1) (by simpa using m2) (hp'.same hP.1) (hb'.trans (same_but hP.1))
        · exact ⟨_, rfl, q z' H' nm' (fun c => e (decide_eq_true c)) hp' hb'⟩
end
end Rc

namespace Rc
open PySem PySem.Spec PyProof.Rows L2 RZ
section
variable {P : Program} {w : World} {K : PySem.W.Frag} {mg : Str → Option Value} {base : Heap}
/-! ### _law_names -/
abbrev sLNms : Stmt := topS 25
theorem scLNms : FnScope ["_law_pot_here", "_law_many", "_law_found", "_law_k"] ["_law_pot_here", "_law_many"] (defScope sLNms) := ⟨rfl, rfl, rfl, by decide +kernel, rfl, by decide +kernel, by decide +kernel⟩
def spLNms : Sp := fun vs H Q _ => ∃ (p : Addr) (m : Nat), vs = [.ref p, .int (m : Nat)] ∧ Pot H p ∧ m ≤ 13 ∧ ∀ r zs H', H r = none → r ≠ p → H' r = some (.lst (List.map V.str zs)) → zs.length = m → zs.Nodup → (∀ z ∈ zs, nameT z = true) → Pot H' p → But p H H' → Q (.ref r) H'
theorem ok_lnms {f fN : Addr} {fd fdN : FuncData} (F : Fun K "_law_names" "_law_names" sLNms f fd) (B2 : Blt2 mg) (N : Has P w K mg base 2 "_law_name" ["_law_pot_here", "_law_used"] spLNm fN fdN) :
    FnOk P w K mg base CX0 3 f fd ["_law_pot_here", "_law_many"] spLNms := by
  refine F.ok scLNms (fun vs H Q E h => ?_) (fun cdv Ar outer s H vs Q E hr h => ?_)
  · obtain ⟨_, _, rfl, _⟩ := h
    rfl
  · obtain ⟨p, m, rfl, hp, hm, q⟩ := h
    refine ⟨_, pss_cons (ps_set (i := 2) scLNms.nd rfl (.inl rfl) (pe_lst pa_nil))
      (pss_cons (ps_for PassesOwn.never rfl (pi_range1 (by rfl) B2.range (pa_cons (pv 1) pa_nil)) (pg_name (i := 3) scLNms.nd rfl (.inl rfl))
        (pss_one (ps_expr (pe_bm PySem.F.plainAttrs_list PySem.F.slot_list_append PySem.F.type_list_append mt_append (pv 2) (pa_cons (pe_call N.ok hr (by rfl) N.g N.kp N.b .nil pass0 (pa_cons (pv 0) (pa_cons (pv 2) pa_nil))) pa_nil)))))
      (pss_one (ps_ret (pv 2)))), ?_⟩
    refine ⟨Nat.zero_le _, fun r nr => ?_⟩
    have rp : r ≠ p := by
      obtain ⟨x, y, e, _⟩ := hp
      exact (ne_of_none e nr).symm
    refine ⟨_, rfl, _, rfl, by omega, by omega, ?_⟩
    refine for_it walk_range (fun i σ H' => ∃ zs y3, σ = [some (.ref p), some (.int (m : Nat)), some (.ref r), y3] ∧ H' r = some (.lst (List.map V.str zs)) ∧ zs.length = i ∧ zs.Nodup ∧ (∀ z ∈ zs, nameT z = true) ∧ Pot H' p ∧ But p H H')
      ⟨[], _, rfl, upd_same, rfl, List.nodup_nil, fun z hz => absurd hz List.not_mem_nil, hp.new nr, But.new nr⟩ (fun _ _ _ _ _ => trivial) (fun i x σ H1' H1 hi hP hY => ?_) (fun σ H1 hP => ?_)
    · obtain ⟨rfl, rfl⟩ := hY
      obtain ⟨zs, y3, rfl, hr1, lz, nd, nm, hp1, hb1⟩ := hP
      have hi' : i < m := by simpa using hi
      refine ⟨.ref r, rfl, .inl ⟨rfl, _, .inl (.inl hr1)⟩, .ref p, rfl, .ref r, rfl, p, r, zs, rfl, hp1, rp, hr1, by omega, fun z H2 nz nin hp2 hb2 => ?_⟩
      refine ⟨r, _, _, rfl, rfl, hb2 _ _ rp hr1, by rw [List.length_map]; exact small1000 (by omega), ?_⟩
      refine ⟨zs ++ [z], _, rfl, by rw [upd_same, List.map_append]; rfl, by rw [List.length_append, lz]; rfl, ?_, fun y hy => ?_, ?_, fun b o n e => ?_⟩
      · rw [List.nodup_append]
        refine ⟨nd, by simp, fun a ha b hb e => ?_⟩
        rw [List.mem_singleton.mp hb] at e
        exact nin (e ▸ ha)
      · rcases List.mem_append.mp hy with h | h
        · exact nm y h
        · rw [List.mem_singleton.mp h]
          exact nz
      · obtain ⟨x, y, e, rr⟩ := hp2
        exact ⟨x, y, by rw [upd_ne rp.symm]; exact e, rr⟩
      · rw [upd_ne (ne_of_none e nr)]
        exact hb2 _ _ n (hb1 _ _ n e)
    · obtain ⟨zs, y3, rfl, hr1, lz, nd, nm, hp1, hb1⟩ := hP
      exact ⟨.ref r, rfl, q r zs H1 nr rp hr1 (by simpa using lz) nd nm hp1 hb1⟩
end
end Rc

namespace Rc
open PySem PySem.Spec PyProof.Rows L2 RZ
section
variable {P : Program} {w : World} {K : PySem.W.Frag} {mg : Str → Option Value} {base : Heap}
/-! ### _law_amount -/
abbrev sLAm : Stmt := topS 27
theorem scLAm : FnScope ["_law_pot_here", "_law_size", "_law_kind"] ["_law_pot_here", "_law_size"] (defScope sLAm) := ⟨rfl, rfl, rfl, by decide +kernel, rfl, by decide +kernel, by decide +kernel⟩
def Amt (n : Int) : Prop := 1 ≤ n ∧ n ≤ 10 ^ 58
def spLAm : Sp := fun vs H Q _ => ∃ (p : Addr) (s : Int), vs = [.ref p, .int s] ∧ (s = 0 ∨ s = 1) ∧ Pot H p ∧ ∀ n H', Amt n → Pot H' p → But p H H' → Q (.int n) H'
theorem ok_lam {f fT : Addr} {fd fdT : FuncData} (F : Fun K "_law_amount" "_law_amount" sLAm f fd) (T : HasTake P w K mg base fT fdT) : FnOk P w K mg base CX0 2 f fd ["_law_pot_here", "_law_size"] spLAm := by
  refine F.ok scLAm (fun vs H Q E h => ?_) (fun cdv Ar outer s H vs Q E hr h => ?_)
  · obtain ⟨_, _, rfl, _⟩ := h
    rfl
  · obtain ⟨p, sz, rfl, hsz, hp, q⟩ := h
    refine ⟨_, pss_cons (ps_set (i := 2) scLAm.nd rfl (.inl rfl) (pe_call T.ok hr (by rfl) T.g T.kp T.b .nil pass0 (pa_cons (pv 0) (pa_cons pe_int pa_nil))))
      (pss_one (ps_ret (pe_op op_add pe_int (pe_call T.ok hr (by rfl) T.g T.kp T.b .nil pass0 (pa_cons (pv 0) (pa_cons
        (pe_ix ix_list (pe_ix ix_list (pe_lst (pa_cons (pe_lst (pa_cons pe_int (pa_cons pe_int (pa_cons pe_int (pa_cons pe_int pa_nil))))) (pa_cons (pe_lst (pa_cons pe_int (pa_cons pe_int (pa_cons pe_int (pa_cons (pe_op op_pow pe_int pe_int) pa_nil))))) pa_nil))) (pv 1) (fun _ _ => rfl)) (pv 2) (fun _ _ => rfl)) pa_nil)))))), ?_⟩
    refine ⟨.ref p, rfl, p, 4, rfl, hp, litM _ (by decide) (by decide), fun d H1 d0 d1 hp1 hb1 => ?_⟩
    refine ⟨.ref p, rfl, by show 4 ≤ sizeLine; decide, fun l1 n1 => ⟨_, _, rfl, rfl, ⟨by decide, by decide, by decide⟩, by show 4 ≤ sizeLine; decide, fun l2 n2 => ⟨by show 2 ≤ sizeLine; decide, fun l3 n3 => ?_⟩⟩⟩
    have s3 := (same_upd (o := .lst [V.int 1, V.int 3, V.int 9, V.int 9]) n1).trans ((same_upd (o := .lst [V.int 1, V.int 9, V.int 1000, V.int (10 ^ (58 : Int).toNat)]) n2).trans (same_upd (o := .lst [V.ref l1, V.ref l2]) n3))
    have fin : ∀ m : Int, 0 < m → m ≤ 10 ^ 58 → ∃ (p' : Addr) (m' : Int), [V.ref p, V.int m] = [.ref p', .int m'] ∧ Pot (upd (upd (upd H1 l1 (.lst [V.int 1, V.int 3, V.int 9, V.int 9])) l2 (.lst [V.int 1, V.int 9, V.int 1000, V.int (10 ^ (58 : Int).toNat)])) l3 (.lst [V.ref l1, V.ref l2])) p' ∧ LitM m' ∧
        ∀ t H4, 0 ≤ t → t < m' → Pot H4 p' → But p' (upd (upd (upd H1 l1 (.lst [V.int 1, V.int 3, V.int 9, V.int 9])) l2 (.lst [V.int 1, V.int 9, V.int 1000, V.int (10 ^ (58 : Int).toNat)])) l3 (.lst [V.ref l1, V.ref l2])) H4 → ∃ x y : Int, V.int 1 = .int x ∧ V.int t = .int y ∧ Q (.int (x + y)) H4 := fun m m0 m1 => by
      have m2 : (10 : Int) ^ 58 < 2 ^ 250 := by decide
      exact ⟨p, m, rfl, hp1.same s3, litM _ m0 (by omega), fun t H4 t0 t1 hp4 hb4 => ⟨1, t, rfl, rfl, q _ _ ⟨by omega, by omega⟩ hp4 (hb1.trans ((same_but s3).trans hb4))⟩⟩
    rcases hsz with rfl | rfl
    · obtain ⟨c, e1, e2⟩ := pick (xs := [V.int 1, V.int 3, V.int 9, V.int 9]) d0 d1
      refine ⟨.int 0, rfl, l3, _, 0, .ref l1, rfl, rfl, .inl (.inl upd_same), rfl, .int d, rfl, l1, _, d, c, rfl, rfl, .inl (.inl (same_upd n3 _ _ (same_upd n2 _ _ upd_same))), e1, ?_⟩
      have ec : ∃ m : Int, c = .int m ∧ 0 < m ∧ m ≤ 10 ^ 58 := by
        simp only [List.mem_cons, List.not_mem_nil, or_false] at e2
        rcases e2 with e | e | e | e <;> exact ⟨_, e, by decide, by decide⟩
      obtain ⟨m, rfl, m0, m1⟩ := ec
      exact fin m m0 m1
    · obtain ⟨c, e1, e2⟩ := pick (xs := [V.int 1, V.int 9, V.int 1000, V.int (10 ^ (58 : Int).toNat)]) d0 d1
      refine ⟨.int 1, rfl, l3, _, 1, .ref l2, rfl, rfl, .inl (.inl upd_same), rfl, .int d, rfl, l2, _, d, c, rfl, rfl, .inl (.inl (same_upd n3 _ _ upd_same)), e1, ?_⟩
      have ec : ∃ m : Int, c = .int m ∧ 0 < m ∧ m ≤ 10 ^ 58 := by
        simp only [List.mem_cons, List.not_mem_nil, or_false] at e2
        rcases e2 with e | e | e | e <;> exact ⟨_, e, by decide, by decide⟩
      obtain ⟨m, rfl, m0, m1⟩ := ec
      exact fin m m0 m1
end
end Rc

namespace Rc
open PySem PySem.Spec PyProof.Rows L2 RZ
/-! ### dicts by names -/
def dct (zs : List Str) (vs : List V) : List (Key × V) := (zs.zip vs).map fun p => (Sum.inr p.1, p.2)
theorem dct_cons (z : Str) (zs : List Str) (v : V) (vs : List V) : dct (z :: zs) (v :: vs) = (Sum.inr z, v) :: dct zs vs := rfl
theorem dct_mem {zs : List Str} {vs : List V} {kv : Key × V} (h : kv ∈ dct zs vs) : ∃ z ∈ zs, kv.1 = Sum.inr z := by
  unfold dct at h
  obtain ⟨p, hp, rfl⟩ := List.mem_map.mp h
  exact ⟨p.1, (List.of_mem_zip hp).1, rfl⟩
theorem dct_val : ∀ {zs : List Str} {vs : List V} {j : Nat} {z : Str} {v : V}, zs.Nodup → zs[j]? = some z → vs[j]? = some v → valV (dct zs vs) (Sum.inr z : Key) = some v
  | [], _, _, _, _, _, h, _ => by simp at h
  | _ :: _, [], _, _, _, _, _, h => by simp at h
  | y :: zs, u :: vs, 0, z, v, nd, h1, h2 => by
    simp at h1 h2
    subst h1 h2
    rw [dct_cons]
    exact valV_pos rfl
  | y :: zs, u :: vs, j + 1, z, v, nd, h1, h2 => by
    have hn := List.nodup_cons.mp nd
    have h1' : zs[j]? = some z := by simpa using h1
    rw [dct_cons, valV_neg (fun e => hn.1 (by
      have e' : y = z := Sum.inr.inj e
      rw [e']
      exact List.mem_of_getElem? h1'))]
    exact dct_val hn.2 h1' (by simpa using h2)
theorem dct_nokey {zs : List Str} {vs : List V} {z : Str} (h : z ∉ zs) : ∀ kv ∈ dct zs vs, ¬ kv.1 = (Sum.inr z : Key) := fun kv hk e => by
  obtain ⟨y, hy, e'⟩ := dct_mem hk
  rw [e'] at e
  exact h (Sum.inr.inj e ▸ hy)
theorem map_nokey {kvs : List (Key × V)} {k : Key} {v : V} (h : ∀ kv ∈ kvs, ¬ kv.1 = k) : kvs.map (fun kv => if kv.1 = k then (kv.1, v) else kv) = kvs := by
  induction kvs with
  | nil => rfl
  | cons a r ih =>
    rw [List.map_cons, if_neg (h a List.mem_cons_self), ih fun kv hk => h kv (List.mem_cons_of_mem _ hk)]
theorem dct_map : ∀ {zs : List Str} {vs : List V} {j : Nat} {z : Str} {v : V}, zs.Nodup → zs[j]? = some z → (dct zs vs).map (fun kv => if kv.1 = (Sum.inr z : Key) then (kv.1, v) else kv) = dct zs (vs.set j v)
  | [], _, _, _, _, _, h => by simp at h
  | y :: zs, [], _, _, _, _, _ => by simp [dct]
  | y :: zs, u :: vs, 0, z, v, nd, h1 => by
    simp at h1
    subst h1
    have hn := List.nodup_cons.mp nd
    rw [List.set_cons_zero, dct_cons, dct_cons, List.map_cons, if_pos rfl, map_nokey (dct_nokey hn.1)]
  | y :: zs, u :: vs, j + 1, z, v, nd, h1 => by
    have hn := List.nodup_cons.mp nd
    have h1' : zs[j]? = some z := by simpa using h1
    have ne : ¬ (Sum.inr y : Key) = Sum.inr z := fun e => hn.1 (by
      have e' : y = z := Sum.inr.inj e
      rw [e']
      exact List.mem_of_getElem? h1')
    rw [List.set_cons_succ, dct_cons, dct_cons, List.map_cons, if_neg ne, dct_map hn.2 h1']
theorem dct_put {zs : List Str} {vs : List V} {j : Nat} {z : Str} {v : V} (nd : zs.Nodup) (h1 : zs[j]? = some z) (h2 : j < vs.length) : putK (dct zs vs) (Sum.inr z) v = dct zs (vs.set j v) := by
  unfold putK
  have hv := dct_val nd h1 (List.getElem?_eq_getElem h2)
  rw [valV_any, hv, if_pos (show (some vs[j]).isSome = true from rfl)]
  exact dct_map nd h1
theorem put_new {kvs : List (Key × V)} {k : Key} {v : V} (h : ∀ kv ∈ kvs, ¬ kv.1 = k) : putK kvs k v = kvs ++ [(k, v)] := by
  unfold putK
  rw [if_neg]
  rw [List.any_eq_true]
  rintro ⟨kv, hk, e⟩
  exact h kv hk (of_decide_eq_true e)
theorem merge_dct : ∀ (zs : List Str) (vs : List V) (acc : List (Key × V)), zs.Nodup → (∀ kv ∈ acc, ∀ z ∈ zs, ¬ kv.1 = (Sum.inr z : Key)) → mergeK acc (dct zs vs) = acc ++ dct zs vs
  | [], _, acc, _, _ => by simp [dct, mergeK]
  | _ :: _, [], acc, _, _ => by simp [dct, mergeK]
  | z :: zs, v :: vs, acc, nd, h => by
    have hn := List.nodup_cons.mp nd
    rw [dct_cons]
    show mergeK (putK acc (Sum.inr z) v) (dct zs vs) = acc ++ (Sum.inr z, v) :: dct zs vs
    rw [put_new fun kv hk => h kv hk z List.mem_cons_self, merge_dct zs vs _ hn.2 fun kv hk y hy => ?_]
    · rw [List.append_assoc]
      rfl
    · rcases List.mem_append.mp hk with hk | hk
      · exact h kv hk y (List.mem_cons_of_mem _ hy)
      · rw [List.mem_singleton.mp hk]
        intro e
        exact hn.1 (Sum.inr.inj e ▸ hy)
theorem merge_new {zs : List Str} {vs : List V} (nd : zs.Nodup) : mergeK [] (dct zs vs) = dct zs vs := by
  rw [merge_dct zs vs [] nd fun kv hk => absurd hk List.not_mem_nil]
  rfl
theorem dct_len {zs : List Str} {vs : List V} (h : vs.length = zs.length) : (dct zs vs).length = zs.length := by
  unfold dct
  rw [List.length_map, List.length_zip, h, Nat.min_self]
/-! ### the law's model -/
structure MdA where
  m : Addr
  lo : Addr
  dg : Addr
  df : Addr
  dn : Addr
  rs : List Addr
structure Md where
  given : List Int
  fallen : List Int
  notes : List (List (Str × Int))
def MdA.Has (a : MdA) (b : Addr) : Prop := b = a.m ∨ b = a.lo ∨ b = a.dg ∨ b = a.df ∨ b = a.dn ∨ b ∈ a.rs
def keysM : List Str := ["order", "given", "fallen", "notes"]
theorem keysM_nd : keysM.Nodup := by decide +kernel
def MdA.main (a : MdA) : List (Key × V) := dct keysM [.ref a.lo, .ref a.dg, .ref a.df, .ref a.dn]
structure ModelAt (K : PySem.W.Frag) (H : Hp) (zs : List Str) (a : MdA) (D : Md) : Prop where
  hm : H a.m = some (.dK a.main)
  ho : H a.lo = some (.lst (zs.map V.str))
  hg : H a.dg = some (.dK (dct zs (D.given.map V.int)))
  hf : H a.df = some (.dK (dct zs (D.fallen.map V.int)))
  hn : H a.dn = some (.dK (dct zs (a.rs.map V.ref)))
  rows : ∀ (i : Nat) (r : Addr) (l : List (Str × Int)), a.rs[i]? = some r → D.notes[i]? = some l → ∃ xs, H r = some (.lst xs) ∧ DtAll K H xs (notesD l)
  nd : a.rs.Nodup
  olo : a.lo ∉ a.rs
  ogf : a.dg ≠ a.df
  ogn : a.dg ≠ a.dn
  ogm : a.dg ≠ a.m
  omn : a.m ≠ a.dn
  zn : zs.Nodup
  lg : D.given.length = zs.length
  lf : D.fallen.length = zs.length
  ln : D.notes.length = zs.length
  lr : a.rs.length = zs.length
theorem ModelAt.keep {K : PySem.W.Frag} {H H' : Hp} {zs : List Str} {a : MdA} {D : Md} (h : ModelAt K H zs a D) (k : ∀ b o, a.Has b → H b = some o → H' b = some o) (kt : KT H H') : ModelAt K H' zs a D where
  hm := k _ _ (.inl rfl) h.hm
  ho := k _ _ (.inr (.inl rfl)) h.ho
  hg := k _ _ (.inr (.inr (.inl rfl))) h.hg
  hf := k _ _ (.inr (.inr (.inr (.inl rfl)))) h.hf
  hn := k _ _ (.inr (.inr (.inr (.inr (.inl rfl))))) h.hn
  rows := fun i r l e1 e2 => by
    obtain ⟨xs, e, d⟩ := h.rows i r l e1 e2
    exact ⟨xs, k _ _ (.inr (.inr (.inr (.inr (.inr (List.mem_of_getElem? e1)))))) e, DtAll.keepT kt _ (tup_notes l) d⟩
  nd := h.nd
  olo := h.olo
  ogf := h.ogf
  ogn := h.ogn
  ogm := h.ogm
  omn := h.omn
  zn := h.zn
  lg := h.lg
  lf := h.lf
  ln := h.ln
  lr := h.lr
theorem model_same {K : PySem.W.Frag} {H H' : Hp} {zs : List Str} {a : MdA} {D : Md} (h : ModelAt K H zs a D) (s : Same H H') : ModelAt K H' zs a D := h.keep (fun b o _ e => s b o e) (kt_same s)
theorem But.kt {p : Addr} {H H' : Hp} (b : But p H H') (hp : Pot H p) : KT H H' := fun c o e t => b c o (fun z => by
  obtain ⟨x, y, e', _⟩ := hp
  rw [z, e'] at e
  cases e
  exact t) e
theorem model_but {K : PySem.W.Frag} {H H' : Hp} {zs : List Str} {a : MdA} {D : Md} {p : Addr} (h : ModelAt K H zs a D) (b : But p H H') (hp : Pot H p) (n : ¬ a.Has p) : ModelAt K H' zs a D :=
  h.keep (fun c o hc e => b c o (fun z => n (z ▸ hc)) e) (b.kt hp)
def zeros (n : Nat) : List Int := List.replicate n 0
def newMd (n : Nat) : Md := ⟨zeros n, zeros n, List.replicate n []⟩
/-- pairs that a comprehension makes -/
def PairsAt (K : PySem.W.Frag) (H : Hp) (ps : List Addr) (kvs : List (Key × V)) : Prop := Paired (fun p kv => SqT K H p [kV kv.1, kv.2]) ps kvs
theorem Paired.snoc {α β : Type} {R : α → β → Prop} : ∀ {l : List α} {m : List β} {a : α} {b : β}, Paired R l m → R a b → Paired R (l ++ [a]) (m ++ [b])
  | _, _, _, _, .nil, h => .cons h .nil
  | _, _, _, _, .cons r t, h => .cons r (Paired.snoc t h)
theorem pairs_kt {K : PySem.W.Frag} {H H' : Hp} (k : KT H H') : ∀ {ps : List Addr} {kvs : List (Key × V)}, PairsAt K H ps kvs → PairsAt K H' ps kvs
  | _, _, .nil => .nil
  | _, _, .cons r t => .cons (by
      rcases r with (r | ⟨o, r⟩) | r
      · exact .inl (.inl (k _ _ r trivial))
      · exact .inl (.inr ⟨o, k _ _ r trivial⟩)
      · exact .inr r) (pairs_kt k t)
theorem dct_snoc {zs : List Str} {vs : List V} {z : Str} {v : V} (h : vs.length = zs.length) : dct (zs ++ [z]) (vs ++ [v]) = dct zs vs ++ [(Sum.inr z, v)] := by
  unfold dct
  rw [List.zip_append h.symm, List.map_append]
  rfl
theorem take_succ {α : Type} {l : List α} {i : Nat} (h : i < l.length) : l.take (i + 1) = l.take i ++ [l[i]] := by
  rw [List.take_add_one, List.getElem?_eq_getElem h]
  rfl
theorem pairs_step {K : PySem.W.Frag} {H0 H' : Hp} {D t : Addr} {ps : List Addr} {zs : List Str} {vs : List V} {z : Str} {v : V} (nD : H0 D = none) (s : Same H0 H') (hD : H' D = some (.lst (ps.map V.ref))) (hp : PairsAt K H' ps (dct zs vs)) (l : vs.length = zs.length) (nt : H' t = none) :
    Same H0 (upd (upd H' t (.tup [.str z, v])) D (.lst (ps.map V.ref ++ [.ref t]))) ∧ upd (upd H' t (.tup [.str z, v])) D (.lst (ps.map V.ref ++ [.ref t])) D = some (.lst ((ps ++ [t]).map V.ref)) ∧
      PairsAt K (upd (upd H' t (.tup [.str z, v])) D (.lst (ps.map V.ref ++ [.ref t]))) (ps ++ [t]) (dct (zs ++ [z]) (vs ++ [v])) ∧ KT H' (upd (upd H' t (.tup [.str z, v])) D (.lst (ps.map V.ref ++ [.ref t]))) := by
  have tD : t ≠ D := (ne_of_none hD nt).symm
  have kt : KT H' (upd (upd H' t (.tup [.str z, v])) D (.lst (ps.map V.ref ++ [.ref t]))) := (kt_same (same_upd nt)).trans (kt_upd (o := .lst (ps.map V.ref)) (by rw [upd_ne tD.symm]; exact hD) fun z => z)
  refine ⟨fun b o e => ?_, by rw [upd_same, List.map_append]; rfl, ?_, kt⟩
  · rw [upd_ne (ne_of_none e nD), upd_ne (ne_of_none (s b o e) nt)]
    exact s b o e
  · rw [dct_snoc l]
    refine Paired.snoc (pairs_kt kt hp) (.inl (.inl ?_))
    rw [upd_ne tD, upd_same]
    rfl
theorem Paired.len {α β : Type} {R : α → β → Prop} : ∀ {l : List α} {m : List β}, Paired R l m → l.length = m.length
  | _, _, .nil => rfl
  | _, _, .cons _ t => by rw [List.length_cons, List.length_cons, Paired.len t]
section
variable {P : Program} {w : World} {K : PySem.W.Frag} {mg : Str → Option Value} {base : Heap}
abbrev sLMd : Stmt := topS 28
abbrev nLMd : List Str := ["_law_names_here", "_law_name_here"]
theorem scLMd : FnScope nLMd ["_law_names_here"] (defScope sLMd) := ⟨rfl, rfl, rfl, by decide +kernel, rfl, by decide +kernel, by decide +kernel⟩
def spLMd (K : PySem.W.Frag) : Sp := fun vs H Q _ => ∃ (nl : Addr) (zs : List Str), vs = [.ref nl] ∧ H nl = some (.lst (zs.map V.str)) ∧ zs.Nodup ∧ zs.length ≤ 13 ∧ ∀ a H', Same H H' → (∀ b, MdA.Has a b → H b = none) → ModelAt K H' zs a (newMd zs.length) → Q (.ref a.m) H'
theorem ok_lmd {f : Addr} {fd : FuncData} (F : Fun K "_law_model" "_law_model" sLMd f fd) (B3 : Blt3 mg) : FnOk P w K mg base CX0 1 f fd ["_law_names_here"] (spLMd K) := by
  refine F.ok scLMd (fun vs H Q E h => ?_) (fun cdv Ar outer s H vs Q E hr h => ?_)
  · obtain ⟨_, _, rfl, _⟩ := h
    rfl
  · obtain ⟨nl, zs, rfl, hn, nd, lz, q⟩ := h
    refine ⟨_, pss_one (ps_ret (pe_disp (pps_cons pe_str (pe_callTy call_list_of (by rfl) B3.list (by decide +kernel) (pa_cons (pv 0) pa_nil))
      (pps_cons pe_str (pe_callTy (call_dictP rfl) (by rfl) B3.dict (by decide +kernel) (pa_cons (pe_lc (own := [("_law_name_here", 1)]) (g := gName 1) (tt := tYes) rfl scLMd.nd (pi_list (pv 0)) (blkOk_by (N := nLMd) (sc := defScope sLMd) (own := [("_law_name_here", 1)]) (by decide +kernel))
          (fun _ _ _ _ _ => pg_name (i := 1) scLMd.nd rfl (.inl rfl) (hf := .inr rfl)) (fun _ _ _ _ _ => pts_nil) (fun _ _ _ _ _ => pe_tup (pa_cons (pv 1) (pa_cons pe_int pa_nil)))) pa_nil))
      (pps_cons pe_str (pe_callTy (call_dictP rfl) (by rfl) B3.dict (by decide +kernel) (pa_cons (pe_lc (own := [("_law_name_here", 1)]) (g := gName 1) (tt := tYes) rfl scLMd.nd (pi_list (pv 0)) (blkOk_by (N := nLMd) (sc := defScope sLMd) (own := [("_law_name_here", 1)]) (by decide +kernel))
          (fun _ _ _ _ _ => pg_name (i := 1) scLMd.nd rfl (.inl rfl) (hf := .inr rfl)) (fun _ _ _ _ _ => pts_nil) (fun _ _ _ _ _ => pe_tup (pa_cons (pv 1) (pa_cons pe_int pa_nil)))) pa_nil))
      (pps_cons pe_str (pe_callTy (call_dictP rfl) (by rfl) B3.dict (by decide +kernel) (pa_cons (pe_lc (own := [("_law_name_here", 1)]) (g := gName 1) (tt := tYes) rfl scLMd.nd (pi_list (pv 0)) (blkOk_by (N := nLMd) (sc := defScope sLMd) (own := [("_law_name_here", 1)]) (by decide +kernel))
          (fun _ _ _ _ _ => pg_name (i := 1) scLMd.nd rfl (.inl rfl) (hf := .inr rfl)) (fun _ _ _ _ _ => pts_nil) (fun _ _ _ _ _ => pe_tup (pa_cons (pv 1) (pa_cons (pe_lst pa_nil) pa_nil)))) pa_nil)) pps_nil)))) (by rfl) (by rfl) (fun z => by cases z) (by show 4 ≤ 15; decide))), ?_⟩
    intro m nm
    have s1 := same_upd (o := .dK []) nm
    have sq : SqL K H nl (zs.map V.str) := .inl (.inl hn)
    refine ⟨.ref nl, rfl, nl, _, rfl, .inl (s1.seq sq), fun lo nlo => ?_⟩
    have s2 := s1.trans (same_upd (o := .lst (zs.map V.str)) nlo)
    generalize hH2 : upd (upd H m (.dK [])) lo (.lst (zs.map V.str)) = H2 at s2
    have hm2 : H2 m = some (.dK []) := by
      rw [← hH2, upd_ne (by intro e; rw [← e, upd_same] at nlo; cases nlo), upd_same]
    have hl2 : H2 lo = some (.lst (zs.map V.str)) := by
      rw [← hH2, upd_same]
    have nloH : H lo = none := s1.free nlo
    have step0 : ∀ (H0 H' : Hp) (D : Addr) (ps : List Addr) (i : Nat) (hi : i < zs.length), H0 D = none → Same H0 H' → H' D = some (.lst (ps.map V.ref)) → PairsAt K H' ps (dct (zs.take i) ((zeros i).map V.int)) → ∀ t, H' t = none →
        Same H0 (upd (upd H' t (.tup [.str zs[i], .int 0])) D (.lst (ps.map V.ref ++ [.ref t]))) ∧ ∃ ps', upd (upd H' t (.tup [.str zs[i], .int 0])) D (.lst (ps.map V.ref ++ [.ref t])) D = some (.lst (List.map V.ref ps')) ∧
          PairsAt K (upd (upd H' t (.tup [.str zs[i], .int 0])) D (.lst (ps.map V.ref ++ [.ref t]))) ps' (dct (zs.take (i + 1)) ((zeros (i + 1)).map V.int)) := fun H0 H' D ps i hi nD sm hD hp t nt => by
      obtain ⟨a1, a2, a3, _⟩ := pairs_step (z := zs[i]) (v := .int 0) nD sm hD hp (by unfold zeros; rw [List.length_map, List.length_replicate, List.length_take]; omega) nt
      refine ⟨a1, ps ++ [t], a2, ?_⟩
      rw [take_succ hi, show (zeros (i + 1)).map V.int = (zeros i).map V.int ++ [.int 0] by unfold zeros; rw [List.replicate_succ', List.map_append]; rfl]
      exact a3
    have full : zs.take zs.length = zs := List.take_length
    have lenz : (zs.map V.str).length = zs.length := List.length_map ..
    have smallP : ∀ {H' : Hp} {ps : List Addr} {i : Nat} {vs : List V}, i < zs.length → vs.length = i → PairsAt K H' ps (dct (zs.take i) vs) → (ps.map V.ref).length < sizeLine := fun {H' ps i vs} hi hv hp => by
      rw [List.length_map, Paired.len hp]
      unfold dct
      rw [List.length_map, List.length_zip]
      exact small1000 (by omega)
    have lenZ : ∀ i, ((zeros i).map V.int).length = i := fun i => by
      unfold zeros
      rw [List.length_map, List.length_replicate]
    have strAt : ∀ {i : Nat} {x : V} (hi : i < zs.length), (zs.map V.str)[i]? = some x → x = .str zs[i] := fun {i x} hi e => by
      rw [List.getElem?_map, List.getElem?_eq_getElem hi] at e
      exact (Option.some.inj e).symm
    -- 'given'
    refine ⟨.ref nl, rfl, nl, rfl, ⟨_, s2.seq sq⟩, fun D1 nD1 => ?_⟩
    refine lc_it (walk_list (K := K) (a := nl) (xs := zs.map V.str)) (fun i H' => Same H2 H' ∧ ∃ ps, H' D1 = some (.lst (List.map V.ref ps)) ∧ PairsAt K H' ps (dct (zs.take i) ((zeros i).map V.int))) ⟨same_upd nD1, [], upd_same, .nil⟩ (fun i H' _ hP => hP.1.seq (s2.seq sq))
      (fun i x H3' H3 hi hP hY => ?_) (fun H3 hP => ?_)
    · obtain ⟨rfl, hx⟩ := hY
      rw [lenz] at hi
      obtain ⟨sm, ps, hD, hp⟩ := hP
      cases strAt hi hx
      refine ⟨rfl, _, rfl, by show 2 ≤ sizeLine; decide, fun t nt => ⟨_, by rw [upd_ne (ne_of_none hD nt)]; exact hD, smallP hi (lenZ i) hp, ?_⟩⟩
      exact step0 H2 H3 D1 ps i hi nD1 sm hD hp t nt
    obtain ⟨s3, ps1, hD1, hp1⟩ := hP
    rw [lenz, full] at hp1
    refine ⟨D1, ps1, _, rfl, .inl (.inl hD1), hp1, fun dg ndg => ?_⟩
    rw [merge_new nd]
    have s4 := s3.trans (same_upd (o := .dK (dct zs ((zeros zs.length).map V.int))) ndg)
    generalize hH4 : upd H3 dg (.dK (dct zs ((zeros zs.length).map V.int))) = H4 at s4
    have hg4 : H4 dg = some (.dK (dct zs ((zeros zs.length).map V.int))) := by
      rw [← hH4, upd_same]
    have ndgH : H2 dg = none := s3.free ndg
    -- 'fallen'
    refine ⟨.ref nl, rfl, nl, rfl, ⟨_, s4.seq (s2.seq sq)⟩, fun D2 nD2 => ?_⟩
    refine lc_it (walk_list (K := K) (a := nl) (xs := zs.map V.str)) (fun i H' => Same H4 H' ∧ ∃ ps, H' D2 = some (.lst (List.map V.ref ps)) ∧ PairsAt K H' ps (dct (zs.take i) ((zeros i).map V.int))) ⟨same_upd nD2, [], upd_same, .nil⟩ (fun i H' _ hP => hP.1.seq (s4.seq (s2.seq sq)))
      (fun i x H5' H5 hi hP hY => ?_) (fun H5 hP => ?_)
    · obtain ⟨rfl, hx⟩ := hY
      rw [lenz] at hi
      obtain ⟨sm, ps, hD, hp⟩ := hP
      cases strAt hi hx
      refine ⟨rfl, _, rfl, by show 2 ≤ sizeLine; decide, fun t nt => ⟨_, by rw [upd_ne (ne_of_none hD nt)]; exact hD, smallP hi (lenZ i) hp, ?_⟩⟩
      exact step0 H4 H5 D2 ps i hi nD2 sm hD hp t nt
    obtain ⟨s5, ps2, hD2, hp2⟩ := hP
    rw [lenz, full] at hp2
    refine ⟨D2, ps2, _, rfl, .inl (.inl hD2), hp2, fun df ndf => ?_⟩
    rw [merge_new nd]
    have s6 := s5.trans (same_upd (o := .dK (dct zs ((zeros zs.length).map V.int))) ndf)
    generalize hH6 : upd H5 df (.dK (dct zs ((zeros zs.length).map V.int))) = H6 at s6
    have hf6 : H6 df = some (.dK (dct zs ((zeros zs.length).map V.int))) := by
      rw [← hH6, upd_same]
    have ndfH : H4 df = none := s5.free ndf
    -- 'notes'
    have s26 := s4.trans s6
    refine ⟨.ref nl, rfl, nl, rfl, ⟨_, s26.seq (s2.seq sq)⟩, fun D3 nD3 => ?_⟩
    refine lc_it (walk_list (K := K) (a := nl) (xs := zs.map V.str)) (fun i H' => Same H6 H' ∧ ∃ ps rs, H' D3 = some (.lst (List.map V.ref ps)) ∧ rs.length = i ∧ PairsAt K H' ps (dct (zs.take i) (List.map V.ref rs)) ∧ rs.Nodup ∧ (∀ r ∈ rs, H6 r = none ∧ r ≠ D3 ∧ H' r = some (.lst [])))
      ⟨same_upd nD3, [], [], upd_same, rfl, .nil, List.nodup_nil, fun r hr => absurd hr List.not_mem_nil⟩ (fun i H' _ hP => hP.1.seq (s26.seq (s2.seq sq))) (fun i x H7' H7 hi hP hY => ?_) (fun H7 hP => ?_)
    · obtain ⟨rfl, hx⟩ := hY
      rw [lenz] at hi
      obtain ⟨sm, ps, rs, hD, lrs, hp, nrs, hrs⟩ := hP
      cases strAt hi hx
      refine ⟨rfl, _, rfl, Nat.zero_le _, fun e ne => ⟨by show 2 ≤ sizeLine; decide, fun t nt => ?_⟩⟩
      have se := same_upd (o := .lst []) ne
      have hDe := se _ _ hD
      have eD : e ≠ D3 := (ne_of_none hD ne).symm
      have hpe := pairs_kt (kt_same se) hp
      refine ⟨_, by rw [upd_ne (ne_of_none hDe nt)]; exact hDe, smallP hi (by rw [List.length_map, lrs]) hp, ?_⟩
      obtain ⟨a1, a2, a3, a4⟩ := pairs_step (z := zs[i]) (v := .ref e) nD3 (sm.trans se) hDe hpe (by rw [List.length_map, List.length_take, lrs]; omega) nt
      have et : e ≠ t := ne_of_none (upd_same (H := H7)) nt
      refine ⟨a1, ps ++ [t], rs ++ [e], a2, by rw [List.length_append, lrs]; rfl, ?_, ?_, fun r hr => ?_⟩
      · rw [take_succ hi, List.map_append]
        exact a3
      · rw [List.nodup_append]
        refine ⟨nrs, by simp, fun a ha b hb z => ?_⟩
        rw [List.mem_singleton.mp hb] at z
        have := (hrs a ha).2.2
        rw [z, ne] at this
        cases this
      · rcases List.mem_append.mp hr with hr | hr
        · obtain ⟨b1, b2, b3⟩ := hrs r hr
          exact ⟨b1, b2, by rw [upd_ne b2, upd_ne (ne_of_none (se _ _ b3) nt)]; exact se _ _ b3⟩
        · rw [List.mem_singleton.mp hr]
          exact ⟨sm.free ne, eD, by rw [upd_ne eD, upd_ne et, upd_same]⟩
    obtain ⟨s7, ps3, rs, hD3, lrs, hp3, nrs, hrs⟩ := hP
    rw [lenz] at lrs
    rw [lenz, full] at hp3
    refine ⟨D3, ps3, _, rfl, .inl (.inl hD3), hp3, fun dn ndn => ?_⟩
    rw [merge_new nd]
    have s8 := s7.trans (same_upd (o := .dK (dct zs (List.map V.ref rs))) ndn)
    have s28 := s26.trans s8
    refine ⟨s28 _ _ hm2, dct keysM [.ref lo, .ref dg, .ref df, .ref dn], rfl, by show 4 ≤ 15; decide, ?_⟩
    rw [merge_new keysM_nd]
    have hm8 : upd H7 dn (.dK (dct zs (List.map V.ref rs))) m = some (.dK []) := s28 _ _ hm2
    generalize hH8 : upd H7 dn (.dK (dct zs (List.map V.ref rs))) = H8 at s8 s28 hm8
    have hn8 : H8 dn = some (.dK (dct zs (List.map V.ref rs))) := by
      rw [← hH8, upd_same]
    have nH2 : ∀ {b : Addr}, H2 b = none → H b = none := fun {b} h => s2.free h
    have mne : ∀ {b : Addr}, H2 b = none → b ≠ m := fun {b} h => (ne_of_none hm2 h).symm
    have sM : ∀ b o, b ≠ m → H8 b = some o → upd H8 m (.dK (MdA.main ⟨m, lo, dg, df, dn, rs⟩)) b = some o := fun b o n e => by
      rw [upd_ne n]
      exact e
    have dn2 : H2 dn = none := s26.free (s7.free ndn)
    have df2 : H2 df = none := s4.free ndfH
    have rs2 : ∀ r ∈ rs, H2 r = none := fun r hr => s26.free (hrs r hr).1
    have lom : lo ≠ m := fun z => by
      rw [z, hm2] at hl2
      cases hl2
    refine q ⟨m, lo, dg, df, dn, rs⟩ (upd H8 m (.dK (MdA.main ⟨m, lo, dg, df, dn, rs⟩))) (fun b o e => ?_) (fun b hb => ?_) ?_
    · rw [upd_ne (ne_of_none e nm)]
      exact s28 _ _ (s2 _ _ e)
    · rcases hb with h | h | h | h | h | h
      · rw [h]; exact nm
      · rw [h]; exact nloH
      · rw [h]; exact nH2 ndgH
      · rw [h]; exact nH2 df2
      · rw [h]; exact nH2 dn2
      · exact nH2 (rs2 b h)
    · refine ⟨upd_same, sM _ _ lom (s28 _ _ hl2), sM _ _ (mne ndgH) (s8 _ _ (s6 _ _ hg4)), sM _ _ (mne df2) (s8 _ _ hf6), sM _ _ (mne dn2) hn8, fun i r l e1 e2 => ?_, nrs, fun hc => ?_, fun z => ?_, fun z => ?_, mne ndgH, (mne dn2).symm, nd, ?_, ?_, ?_, lrs⟩
      · have hr := List.mem_of_getElem? e1
        have el : l = [] := by
          have e2' : (List.replicate zs.length ([] : List (Str × Int)))[i]? = some l := e2
          rw [List.getElem?_replicate] at e2'
          split at e2'
          · exact (Option.some.inj e2').symm
          · cases e2'
        subst el
        refine ⟨[], sM _ _ (mne (rs2 r hr)) ?_, .nil⟩
        rw [← hH8, upd_ne (ne_of_none (hrs r hr).2.2 ndn)]
        exact (hrs r hr).2.2
      · have := rs2 lo hc
        rw [hl2] at this
        cases this
      · have z' : dg = df := z
        rw [← z', hg4] at ndfH
        cases ndfH
      · have z' : dg = dn := z
        have := s7.free ndn
        rw [← z', s6 _ _ hg4] at this
        cases this
      · unfold newMd zeros
        exact List.length_replicate
      · unfold newMd zeros
        exact List.length_replicate
      · unfold newMd
        exact List.length_replicate
end
end Rc

namespace Rc
open PySem PySem.Spec PyProof.Rows L2 RZ
theorem dget_at {H : Hp} {a : Addr} {zs : List Str} {vs : List V} {j : Nat} {z : Str} {v : V} (h : H a = some (.dK (dct zs vs))) (nd : zs.Nodup) (e1 : zs[j]? = some z) (e2 : vs[j]? = some v) : DGet H a (.str z) (some v) := by
  have := DGet.k (k := Sum.inr z) h
  rw [dct_val nd e1 e2] at this
  exact this
section
variable {K : PySem.W.Frag} {H : Hp} {zs : List Str} {a : MdA} {D : Md}
theorem ModelAt.g0 (h : ModelAt K H zs a D) : DGet H a.m (.str "order") (some (.ref a.lo)) := dget_at (j := 0) h.hm keysM_nd rfl rfl
theorem ModelAt.g1 (h : ModelAt K H zs a D) : DGet H a.m (.str "given") (some (.ref a.dg)) := dget_at (j := 1) h.hm keysM_nd rfl rfl
theorem ModelAt.g2 (h : ModelAt K H zs a D) : DGet H a.m (.str "fallen") (some (.ref a.df)) := dget_at (j := 2) h.hm keysM_nd rfl rfl
theorem ModelAt.g3 (h : ModelAt K H zs a D) : DGet H a.m (.str "notes") (some (.ref a.dn)) := dget_at (j := 3) h.hm keysM_nd rfl rfl
theorem ModelAt.gg (h : ModelAt K H zs a D) {j : Nat} {z : Str} {n : Int} (e : zs[j]? = some z) (e2 : D.given[j]? = some n) : DGet H a.dg (.str z) (some (.int n)) := dget_at h.hg h.zn e (map_get e2)
theorem ModelAt.gf (h : ModelAt K H zs a D) {j : Nat} {z : Str} {n : Int} (e : zs[j]? = some z) (e2 : D.fallen[j]? = some n) : DGet H a.df (.str z) (some (.int n)) := dget_at h.hf h.zn e (map_get e2)
theorem ModelAt.gn (h : ModelAt K H zs a D) {j : Nat} {z : Str} {r : Addr} (e : zs[j]? = some z) (e2 : a.rs[j]? = some r) : DGet H a.dn (.str z) (some (.ref r)) := dget_at h.hn h.zn e (map_get e2)
theorem ModelAt.at_ (h : ModelAt K H zs a D) {j : Nat} {z : Str} (e : zs[j]? = some z) : ∃ g f l r xs, D.given[j]? = some g ∧ D.fallen[j]? = some f ∧ D.notes[j]? = some l ∧ a.rs[j]? = some r ∧ H r = some (.lst xs) ∧ DtAll K H xs (notesD l) := by
  have hj : j < zs.length := (List.getElem?_eq_some_iff.mp e).1
  have h1 : j < D.given.length := by rw [h.lg]; exact hj
  have h2 : j < D.fallen.length := by rw [h.lf]; exact hj
  have h3 : j < D.notes.length := by rw [h.ln]; exact hj
  have h4 : j < a.rs.length := by rw [h.lr]; exact hj
  obtain ⟨xs, e1, e2⟩ := h.rows j _ _ (List.getElem?_eq_getElem h4) (List.getElem?_eq_getElem h3)
  exact ⟨_, _, _, _, xs, List.getElem?_eq_getElem h1, List.getElem?_eq_getElem h2, List.getElem?_eq_getElem h3, List.getElem?_eq_getElem h4, e1, e2⟩
end
theorem min_part (am f : Int) : (if am < f then am else f) = partOf am f := by
  unfold partOf
  split <;> split <;> omega
section
variable {P : Program} {w : World} {K : PySem.W.Frag} {mg : Str → Option Value} {base : Heap}
/-! ### _law_parted -/
abbrev sLPt : Stmt := topS 29
abbrev nLPt : List Str := ["_law_model_here", "_law_who", "_law_gone", "_law_left_here", "_law_rest", "_law_to", "_law_amount_here", "_law_here"]
theorem scLPt : FnScope nLPt ["_law_model_here", "_law_who"] (defScope sLPt) := ⟨rfl, rfl, rfl, by decide +kernel, rfl, by decide +kernel, by decide +kernel⟩
def spLPt (K : PySem.W.Frag) : Sp := fun vs H Q _ => ∃ (a : MdA) (D : Md) (zs : List Str) (z : Str) (j : Nat) (l : List (Str × Int)) (f : Int), vs = [.ref a.m, .str z] ∧ ModelAt K H zs a D ∧ zs[j]? = some z ∧ D.notes[j]? = some l ∧ D.fallen[j]? = some f ∧ l.length ≤ 100 ∧
  ∀ t g m gx mx H', Same H H' → H' t = some (.tup [.ref g, .ref m]) → H g = none → H m = none → H' g = some (.lst gx) → H' m = some (.lst mx) → DtAll K H' gx (notesD (goneN l f)) → DtAll K H' mx (notesD (leftN l f)) → Q (.ref t) H'
theorem rep_if {v : V} (c : Prop) [Decidable c] : (List.replicate (if decide c = true then (1 : Int) else 0).toNat [v]).flatten = if c then [v] else [] := by
  by_cases h : c
  · rw [decide_eq_true h, if_pos h]
    rfl
  · rw [decide_eq_false h, if_neg h]
    rfl
theorem one_note {K : PySem.W.Frag} {H : Hp} {v : V} {n : Str × Int} (c : Prop) [Decidable c] (h : Dt K H v (noteD n)) : DtAll K H (if c then [v] else []) ((if c then [n] else []).map noteD) := by
  by_cases hc : c
  · rw [if_pos hc, if_pos hc]
    exact .cons h .nil
  · rw [if_neg hc, if_neg hc]
    exact .nil
theorem ok_lpt {f : Addr} {fd : FuncData} (F : Fun K "_law_parted" "_law_parted" sLPt f fd) (B : Blt mg) (B2 : Blt2 mg) : FnOk P w K mg base CX0 1 f fd ["_law_model_here", "_law_who"] (spLPt K) := by
  refine F.ok scLPt (fun vs H Q E h => ?_) (fun cdv Ar outer s H vs Q E hr h => ?_)
  · obtain ⟨_, _, _, _, _, _, _, rfl, _⟩ := h
    rfl
  · obtain ⟨a, D, zs, z, j, l, f0, rfl, hM, ej, el, ef, ll, q⟩ := h
    have hu := hu_of hr
    refine ⟨_, pss_cons (ps_par (i := 2) (j := 3) rfl scLPt.nd rfl rfl (by decide) rfl rfl (pa_cons (pe_lst pa_nil) (pa_cons (pe_lst pa_nil) pa_nil)) (by rfl))
      (pss_cons (ps_set (i := 4) scLPt.nd rfl (.inl rfl) (pe_dget hu (pe_dget hu (pv 0) pe_str (fun _ _ => rfl)) (pv 1) (fun _ _ => rfl)))
      (pss_cons (ps_for PassesOwn.never rfl (pi_list (pe_dget hu (pe_dget hu (pv 0) pe_str (fun _ _ => rfl)) (pv 1) (fun _ _ => rfl))) (pg_tup rfl (pgs_cons (pg_name (i := 5) scLPt.nd rfl (.inl rfl)) (pgs_cons (pg_name (i := 6) scLPt.nd rfl (.inl rfl)) pgs_nil)))
        (pss_cons (ps_set (i := 7) scLPt.nd rfl (.inl rfl) (pe_callB (call_min2 rfl) (by rfl) B2.min (by decide +kernel) (pa_cons (pv 4) (pa_cons (pv 6) pa_nil))))
        (pss_cons (ps_set (i := 4) scLPt.nd rfl (.inl rfl) (pe_op op_sub (pv 4) (pv 7)))
        (pss_cons (ps_set (i := 2) scLPt.nd rfl (.inl rfl) (pe_op op_cat (pv 2) (pe_op op_rep (pe_lst (pa_cons (pe_tup (pa_cons (pv 5) (pa_cons (pv 7) pa_nil))) pa_nil)) (pe_callTy call_int1 (by rfl) B.int (by decide +kernel) (pa_cons (pe_cmpR op_gt (pv 7) pe_int (nomark _)) pa_nil)))))
        (pss_one (ps_set (i := 3) scLPt.nd rfl (.inl rfl) (pe_op op_cat (pv 3) (pe_op op_rep (pe_lst (pa_cons (pe_tup (pa_cons (pv 5) (pa_cons (pe_op op_sub (pv 6) (pv 7)) pa_nil))) pa_nil)) (pe_callTy call_int1 (by rfl) B.int (by decide +kernel) (pa_cons (pe_cmpR op_lt (pv 7) (pv 6) (nomark _)) pa_nil))))))))))
      (pss_one (ps_ret (pe_tup (pa_cons (pv 2) (pa_cons (pv 3) pa_nil))))))), ?_⟩
    obtain ⟨gv, f', l', r, xs, eg, ef', el', er, hr0, hd0⟩ := hM.at_ ej
    rw [ef] at ef'
    cases ef'
    rw [el] at el'
    cases el'
    refine ⟨Nat.zero_le _, fun g ng => ⟨Nat.zero_le _, fun m nm => ⟨_, _, rfl, ?_⟩⟩⟩
    have gm : g ≠ m := fun z => by
      rw [← z, upd_same] at nm
      cases nm
    have s0 : Same H (upd (upd H g (.lst [])) m (.lst [])) := (same_upd ng).trans (same_upd nm)
    have nmH : H m = none := (same_upd ng).free nm
    have hM0 := model_same hM s0
    refine ⟨.ref a.m, rfl, a.m, .ref a.df, rfl, hM0.g2, .str z, rfl, a.df, .int f0, rfl, hM0.gf ej ef, ?_⟩
    refine ⟨.ref a.m, rfl, a.m, .ref a.dn, rfl, hM0.g3, .str z, rfl, a.dn, .ref r, rfl, hM0.gn ej er, r, rfl, ⟨_, .inl (.inl (s0 _ _ hr0))⟩, ?_⟩
    refine for_it (walk_list (K := K) (a := r) (xs := xs)) (fun i σ H' => ∃ y5 y6 y7 fi g m gx mx Gs Ms, σ = [some (.ref a.m), some (.str z), some (.ref g), some (.ref m), some (.int fi), y5, y6, y7] ∧ Same H H' ∧ H g = none ∧ H m = none ∧ H' g = some (.lst gx) ∧ H' m = some (.lst mx) ∧
        DtAll K H' gx (notesD Gs) ∧ DtAll K H' mx (notesD Ms) ∧ Gs.length ≤ i ∧ Ms.length ≤ i ∧ Gs ++ goneN (l.drop i) fi = goneN l f0 ∧ Ms ++ leftN (l.drop i) fi = leftN l f0)
      ⟨_, _, _, f0, g, m, [], [], [], [], rfl, s0, ng, nmH, by rw [upd_ne gm, upd_same], upd_same, .nil, .nil, Nat.le_refl _, Nat.le_refl _, rfl, rfl⟩ (fun i σ H' _ hP => ?_) (fun i x σ H1' H1 hi hP hY => ?_) (fun σ H' hP => ?_)
    · obtain ⟨_, _, _, _, _, _, _, _, _, _, _, s1, _⟩ := hP
      exact .inl (.inl (s1 _ _ hr0))
    · obtain ⟨rfl, ex⟩ := hY
      obtain ⟨y5, y6, y7, fi, g, m, gx, mx, Gs, Ms, rfl, s1, ng, nm, hg, hm, dg, dm, lg, lm, eg', em⟩ := hP
      obtain ⟨hil, dn⟩ := (DtAll.same s1 _ hd0).notes_get ex
      obtain ⟨ta, rfl, qt⟩ := note_inv dn
      have ed : l.drop i = l[i] :: l.drop (i + 1) := List.drop_eq_getElem_cons hil
      rw [ed] at eg' em
      obtain ⟨t, am, el1⟩ : ∃ t am, l[i] = (t, am) := ⟨_, _, rfl⟩
      rw [el1] at eg' em qt
      rw [goneN_cons] at eg'
      rw [leftN_cons] at em
      have dgl := dg.len
      have dml := dm.len
      unfold notesD at dgl dml
      rw [List.length_map] at dgl dml
      refine ⟨ta, _, rfl, qt, rfl, _, _, rfl, _, _, rfl, rfl, ?_⟩
      refine ⟨.int fi, rfl, .int am, rfl, _, _, rfl, ?_⟩
      rw [min_part]
      generalize partOf am fi = pt at eg' em
      refine ⟨.int fi, rfl, .int pt, rfl, _, _, rfl, rfl, ?_⟩
      refine ⟨.ref g, rfl, .str t, rfl, .int pt, rfl, by show 2 ≤ sizeLine; decide, fun t1 n1 => ⟨by show 1 ≤ sizeLine; decide, fun l1 nl1 => ?_⟩⟩
      refine ⟨.int pt, rfl, _, _, rfl, rfl, .inr ⟨_, rfl, l1, _, _, rfl, rfl, upd_same, by split <;> decide, by split <;> decide, ?_, fun l2 nl2 => ?_⟩⟩
      · show 1 * _ ≤ sizeLine
        split <;> decide
      rw [rep_if]
      have sA := (same_upd (o := .tup [V.str t, V.int pt]) n1).trans ((same_upd (o := .lst [V.ref t1]) nl1).trans (same_upd (o := .lst (if 0 < pt then [V.ref t1] else [])) nl2))
      generalize hHA : upd (upd (upd H1 t1 (.tup [V.str t, V.int pt])) l1 (.lst [V.ref t1])) l2 (.lst (if 0 < pt then [V.ref t1] else [])) = HA at sA
      have hl2 : HA l2 = some (.lst (if 0 < pt then [V.ref t1] else [])) := by
        rw [← hHA, upd_same]
      have ht1 : HA t1 = some (.tup [V.str t, V.int pt]) := by
        rw [← hHA]
        exact (same_upd nl2) _ _ ((same_upd nl1) _ _ upd_same)
      refine ⟨g, l2, gx, _, rfl, rfl, sA _ _ hg, hl2, ?_, fun g2 ng2 => ?_⟩
      · have : (if 0 < pt then [V.ref t1] else []).length ≤ 1 := by split <;> simp
        exact small_line (by omega)
      have sB := sA.trans (same_upd (o := .lst (gx ++ if 0 < pt then [V.ref t1] else [])) ng2)
      generalize hHB : upd HA g2 (.lst (gx ++ if 0 < pt then [V.ref t1] else [])) = HB at sB
      have hg2 : HB g2 = some (.lst (gx ++ if 0 < pt then [V.ref t1] else [])) := by
        rw [← hHB, upd_same]
      have ht1B : HB t1 = some (.tup [V.str t, V.int pt]) := by
        rw [← hHB]
        exact same_upd ng2 _ _ ht1
      have ng2H : H g2 = none := (s1.trans sA).free ng2
      -- left
      refine ⟨.ref m, rfl, .str t, rfl, .int am, rfl, .int pt, rfl, _, _, rfl, rfl, by show 2 ≤ sizeLine; decide, fun t3 n3 => ⟨by show 1 ≤ sizeLine; decide, fun l3 nl3 => ?_⟩⟩
      refine ⟨.int pt, rfl, .int am, rfl, _, _, rfl, rfl, .inr ⟨_, rfl, l3, _, _, rfl, rfl, upd_same, by split <;> decide, by split <;> decide, ?_, fun l4 nl4 => ?_⟩⟩
      · show 1 * _ ≤ sizeLine
        split <;> decide
      rw [rep_if]
      have sC := (same_upd (o := .tup [V.str t, V.int (am - pt)]) n3).trans ((same_upd (o := .lst [V.ref t3]) nl3).trans (same_upd (o := .lst (if pt < am then [V.ref t3] else [])) nl4))
      generalize hHC : upd (upd (upd HB t3 (.tup [V.str t, V.int (am - pt)])) l3 (.lst [V.ref t3])) l4 (.lst (if pt < am then [V.ref t3] else [])) = HC at sC
      have hl4 : HC l4 = some (.lst (if pt < am then [V.ref t3] else [])) := by
        rw [← hHC, upd_same]
      have ht3 : HC t3 = some (.tup [V.str t, V.int (am - pt)]) := by
        rw [← hHC]
        exact (same_upd nl4) _ _ ((same_upd nl3) _ _ upd_same)
      refine ⟨m, l4, mx, _, rfl, rfl, sC _ _ (sB _ _ hm), hl4, ?_, fun m2 nm2 => ?_⟩
      · have : (if pt < am then [V.ref t3] else []).length ≤ 1 := by split <;> simp
        exact small_line (by omega)
      have sD := sC.trans (same_upd (o := .lst (mx ++ if pt < am then [V.ref t3] else [])) nm2)
      have sE := same_upd (o := .lst (mx ++ if pt < am then [V.ref t3] else [])) nm2
      refine ⟨_, _, _, fi - pt, g2, m2, _, _, Gs ++ (if 0 < pt then [(t, pt)] else []), Ms ++ (if pt < am then [(t, am - pt)] else []), rfl, s1.trans (sB.trans sD), ng2H, ((s1.trans sB).trans sC).free nm2, sD _ _ hg2, upd_same, ?_, ?_, ?_, ?_, by rw [List.append_assoc]; exact eg', by rw [List.append_assoc]; exact em⟩
      · unfold notesD
        rw [List.map_append]
        exact (DtAll.same (sB.trans sD) _ dg).append (one_note _ (.tup (.inl (.inl (sD _ _ ht1B))) (.cons (.str _) (.cons (.int _) .nil))))
      · unfold notesD
        rw [List.map_append]
        exact (DtAll.same (sB.trans sD) _ dm).append (one_note _ (.tup (.inl (.inl (sE _ _ ht3))) (.cons (.str _) (.cons (.int _) .nil))))
      · rw [List.length_append]
        have : (if 0 < pt then [(t, pt)] else []).length ≤ 1 := by split <;> simp
        omega
      · rw [List.length_append]
        have : (if pt < am then [(t, am - pt)] else []).length ≤ 1 := by split <;> simp
        omega
    · obtain ⟨y5, y6, y7, fi, g, m, gx, mx, Gs, Ms, rfl, s1, ng, nm, hg, hm, dg, dm, lg, lm, eg', em⟩ := hP
      have hx : l.drop xs.length = [] := List.drop_of_length_le (by
        have := hd0.len
        unfold notesD at this
        rw [List.length_map] at this
        omega)
      rw [hx] at eg' em
      rw [goneN_nil, List.append_nil] at eg'
      rw [leftN_nil, List.append_nil] at em
      subst eg' em
      refine ⟨.ref g, rfl, .ref m, rfl, by show 2 ≤ sizeLine; decide, fun t nt => ?_⟩
      have st := same_upd (o := .tup [.ref g, .ref m]) nt
      exact q t g m gx mx _ (s1.trans st) upd_same ng nm (st _ _ hg) (st _ _ hm) (DtAll.same st _ dg) (DtAll.same st _ dm)
end
end Rc

namespace Rc
open PySem PySem.Spec PyProof.Rows L2 RZ
/-! ### _law_deeds -/
inductive Deed where
  | give (z : Str) (n : Int)
  | put (z y : Str) (n : Int)
def deedD : Deed → PyData
  | .give z n => .tuple [.str "give", .str z, .int n]
  | .put z y n => .tuple [.str "put", .str z, .str y, .int n]
theorem tup_deed (d : Deed) : tupD (deedD d) = true := by cases d <;> simp [deedD, tupD, tupDs]
def deedsD (l : List Deed) : List PyData := l.map deedD
theorem tup_deeds (l : List Deed) : tupDs (deedsD l) = true := tupDs_map tup_deed l
def Deed.Ok (zs : List Str) : Deed → Prop
  | .give z n => z ∈ zs ∧ Amt n
  | .put z y n => z ∈ zs ∧ y ∈ zs ∧ Amt n
end Rc

namespace Rc
open PySem PySem.Spec PyProof.Rows L2 RZ
def RowsOk (D : Md) : Prop := ∀ l ∈ D.notes, l.length ≤ 60
def sumsD (D : Md) (z : Str) : Int := ((D.notes.zip D.fallen).map fun p => sumTo z (goneN p.1 p.2)).sum
def cashD (D : Md) (j : Nat) (z : Str) : Int := D.given.getD j 0 - D.fallen.getD j 0 + sumsD D z
def bkOf (zs : List Str) (D : Md) : Bk := ⟨zs, D.given, D.notes, D.fallen⟩
theorem cash_eq (zs : List Str) (D : Md) (j : Nat) (z : Str) : cashM (bkOf zs D) j z = cashD D j z := by
  show D.given.getD j 0 + sumsD D z - D.fallen.getD j 0 = D.given.getD j 0 - D.fallen.getD j 0 + sumsD D z
  omega
def doneD (zs : List Str) (D : Md) : Deed → Md
  | .give z n => { D with given := D.given.set (zs.idxOf z) (D.given.getD (zs.idxOf z) 0 + n) }
  | .put z y n => { D with notes := D.notes.set (zs.idxOf z) (D.notes.getD (zs.idxOf z) [] ++ [(y, n)]) }
def stepM (M : Bk) : Deed → Bk
  | .give z n => giveM M (M.names.idxOf z) n
  | .put z y n => putM M (M.names.idxOf z) y n
theorem step_eq (zs : List Str) (D : Md) (d : Deed) : stepM (bkOf zs D) d = bkOf zs (doneD zs D d) := by cases d <;> rfl
theorem idx_get {zs : List Str} {z : Str} (h : z ∈ zs) : zs[zs.idxOf z]? = some z := by
  have hl := List.idxOf_lt_length_of_mem h
  rw [List.getElem?_eq_getElem hl, List.getElem_idxOf]
theorem sum_set : ∀ (l : List (List (Str × Int))) (j : Nat) (x : List (Str × Int)), j < l.length → ((l.set j x).map List.length).sum + (l.getD j []).length = (l.map List.length).sum + x.length
  | [], j, x, h => by simp at h
  | a :: r, 0, x, h => by
    simp only [List.set_cons_zero, List.map_cons, List.sum_cons, List.getD_cons_zero]
    omega
  | a :: r, j + 1, x, h => by
    have := sum_set r j x (by simpa using h)
    simp only [List.set_cons_succ, List.map_cons, List.sum_cons, List.getD_cons_succ]
    omega
theorem step_ok {M : Bk} (ok : M.Ok) {d : Deed} (hd : d.Ok M.names) (hm : manyM M + 1 ≤ 60) : (stepM M d).Ok ∧ manyM (stepM M d) ≤ manyM M + 1 ∧ (stepM M d).names = M.names := by
  cases d with
  | give z n => exact ⟨⟨ok.n0, ok.n1, ok.nd, ok.nm, by show (M.gifts.set _ _).length = _; rw [List.length_set]; exact ok.lg, ok.ls, ok.ld, ok.many⟩, Nat.le_succ _, rfl⟩
  | put z y n =>
    have hj : M.names.idxOf z < M.stacks.length := by
      rw [ok.ls]
      exact List.idxOf_lt_length_of_mem hd.1
    have e : manyM (stepM M (.put z y n)) = manyM M + 1 := by
      have := sum_set M.stacks (M.names.idxOf z) (M.stacks.getD (M.names.idxOf z) [] ++ [(y, n)]) hj
      rw [List.length_append] at this
      show ((M.stacks.set _ _).map List.length).sum = (M.stacks.map List.length).sum + 1
      have e1 : [(y, n)].length = 1 := rfl
      omega
    exact ⟨⟨ok.n0, ok.n1, ok.nd, ok.nm, ok.lg, by show (M.stacks.set _ _).length = _; rw [List.length_set]; exact ok.ls, ok.ld, by show manyM (stepM M (.put z y n)) ≤ 60; omega⟩, Nat.le_of_eq e, rfl⟩
theorem dfold_ok : ∀ (ds : List Deed) {M : Bk}, M.Ok → (∀ d ∈ ds, d.Ok M.names) → manyM M + ds.length ≤ 60 → (ds.foldl stepM M).Ok ∧ manyM (ds.foldl stepM M) ≤ manyM M + ds.length ∧ (ds.foldl stepM M).names = M.names
  | [], M, ok, _, _ => ⟨ok, Nat.le_refl _, rfl⟩
  | d :: ds, M, ok, h, hm => by
    rw [List.length_cons] at hm
    obtain ⟨a1, a2, a3⟩ := step_ok ok (h d List.mem_cons_self) (by omega)
    obtain ⟨b1, b2, b3⟩ := dfold_ok ds a1 (fun e he => by rw [a3]; exact h e (List.mem_cons_of_mem _ he)) (by omega)
    refine ⟨b1, ?_, b3.trans a3⟩
    rw [List.length_cons]
    show manyM (ds.foldl stepM (stepM M d)) ≤ _
    omega
end Rc

namespace Rc
open PySem PySem.Spec PyProof.Rows L2 RZ
section
variable {P : Program} {w : World} {K : PySem.W.Frag} {mg : Str → Option Value} {base : Heap}
/-! ### _law_left -/
abbrev sLLf : Stmt := topS 30
theorem scLLf : FnScope ["_law_model_here", "_law_who"] ["_law_model_here", "_law_who"] (defScope sLLf) := ⟨rfl, rfl, rfl, by decide +kernel, rfl, by decide +kernel, by decide +kernel⟩
def spLLf (K : PySem.W.Frag) : Sp := fun vs H Q _ => ∃ (a : MdA) (D : Md) (zs : List Str) (z : Str) (j : Nat) (l : List (Str × Int)) (f : Int), vs = [.ref a.m, .str z] ∧ ModelAt K H zs a D ∧ zs[j]? = some z ∧ D.notes[j]? = some l ∧ D.fallen[j]? = some f ∧ l.length ≤ 100 ∧
  ∀ m mx H', Same H H' → H m = none → H' m = some (.lst mx) → DtAll K H' mx (notesD (leftN l f)) → Q (.ref m) H'
theorem ok_llf {f fp : Addr} {fd fdp : FuncData} (F : Fun K "_law_left" "_law_left" sLLf f fd) (PT : Has P w K mg base 1 "_law_parted" ["_law_model_here", "_law_who"] (spLPt K) fp fdp) : FnOk P w K mg base CX0 2 f fd ["_law_model_here", "_law_who"] (spLLf K) := by
  refine F.ok scLLf (fun vs H Q E h => ?_) (fun cdv Ar outer s H vs Q E hr h => ?_)
  · obtain ⟨_, _, _, _, _, _, _, rfl, _⟩ := h
    rfl
  · obtain ⟨a, D, zs, z, j, l, f0, rfl, hM, ej, el, ef, ll, q⟩ := h
    refine ⟨_, pss_one (ps_ret (pe_ix ix_tup (pe_call PT.ok hr (by rfl) PT.g PT.kp PT.b .nil pass0 (pa_cons (pv 0) (pa_cons (pv 1) pa_nil))) pe_int (fun _ _ => rfl))), ?_⟩
    refine ⟨.ref a.m, rfl, .str z, rfl, a, D, zs, z, j, l, f0, rfl, hM, ej, el, ef, ll, fun t g m gx mx H1 s1 ht ng nm hg hm dg dm => ?_⟩
    exact ⟨t, _, 1, .ref m, rfl, rfl, .inl (.inl ht), rfl, q m mx H1 s1 nm hm dm⟩
end
end Rc

namespace Rc
open PySem PySem.Spec PyProof.Rows L2 RZ
theorem give_ne_put : ¬ (V.str ("put" : Str)) = V.str ("give" : Str) := fun e => absurd (V.str.inj e) (by decide +kernel)
/-- what a deed changes -/
def MdA.Foot (a : MdA) (b : Addr) : Prop := b = a.dg ∨ b ∈ a.rs
def ButF (a : MdA) (H H' : Hp) : Prop := ∀ b o, ¬ a.Foot b → H b = some o → H' b = some o
theorem ModelAt.nofoot_tup {K : PySem.W.Frag} {H : Hp} {zs : List Str} {a : MdA} {D : Md} (h : ModelAt K H zs a D) {b : Addr} {o : HO} (e : H b = some o) (t : TupO o) : ¬ a.Foot b := fun f => by
  rcases f with f | f
  · rw [f, h.hg] at e
    cases e
    exact t
  · obtain ⟨i, hi, e'⟩ := List.getElem_of_mem f
    have hn : i < D.notes.length := by
      rw [h.ln, ← h.lr]
      exact hi
    obtain ⟨xs, e1, _⟩ := h.rows i b _ (by rw [List.getElem?_eq_getElem hi, e']) (List.getElem?_eq_getElem hn)
    rw [e1] at e
    cases e
    exact t
theorem ButF.kt {K : PySem.W.Frag} {H H' : Hp} {zs : List Str} {a : MdA} {D : Md} (b : ButF a H H') (h : ModelAt K H zs a D) : KT H H' := fun c o e t => b c o (h.nofoot_tup e t) e
theorem ButF.kp {K : PySem.W.Frag} {H H' : Hp} {zs : List Str} {a : MdA} {D : Md} (b : ButF a H H') (h : ModelAt K H zs a D) : Kp H H' := fun c o e t => b c o (fun f => by
  rcases f with f | f
  · rw [f, h.hg] at e
    cases e
    exact t
  · obtain ⟨i, hi, e'⟩ := List.getElem_of_mem f
    have hn : i < D.notes.length := by
      rw [h.ln, ← h.lr]
      exact hi
    obtain ⟨xs, e1, _⟩ := h.rows i c _ (by rw [List.getElem?_eq_getElem hi, e']) (List.getElem?_eq_getElem hn)
    rw [e1] at e
    cases e
    exact t) e
theorem deed_give {K : PySem.W.Frag} {H : Hp} {v : V} {z : Str} {n : Int} (h : Dt K H v (deedD (.give z n))) : Dt K H v (.tuple [.str "give", .str z, .int n]) := h
end Rc

namespace Rc
open PySem PySem.Spec PyProof.Rows L2 RZ
/-! ### data that can be shown -/
structure NiceD (d : PyData) (n : Nat) : Prop where
  sh : d.showable = true
  lv : d.leavesShort 1921 = true
  nd : d.hasDict = false
  dp : d.depth ≤ 5
  bk : d.bulk ≤ n
  cl : d.canLay0 = true
structure NiceA (ds : List PyData) (n : Nat) : Prop where
  sh : PyData.showableAll ds = true
  lv : PyData.leavesShortAll 1921 ds = true
  nd : PyData.hasDictAll ds = false
  dp : PyData.depthAll ds ≤ 4
  bk : PyData.bulkAll ds ≤ n
  cl : PyData.canLayAll0 ds = true
theorem NiceA.nil : NiceA [] 0 := ⟨rfl, rfl, rfl, Nat.zero_le _, Nat.le_refl _, rfl⟩
theorem NiceA.cons {d : PyData} {ds : List PyData} {n m : Nat} (a : NiceD d n) (hd : d.depth ≤ 4) (b : NiceA ds m) : NiceA (d :: ds) (n + 1 + m) := by
  refine ⟨?_, ?_, ?_, ?_, ?_, ?_⟩
  · simp only [PyData.showableAll, a.sh, b.sh, Bool.and_self]
  · simp only [PyData.leavesShortAll, a.lv, b.lv, Bool.and_self]
  · simp only [PyData.hasDictAll, a.nd, b.nd, Bool.or_self]
  · simp only [PyData.depthAll]
    have := b.dp
    omega
  · simp only [PyData.bulkAll]
    have := a.bk
    have := b.bk
    omega
  · simp only [PyData.canLayAll0, a.cl, b.cl, Bool.and_self]
theorem NiceA.list {ds : List PyData} {n : Nat} (a : NiceA ds n) : NiceD (.list ds) n := by
  refine ⟨by simpa only [PyData.showable] using a.sh, by simpa only [PyData.leavesShort] using a.lv, by simpa only [PyData.hasDict] using a.nd, ?_, by simpa only [PyData.bulk] using a.bk, by simpa only [PyData.canLay0] using a.cl⟩
  simp only [PyData.depth]
  have := a.dp
  omega
theorem NiceA.tuple {ds : List PyData} {n : Nat} (a : NiceA ds n) : NiceD (.tuple ds) n := by
  refine ⟨by simpa only [PyData.showable] using a.sh, by simpa only [PyData.leavesShort] using a.lv, by simpa only [PyData.hasDict] using a.nd, ?_, by simpa only [PyData.bulk] using a.bk, by simpa only [PyData.canLay0] using a.cl⟩
  simp only [PyData.depth]
  have := a.dp
  omega
def BigOk (i : Int) : Prop := i.natAbs < 2 ^ 300
theorem nice_int {i : Int} (h : BigOk i) : NiceD (.int i) 0 := by
  have h1 : i.natAbs.log2 < 1920 := Nat.lt_trans (PySem.Flt.log2_lt_of (by decide) h) (by decide)
  refine ⟨?_, ?_, by simp only [PyData.hasDict], by simp only [PyData.depth]; omega, by simp only [PyData.bulk]; omega, by simp only [PyData.canLay0]⟩
  · simp only [PyData.showable]
    exact decide_eq_true h1
  · simp only [PyData.leavesShort, PyData.shown]
    exact decide_eq_true (int_text_len_1921 h1)
theorem abc_lt : ∀ c ∈ abc, c < 128 := by decide +kernel
theorem name_signs {z : Str} (h : nameT z = true) : ∀ c ∈ z.cps.toList, c ∈ abc := by
  unfold nameT at h
  simp only [Bool.and_eq_true, List.all_eq_true, decide_eq_true_eq] at h
  exact h.2
theorem nice_name {z : Str} (h : nameT z = true) : NiceD (.str z) 8 := by
  have hs := name_signs h
  refine ⟨by simp only [PyData.showable], ?_, by simp only [PyData.hasDict], by simp only [PyData.depth]; omega, ?_, ?_⟩
  · simp only [PyData.leavesShort, List.all_eq_true, decide_eq_true_eq]
    exact fun c hc => Nat.lt_trans (abc_lt c (hs c hc)) (by decide)
  · simp only [PyData.bulk]
    exact (nameT_len h).2
  · simp only [PyData.canLay0]
    show z.cps.all (fun c => decide (c < 0x110000)) = true
    rw [← Array.all_toList, List.all_eq_true]
    exact fun c hc => decide_eq_true (Nat.lt_trans (abc_lt c (hs c hc)) (by decide))
theorem nice_names : ∀ {zs : List Str}, (∀ z ∈ zs, nameT z = true) → NiceA (zs.map PyData.str) (9 * zs.length)
  | [], _ => NiceA.nil
  | z :: r, h => by
    have a := nice_name (h z List.mem_cons_self)
    have b := nice_names fun y hy => h y (List.mem_cons_of_mem _ hy)
    have c := NiceA.cons a (by simp only [PyData.depth]; omega) b
    rw [List.map_cons, List.length_cons]
    have e : 9 * (r.length + 1) = 8 + 1 + 9 * r.length := by omega
    rw [e]
    exact c
/-- notes as the law draws them -/
def NoteOk (zs : List Str) (n : Str × Int) : Prop := n.1 ∈ zs ∧ Amt n.2
theorem amt_big {n : Int} (h : Amt n) : BigOk n := by
  have h1 := h.1
  have h2 := h.2
  have e : (10 : Int) ^ 58 < 2 ^ 300 := by decide
  have e2 : ((2 ^ 300 : Nat) : Int) = 2 ^ 300 := by decide
  unfold BigOk
  omega
theorem nice_note {zs : List Str} (hz : ∀ z ∈ zs, nameT z = true) {n : Str × Int} (h : NoteOk zs n) : NiceD (noteD n) 10 ∧ (noteD n).depth ≤ 1 := by
  have a := NiceA.cons (nice_name (hz _ h.1)) (by simp only [PyData.depth]; omega) (NiceA.cons (nice_int (amt_big h.2)) (by simp only [PyData.depth]; omega) NiceA.nil)
  exact ⟨a.tuple, by simp [noteD, PyData.depth, PyData.depthAll]⟩
theorem nice_notes {zs : List Str} (hz : ∀ z ∈ zs, nameT z = true) : ∀ {l : List (Str × Int)}, (∀ n ∈ l, NoteOk zs n) → NiceA (notesD l) (11 * l.length)
  | [], _ => NiceA.nil
  | n :: r, h => by
    obtain ⟨a, hd⟩ := nice_note hz (h n List.mem_cons_self)
    have b := nice_notes hz fun y hy => h y (List.mem_cons_of_mem _ hy)
    have c := NiceA.cons a (by omega) b
    rw [List.length_cons]
    have e : 11 * (r.length + 1) = 10 + 1 + 11 * r.length := by omega
    rw [e]
    exact c
theorem nice_fits {d : PyData} {n : Nat} (h : NiceD d n) (hn : n ≤ 8000) : (∃ i, d = .int i) ∨ d.shown.length ≤ sizeLine := by
  have h1 := PyData.shown_le_bulk 1921 (by decide) d h.lv
  have h2 := h.bk
  refine .inr ?_
  rw [sizeLine_eq]
  have : (1921 + 2) * d.bulk ≤ 1923 * 8000 := Nat.mul_le_mul (Nat.le_refl _) (by omega)
  omega
theorem nice_shaped {d : PyData} {n : Nat} (h : NiceD d n) : SeqAt.shaped d = true := by
  unfold SeqAt.shaped
  rw [h.cl, decide_eq_true (show d.depth ≤ 64 by have := h.dp; omega)]
  rfl
/-! ### where nothing has fallen -/
theorem part_zero {a : Int} (h : 1 ≤ a) : partOf a 0 = 0 := by
  unfold partOf
  rw [if_pos (by omega)]
theorem gone_zero : ∀ {l : List (Str × Int)}, (∀ n ∈ l, 1 ≤ n.2) → goneN l 0 = []
  | [], _ => rfl
  | (t, a) :: r, h => by
    rw [goneN_cons, part_zero (h _ List.mem_cons_self), if_neg (by omega), Int.sub_zero, gone_zero fun n hn => h n (List.mem_cons_of_mem _ hn)]
    rfl
theorem left_zero : ∀ {l : List (Str × Int)}, (∀ n ∈ l, 1 ≤ n.2) → leftN l 0 = l
  | [], _ => rfl
  | (t, a) :: r, h => by
    have ha : 1 ≤ a := h _ List.mem_cons_self
    rw [leftN_cons, part_zero ha, if_pos (by omega), Int.sub_zero, Int.sub_zero, left_zero fun n hn => h n (List.mem_cons_of_mem _ hn)]
    rfl
/-- a model as the law makes it: nothing fallen, k deeds at the most -/
structure Gd (zs : List Str) (D : Md) (k : Nat) : Prop where
  zf : D.fallen = zeros zs.length
  nt : ∀ l ∈ D.notes, ∀ n ∈ l, NoteOk zs n
  gv : ∀ g ∈ D.given, 0 ≤ g ∧ g ≤ (k : Int) * 10 ^ 58
  my : (D.notes.map List.length).sum ≤ k
  k1 : k ≤ 60
theorem Gd.big {zs : List Str} {D : Md} {k : Nat} (h : Gd zs D k) {g : Int} (hg : g ∈ D.given) : BigOk g := by
  obtain ⟨a, b⟩ := h.gv g hg
  have k1 := h.k1
  have e : (60 : Int) * 10 ^ 58 < 2 ^ 300 := by decide
  have e2 : ((2 ^ 300 : Nat) : Int) = 2 ^ 300 := by decide
  have : (k : Int) * 10 ^ 58 ≤ 60 * 10 ^ 58 := Int.mul_le_mul_of_nonneg_right (by omega) (by decide)
  unfold BigOk
  omega
theorem Gd.rows {zs : List Str} {D : Md} {k : Nat} (h : Gd zs D k) : RowsOk D := fun l hl => by
  have := len_le_sum hl
  have := h.my
  have := h.k1
  omega
theorem Gd.sums {zs : List Str} {D : Md} {k : Nat} (h : Gd zs D k) (z : Str) : sumsD D z = 0 := by
  unfold sumsD
  have : ∀ p ∈ D.notes.zip D.fallen, sumTo z (goneN p.1 p.2) = 0 := fun p hp => by
    obtain ⟨h1, h2⟩ := List.of_mem_zip hp
    have e : p.2 = 0 := by
      rw [h.zf] at h2
      exact List.eq_of_mem_replicate h2
    rw [e, gone_zero fun n hn => (h.nt _ h1 n hn).2.1]
    rfl
  generalize D.notes.zip D.fallen = L at this
  induction L with
  | nil => rfl
  | cons a r ih =>
    rw [List.map_cons, List.sum_cons, this a List.mem_cons_self, ih fun p hp => this p (List.mem_cons_of_mem _ hp)]
    rfl
theorem Gd.done {zs : List Str} {D : Md} {k : Nat} (h : Gd zs D k) {d : Deed} (od : d.Ok zs) (hk : k + 1 ≤ 60) (ln : D.notes.length = zs.length) (lg : D.given.length = zs.length) : Gd zs (doneD zs D d) (k + 1) := by
  have mono : ∀ g ∈ D.given, 0 ≤ g ∧ g ≤ ((k + 1 : Nat) : Int) * 10 ^ 58 := fun g hg => by
    obtain ⟨a, b⟩ := h.gv g hg
    refine ⟨a, Int.le_trans b (Int.mul_le_mul_of_nonneg_right (by omega) (by decide))⟩
  cases d with
  | give z n =>
    refine ⟨h.zf, h.nt, fun g hg => ?_, Nat.le_succ_of_le h.my, hk⟩
    rcases List.mem_or_eq_of_mem_set hg with hg | hg
    · exact mono g hg
    · have hj : zs.idxOf z < D.given.length := by
        rw [lg]
        exact List.idxOf_lt_length_of_mem od.1
      obtain ⟨a, b⟩ := h.gv (D.given.getD (zs.idxOf z) 0) (by
        rw [List.getD_eq_getElem?_getD, List.getElem?_eq_getElem hj]
        exact List.getElem_mem hj)
      obtain ⟨n1, n2⟩ := od.2
      have e : ((k + 1 : Nat) : Int) * 10 ^ 58 = (k : Int) * 10 ^ 58 + 10 ^ 58 := by
        rw [Int.natCast_add, Int.add_mul]
        rfl
      rw [hg, e]
      omega
  | put z y n =>
    have hj : zs.idxOf z < D.notes.length := by
      rw [ln]
      exact List.idxOf_lt_length_of_mem od.1
    refine ⟨h.zf, fun l hl m hm => ?_, mono, ?_, hk⟩
    · rcases List.mem_or_eq_of_mem_set hl with hl | hl
      · exact h.nt l hl m hm
      · rw [hl] at hm
        rcases List.mem_append.mp hm with hm | hm
        · refine h.nt (D.notes.getD (zs.idxOf z) []) ?_ m hm
          rw [List.getD_eq_getElem?_getD, List.getElem?_eq_getElem hj]
          exact List.getElem_mem hj
        · rw [List.mem_singleton.mp hm]
          exact od.2
    · have := sum_set D.notes (zs.idxOf z) (D.notes.getD (zs.idxOf z) [] ++ [(y, n)]) hj
      rw [List.length_append] at this
      have e1 : [(y, n)].length = 1 := rfl
      have := h.my
      show ((D.notes.set _ _).map List.length).sum ≤ k + 1
      omega
theorem Gd.new {zs : List Str} : Gd zs (newMd zs.length) 0 := by
  refine ⟨rfl, fun l hl n hn => ?_, fun g hg => ?_, ?_, by decide⟩
  · rw [List.eq_of_mem_replicate hl] at hn
    cases hn
  · rw [List.eq_of_mem_replicate hg]
    exact ⟨Int.le_refl _, by simp⟩
  · show ((List.replicate zs.length ([] : List (Str × Int))).map List.length).sum ≤ 0
    rw [List.map_replicate]
    simp
theorem Gd.ok {zs : List Str} {D : Md} {k : Nat} (h : Gd zs D k) (nz : NamesOk zs) (lg : D.given.length = zs.length) (ln : D.notes.length = zs.length) : (bkOf zs D).Ok := by
  refine ⟨nz.n0, nz.n1, nz.nd, nz.nm, lg, ln, ?_, ?_⟩
  · show D.fallen.length = _
    rw [h.zf]
    exact List.length_replicate
  · have := h.my
    have := h.k1
    show (D.notes.map List.length).sum ≤ 60
    omega
theorem DpAll.strs {K : PySem.W.Frag} {H : Hp} : ∀ zs : List Str, DpAll K H (zs.map V.str) (zs.map PyData.str)
  | [] => .nil
  | z :: r => .cons (.str z) (DpAll.strs r)
end Rc

namespace Rc
open PySem PySem.Spec PyProof.Rows L2 RZ
section
variable {P : Program} {w : World} {K : PySem.W.Frag} {mg : Str → Option Value} {base : Heap}
abbrev sLDs : Stmt := topS 32
theorem scLDs : FnScope ["_law_pot_here", "_law_names_here", "_law_many", "_law_size", "_law_found", "_law_k"] ["_law_pot_here", "_law_names_here", "_law_many", "_law_size"] (defScope sLDs) := ⟨rfl, rfl, rfl, by decide +kernel, rfl, by decide +kernel, by decide +kernel⟩
def spLDs (K : PySem.W.Frag) : Sp := fun vs H Q _ => ∃ (p nl : Addr) (zs : List Str) (m : Nat) (sz : Int), vs = [.ref p, .ref nl, .int (m : Nat), .int sz] ∧ (sz = 0 ∨ sz = 1) ∧ Pot H p ∧ nl ≠ p ∧ H nl = some (.lst (List.map V.str zs)) ∧ 1 ≤ zs.length ∧ zs.length ≤ 1000 ∧ m ≤ 60 ∧
  ∀ r xs ds H', H r = none → r ≠ p → H' r = some (.lst xs) → DtAll K H' xs (deedsD ds) → ds.length = m → (∀ d ∈ ds, d.Ok zs) → Pot H' p → But p H H' → Q (.ref r) H'
theorem ok_lds {f fT fA fM : Addr} {fd fdT fdA fdM : FuncData} (F : Fun K "_law_deeds" "_law_deeds" sLDs f fd) (B2 : Blt2 mg) (T : HasTake P w K mg base fT fdT) (A : HasAmong P w K mg base fA fdA)
    (AM : Has P w K mg base 2 "_law_amount" ["_law_pot_here", "_law_size"] spLAm fM fdM) : FnOk P w K mg base CX0 3 f fd ["_law_pot_here", "_law_names_here", "_law_many", "_law_size"] (spLDs K) := by
  refine F.ok scLDs (fun vs H Q E h => ?_) (fun cdv Ar outer s H vs Q E hr h => ?_)
  · obtain ⟨_, _, _, _, _, rfl, _⟩ := h
    rfl
  · obtain ⟨p, nl, zs, m, sz, rfl, hsz, hp, np, hn, z0, z1, hm, q⟩ := h
    have hr1 := hr.mono (show 1 ≤ 2 by decide)
    refine ⟨_, pss_cons (ps_set (i := 4) scLDs.nd rfl (.inl rfl) (pe_lst pa_nil))
      (pss_cons (ps_for PassesOwn.never rfl (pi_range1 (by rfl) B2.range (pa_cons (pv 2) pa_nil)) (pg_name (i := 5) scLDs.nd rfl (.inl rfl))
        (pss_one (ps_if (pt_cmpR op_eq (pe_call T.ok hr1 (by rfl) T.g T.kp T.b .nil pass0 (pa_cons (pv 0) (pa_cons pe_int pa_nil))) pe_int (nomark _))
          (pss_one (ps_expr (pe_bm PySem.F.plainAttrs_list PySem.F.slot_list_append PySem.F.type_list_append mt_append (pv 4) (pa_cons (pe_tup (pa_cons pe_str (pa_cons (pe_call A.ok hr (by rfl) A.g A.kp A.b .nil pass0 (pa_cons (pv 0) (pa_cons (pv 1) pa_nil)))
            (pa_cons (pe_call AM.ok hr (by rfl) AM.g AM.kp AM.b .nil pass0 (pa_cons (pv 0) (pa_cons (pv 3) pa_nil))) pa_nil)))) pa_nil))))
          (pss_one (ps_expr (pe_bm PySem.F.plainAttrs_list PySem.F.slot_list_append PySem.F.type_list_append mt_append (pv 4) (pa_cons (pe_tup (pa_cons pe_str (pa_cons (pe_call A.ok hr (by rfl) A.g A.kp A.b .nil pass0 (pa_cons (pv 0) (pa_cons (pv 1) pa_nil)))
            (pa_cons (pe_call A.ok hr (by rfl) A.g A.kp A.b .nil pass0 (pa_cons (pv 0) (pa_cons (pv 1) pa_nil))) (pa_cons (pe_call AM.ok hr (by rfl) AM.g AM.kp AM.b .nil pass0 (pa_cons (pv 0) (pa_cons (pv 3) pa_nil))) pa_nil))))) pa_nil)))))))
      (pss_one (ps_ret (pv 4)))), ?_⟩
    refine ⟨Nat.zero_le _, fun r nr => ?_⟩
    have rp : r ≠ p := by
      obtain ⟨x, y, e, _⟩ := hp
      exact (ne_of_none e nr).symm
    have rn : nl ≠ r := ne_of_none hn nr
    refine ⟨_, rfl, _, rfl, by omega, by omega, ?_⟩
    refine for_it walk_range (fun i σ H' => ∃ xs ds y5, σ = [some (.ref p), some (.ref nl), some (.int (m : Nat)), some (.int sz), some (.ref r), y5] ∧ H' r = some (.lst xs) ∧ DtAll K H' xs (deedsD ds) ∧ ds.length = i ∧ (∀ d ∈ ds, d.Ok zs) ∧ Pot H' p ∧ But p H H')
      ⟨[], [], _, rfl, upd_same, .nil, rfl, fun z hz => absurd hz List.not_mem_nil, hp.new nr, But.new nr⟩ (fun _ _ _ _ _ => trivial) (fun i x σ H1' H1 hi hP hY => ?_) (fun σ H1 hP => ?_)
    · obtain ⟨rfl, rfl⟩ := hY
      obtain ⟨xs, ds, y5, rfl, hr1', dd, ld, od, hp1, hb1⟩ := hP
      have hi' : i < m := by simpa using hi
      have lx : xs.length = i := by
        rw [dd.len]
        unfold deedsD
        rw [List.length_map, ld]
      have potr : ∀ H', Pot H' p → ∀ o, Pot (upd H' r o) p := fun H' hp' o => by
        obtain ⟨x, y, e, rr⟩ := hp'
        exact ⟨x, y, by rw [upd_ne rp.symm]; exact e, rr⟩
      -- the row with one deed more
      have more : ∀ (H' : Hp) (t : Addr) (us : List V) (d : Deed), Pot H' p → But p H1 H' → H' t = none → (∀ H'', KT H' H'' → H'' t = some (.tup us) → Dt K H'' (.ref t) (deedD d)) → d.Ok zs →
          ∃ xs' ds' y5', [some (V.ref p), some (.ref nl), some (.int (m : Nat)), some (.int sz), some (.ref r), some (.int (0 + (i : Nat)))] = [some (.ref p), some (.ref nl), some (.int (m : Nat)), some (.int sz), some (.ref r), y5'] ∧
            upd (upd H' t (.tup us)) r (.lst (xs ++ [.ref t])) r = some (.lst xs') ∧ DtAll K (upd (upd H' t (.tup us)) r (.lst (xs ++ [.ref t]))) xs' (deedsD ds') ∧ ds'.length = i + 1 ∧ (∀ d ∈ ds', d.Ok zs) ∧ Pot (upd (upd H' t (.tup us)) r (.lst (xs ++ [.ref t]))) p ∧
            But p H (upd (upd H' t (.tup us)) r (.lst (xs ++ [.ref t]))) := fun H' t us d hp' hb' nt hd ok => by
        have hr' := hb' _ _ rp hr1'
        have tr : t ≠ r := (ne_of_none hr' nt).symm
        have kt : KT H' (upd (upd H' t (.tup us)) r (.lst (xs ++ [.ref t]))) := (kt_same (same_upd nt)).trans (kt_upd (o := .lst xs) (by rw [upd_ne tr.symm]; exact hr') fun z => z)
        have k1 : KT H1 H' := fun b o e t' => hb' b o (fun z => by
          obtain ⟨x, y, e', _⟩ := hp1
          rw [z, e'] at e
          cases e
          exact t') e
        refine ⟨xs ++ [.ref t], ds ++ [d], _, rfl, upd_same, ?_, by rw [List.length_append, ld]; rfl, fun d' h' => ?_, potr _ (hp'.new nt) _, fun b o n e => ?_⟩
        · unfold deedsD
          rw [List.map_append]
          exact (DtAll.keepT (k1.trans kt) _ (tup_deeds ds) dd).append (.cons (hd _ kt (by rw [upd_ne tr, upd_same])) .nil)
        · rcases List.mem_append.mp h' with h' | h'
          · exact od d' h'
          · rw [List.mem_singleton.mp h']
            exact ok
        · have br : b ≠ r := ne_of_none e nr
          have e2 := hb' _ _ n (hb1 _ _ n e)
          rw [upd_ne br, upd_ne (ne_of_none e2 nt)]
          exact e2
      have lzs : 0 < (zs.map V.str).length := by
        rw [List.length_map]
        omega
      have lzs2 : (zs.map V.str).length ≤ 1000 := by
        rw [List.length_map]
        exact z1
      have memS : ∀ {v : V}, v ∈ zs.map V.str → ∃ z ∈ zs, v = .str z := fun {v} h => by
        obtain ⟨z, hz, rfl⟩ := List.mem_map.mp h
        exact ⟨z, hz, rfl⟩
      refine ⟨.ref p, rfl, p, 3, rfl, hp1, litM _ (by decide) (by decide), fun k H2 k0 k1 hp2 hb2 => ⟨rfl, _, rfl, ite2 (fun e => ?_) (fun e => ?_)⟩⟩
      · refine ⟨.ref r, rfl, .inl ⟨rfl, _, .inl (.inl (hb2 _ _ rp hr1'))⟩, .ref p, rfl, .ref nl, rfl, p, _, rfl, hp2, .inr ⟨nl, _, rfl, np, hb2 _ _ np (hb1 _ _ np hn), lzs, lzs2, fun v H3 hv hp3 hb3 => ?_⟩⟩
        obtain ⟨z, hz, rfl⟩ := memS hv
        refine ⟨.ref p, rfl, .int sz, rfl, p, sz, rfl, hsz, hp3, fun n H4 hn4 hp4 hb4 => ⟨by show 3 ≤ sizeLine; decide, fun t nt => ?_⟩⟩
        have hb14 := hb2.trans (hb3.trans hb4)
        refine ⟨r, xs, _, rfl, rfl, by rw [upd_ne (ne_of_none (hb14 _ _ rp hr1') nt)]; exact hb14 _ _ rp hr1', small1000 (by omega), ?_⟩
        exact more H4 t _ (.give z n) hp4 hb14 nt (fun H'' _ ht => .tup (.inl (.inl ht)) (.cons (.str _) (.cons (.str _) (.cons (.int _) .nil)))) ⟨hz, hn4⟩
      · refine ⟨.ref r, rfl, .inl ⟨rfl, _, .inl (.inl (hb2 _ _ rp hr1'))⟩, .ref p, rfl, .ref nl, rfl, p, _, rfl, hp2, .inr ⟨nl, _, rfl, np, hb2 _ _ np (hb1 _ _ np hn), lzs, lzs2, fun v H3 hv hp3 hb3 => ?_⟩⟩
        obtain ⟨z, hz, rfl⟩ := memS hv
        refine ⟨.ref p, rfl, .ref nl, rfl, p, _, rfl, hp3, .inr ⟨nl, _, rfl, np, (hb2.trans hb3) _ _ np (hb1 _ _ np hn), lzs, lzs2, fun v' H5 hv' hp5 hb5 => ?_⟩⟩
        obtain ⟨y, hy, rfl⟩ := memS hv'
        refine ⟨.ref p, rfl, .int sz, rfl, p, sz, rfl, hsz, hp5, fun n H4 hn4 hp4 hb4 => ⟨by show 4 ≤ sizeLine; decide, fun t nt => ?_⟩⟩
        have hb14 := hb2.trans (hb3.trans (hb5.trans hb4))
        refine ⟨r, xs, _, rfl, rfl, by rw [upd_ne (ne_of_none (hb14 _ _ rp hr1') nt)]; exact hb14 _ _ rp hr1', small1000 (by omega), ?_⟩
        exact more H4 t _ (.put z y n) hp4 hb14 nt (fun H'' _ ht => .tup (.inl (.inl ht)) (.cons (.str _) (.cons (.str _) (.cons (.str _) (.cons (.int _) .nil))))) ⟨hz, hy, hn4⟩
    · obtain ⟨xs, ds, y5, rfl, hr1', dd, ld, od, hp1, hb1⟩ := hP
      exact ⟨.ref r, rfl, q r xs ds H1 nr rp hr1' dd (by simpa using ld) od hp1 hb1⟩
end
end Rc

namespace Rc
open PySem PySem.Spec PyProof.Rows L2 RZ
section
variable {P : Program} {w : World} {K : PySem.W.Frag} {mg : Str → Option Value} {base : Heap}
/-! ### _law_cash -/
abbrev sLCs : Stmt := topS 31
abbrev nLCs : List Str := ["_law_model_here", "_law_who", "_law_found", "_law_name_here", "_law_to", "_law_amount_here"]
theorem scLCs : FnScope nLCs ["_law_model_here", "_law_who"] (defScope sLCs) := ⟨rfl, rfl, rfl, by decide +kernel, rfl, by decide +kernel, by decide +kernel⟩
def spLCs (K : PySem.W.Frag) : Sp := fun vs H Q _ => ∃ (a : MdA) (D : Md) (zs : List Str) (z : Str) (j : Nat), vs = [.ref a.m, .str z] ∧ ModelAt K H zs a D ∧ zs[j]? = some z ∧ RowsOk D ∧ ∀ H', Same H H' → Q (.int (cashD D j z)) H'
theorem ok_lcs {f fp : Addr} {fd fdp : FuncData} (F : Fun K "_law_cash" "_law_cash" sLCs f fd) (B3 : Blt3 mg) (PT : Has P w K mg base 1 "_law_parted" ["_law_model_here", "_law_who"] (spLPt K) fp fdp) : FnOk P w K mg base CX0 2 f fd ["_law_model_here", "_law_who"] (spLCs K) := by
  refine F.ok scLCs (fun vs H Q E h => ?_) (fun cdv Ar outer s H vs Q E hr h => ?_)
  · obtain ⟨_, _, _, _, _, rfl, _⟩ := h
    rfl
  · obtain ⟨a, D, zs, z, j, rfl, hM, ej, ro, q⟩ := h
    have hu := hu_of hr
    refine ⟨_, pss_cons (ps_set (i := 2) scLCs.nd rfl (.inl rfl) (pe_op op_sub (pe_dget hu (pe_dget hu (pv 0) pe_str (fun _ _ => rfl)) (pv 1) (fun _ _ => rfl)) (pe_dget hu (pe_dget hu (pv 0) pe_str (fun _ _ => rfl)) (pv 1) (fun _ _ => rfl))))
      (pss_cons (ps_for PassesOwn.never rfl (pi_list (pe_dget hu (pv 0) pe_str (fun _ _ => rfl))) (pg_name (i := 3) scLCs.nd rfl (.inl rfl))
        (pss_one (ps_set (i := 2) scLCs.nd rfl (.inl rfl) (pe_op op_add (pv 2) (pe_callB (cr_sum rfl) (by rfl) B3.sum (by decide +kernel) (pa_cons
          (pe_lc (own := [("_law_to", 4), ("_law_amount_here", 5)]) (g := gTup K 2 (gCons (gName 4) (gCons (gName 5) gNil))) rfl scLCs.nd
            (pi_list (pe_ix ix_tup (pe_call PT.ok hr (by rfl) PT.g PT.kp PT.b .nil pass0 (pa_cons (pv 0) (pa_cons (pv 3) pa_nil))) pe_int (fun _ _ => rfl)))
            (blkOk_by (N := nLCs) (sc := defScope sLCs) (own := [("_law_to", 4), ("_law_amount_here", 5)]) (by decide +kernel))
            (fun _ _ _ _ _ => pg_tup rfl (pgs_cons (pg_name (i := 4) scLCs.nd rfl (.inl rfl) (hf := .inr rfl)) (pgs_cons (pg_name (i := 5) scLCs.nd rfl (.inl rfl) (hf := .inr rfl)) pgs_nil)))
            (fun _ _ _ _ _ => pts_one (pt_cmpR op_eq (pv 4) (pv 1) (nomark _))) (fun _ _ _ _ _ => pv 5)) pa_nil))))))
      (pss_one (ps_ret (pv 2)))), ?_⟩
    obtain ⟨gv, f', l', r, xs, eg, ef, el', er, hr0, hd0⟩ := hM.at_ ej
    refine ⟨.ref a.m, rfl, a.m, .ref a.dg, rfl, hM.g1, .str z, rfl, a.dg, .int gv, rfl, hM.gg ej eg, .ref a.m, rfl, a.m, .ref a.df, rfl, hM.g2, .str z, rfl, a.df, .int f', rfl, hM.gf ej ef, _, _, rfl, rfl, ?_⟩
    refine ⟨.ref a.m, rfl, a.m, .ref a.lo, rfl, hM.g0, a.lo, rfl, ⟨_, .inl (.inl hM.ho)⟩, ?_⟩
    refine for_it (walk_list (K := K) (a := a.lo) (xs := zs.map V.str)) (fun i σ H' => ∃ y3 y4 y5, σ = [some (.ref a.m), some (.str z), some (.int (gv - f' + (((D.notes.zip D.fallen).take i).map fun p => sumTo z (goneN p.1 p.2)).sum)), y3, y4, y5] ∧ Same H H')
      ⟨_, _, _, by simp; rfl, Same.refl _⟩ (fun i σ H' _ hP => ?_) (fun i x σ H2' H2 hi hP hY => ?_) (fun σ H' hP => ?_)
    · obtain ⟨_, _, _, _, s1⟩ := hP
      exact .inl (.inl (s1 _ _ hM.ho))
    · obtain ⟨rfl, hx⟩ := hY
      obtain ⟨y3, y4, y5, rfl, s2⟩ := hP
      rw [List.length_map] at hi
      have exx : x = .str zs[i] := by
        rw [List.getElem?_map, List.getElem?_eq_getElem hi] at hx
        exact (Option.some.inj hx).symm
      subst exx
      have hs : i < D.notes.length := by rw [hM.ln]; exact hi
      have hdr : i < D.fallen.length := by rw [hM.lf]; exact hi
      have ll := ro _ (List.getElem_mem hs)
      refine ⟨_, rfl, .ref a.m, rfl, .str zs[i], rfl, a, D, zs, _, i, _, _, rfl, model_same hM s2, List.getElem?_eq_getElem hi, List.getElem?_eq_getElem hs, List.getElem?_eq_getElem hdr, by omega, fun t g m gx mx H4 s4 ht ng nm hg hm dg dm => ?_⟩
      refine ⟨t, _, 0, .ref g, rfl, rfl, .inl (.inl ht), rfl, g, rfl, ⟨_, .inl (.inl hg)⟩, fun D' nD => ?_⟩
      generalize hG : goneN D.notes[i] D.fallen[i] = G at dg
      have lg : gx.length = G.length := by
        rw [dg.len]
        unfold notesD
        rw [List.length_map]
      have lG : G.length ≤ 60 := by
        rw [← hG]
        exact Nat.le_trans (goneN_len _ _) ll
      refine lc_it (walk_list (K := K) (a := g) (xs := gx)) (fun i' H' => Same H4 H' ∧ H' D' = some (.lst (((G.take i').filter fun n => decide (n.1 = z)).map fun n => .int n.2))) ⟨same_upd nD, upd_same⟩ (fun i' H' _ hP => hP.1.seq (.inl (.inl hg)))
        (fun i' x' H5' H5 hi' hP hY => ?_) (fun H5 hP => ?_)
      · obtain ⟨rfl, hx'⟩ := hY
        obtain ⟨hil, dn⟩ := (DtAll.same hP.1 _ dg).notes_get hx'
        obtain ⟨na, rfl, qn⟩ := note_inv dn
        refine ⟨na, _, rfl, qn, rfl, _, _, rfl, _, _, rfl, rfl, rfl, _, rfl, _, rfl, rfl, _, rfl, ?_⟩
        have tk := take_succ hil
        by_cases hz : G[i'].1 = z
        · rw [show decide (V.str G[i'].1 = V.str z) = true from decide_eq_true (by rw [hz])]
          refine iteT ⟨_, rfl, _, hP.2, ?_, fun c o ec => ?_, ?_⟩
          · rw [List.length_map]
            have := List.length_filter_le (fun n : Str × Int => decide (n.1 = z)) (G.take i')
            rw [List.length_take] at this
            exact small1000 (by omega)
          · rw [upd_ne (ne_of_none ec nD)]
            exact hP.1 c o ec
          · rw [upd_same, tk, List.filter_append, List.map_append]
            simp [hz]
        · rw [show decide (V.str G[i'].1 = V.str z) = false from decide_eq_false (fun c => hz (V.str.inj c))]
          refine iteF ⟨hP.1, ?_⟩
          rw [hP.2, tk, List.filter_append]
          simp [hz]
      · refine ⟨D', (G.filter fun n => decide (n.1 = z)).map (·.2), rfl, .inl (.inl ?_), _, _, rfl, rfl, ?_⟩
        · rw [hP.2, lg, List.take_length, List.map_map]
          rfl
        refine ⟨some (.str zs[i]), y4, y5, ?_, s2.trans (s4.trans hP.1)⟩
        have tk : (D.notes.zip D.fallen).take (i + 1) = (D.notes.zip D.fallen).take i ++ [(D.notes[i], D.fallen[i])] := by
          rw [List.take_add_one, List.getElem?_zip_eq_some (z := (D.notes[i], D.fallen[i])) |>.mpr ⟨List.getElem?_eq_getElem hs, List.getElem?_eq_getElem hdr⟩]
          rfl
        rw [tk, List.map_append, List.sum_append]
        simp only [List.map_cons, List.map_nil, List.sum_cons, List.sum_nil, Int.add_zero]
        rw [hG, ← Int.add_assoc]
        rfl
    · obtain ⟨y3, y4, y5, rfl, s2⟩ := hP
      refine ⟨_, rfl, ?_⟩
      rw [List.take_of_length_le (by rw [List.length_zip, hM.ln, hM.lf, Nat.min_self, List.length_map]; exact Nat.le_refl _)]
      have ec : cashD D j z = gv - f' + ((D.notes.zip D.fallen).map fun p => sumTo z (goneN p.1 p.2)).sum := by
        unfold cashD sumsD
        rw [getD_of eg, getD_of ef]
      rw [← ec]
      exact q _ s2
end
end Rc

namespace Rc
open PySem PySem.Spec PyProof.Rows L2 RZ
section
variable {P : Program} {w : World} {K : PySem.W.Frag} {mg : Str → Option Value} {base : Heap}
/-! ### _law_done -/
abbrev sLDn : Stmt := topS 33
theorem scLDn : FnScope ["_law_model_here", "_law_deed"] ["_law_model_here", "_law_deed"] (defScope sLDn) := ⟨rfl, rfl, rfl, by decide +kernel, rfl, by decide +kernel, by decide +kernel⟩
def spLDn (K : PySem.W.Frag) : Sp := fun vs H Q _ => ∃ (a : MdA) (D : Md) (zs : List Str) (v : V) (d : Deed), vs = [.ref a.m, v] ∧ ModelAt K H zs a D ∧ Dt K H v (deedD d) ∧ d.Ok zs ∧ zs.length ≤ 13 ∧ RowsOk D ∧ ∀ H', ButF a H H' → ModelAt K H' zs a (doneD zs D d) → Q .non H'
theorem ok_ldn {f : Addr} {fd : FuncData} (F : Fun K "_law_done" "_law_done" sLDn f fd) : FnOk P w K mg base CX0 1 f fd ["_law_model_here", "_law_deed"] (spLDn K) := by
  refine F.ok scLDn (fun vs H Q E h => ?_) (fun cdv Ar outer s H vs Q E hr h => ?_)
  · obtain ⟨_, _, _, _, _, rfl, _⟩ := h
    rfl
  · obtain ⟨a, D, zs, v, d, rfl, hM, hd, od, lz, ro, q⟩ := h
    have hu := hu_of hr
    refine ⟨_, pss_one (ps_if (pt_cmpR op_eq (pe_ix ix_tupD (pv 1) pe_int (fun _ _ => rfl)) pe_str (nomark _))
      (pss_one (ps_dput hu (pe_dget hu (pv 0) pe_str (fun _ _ => rfl)) (pe_ix ix_tupD (pv 1) pe_int (fun _ _ => rfl))
        (pe_op op_add (pe_dget hu (pe_dget hu (pv 0) pe_str (fun _ _ => rfl)) (pe_ix ix_tupD (pv 1) pe_int (fun _ _ => rfl)) (fun _ _ => rfl)) (pe_ix ix_tupD (pv 1) pe_int (fun _ _ => rfl))) rfl))
      (pss_one (ps_expr (pe_bm PySem.F.plainAttrs_list PySem.F.slot_list_append PySem.F.type_list_append mt_append (pe_dget hu (pe_dget hu (pv 0) pe_str (fun _ _ => rfl)) (pe_ix ix_tupD (pv 1) pe_int (fun _ _ => rfl)) (fun _ _ => rfl))
        (pa_cons (pe_tup (pa_cons (pe_ix ix_tupD (pv 1) pe_int (fun _ _ => rfl)) (pa_cons (pe_ix ix_tupD (pv 1) pe_int (fun _ _ => rfl)) pa_nil))) pa_nil))))), ?_⟩
    cases d with
    | give z n =>
      have ej := idx_get od.1
      obtain ⟨gv, f', l', r, xs, eg, ef, el, er, hr0, hd0⟩ := hM.at_ ej
      refine ⟨v, rfl, _, 0, .str "give", hd, rfl, rfl, fun v0 d0 => ?_⟩
      cases d0
      refine ⟨rfl, _, rfl, ?_⟩
      rw [decide_eq_true rfl]
      refine iteT ⟨.ref a.m, rfl, a.m, .ref a.dg, rfl, hM.g1, v, rfl, _, 1, .str z, hd, rfl, rfl, fun v1 d1 => ?_⟩
      cases d1
      refine ⟨a.dg, .int gv, rfl, hM.gg ej eg, v, rfl, _, 2, .int n, hd, rfl, rfl, fun v2 d2 => ?_⟩
      cases d2
      refine ⟨_, _, rfl, rfl, .ref a.m, rfl, a.m, .ref a.dg, rfl, hM.g1, v, rfl, _, 1, .str z, hd, rfl, rfl, fun v3 d3 => ?_⟩
      cases d3
      have hj : zs.idxOf z < D.given.length := by
        rw [hM.lg]
        exact List.idxOf_lt_length_of_mem od.1
      refine ⟨a.dg, _, rfl, DPut.k (k := Sum.inr z) hM.hg (by rw [dct_len (by rw [List.length_map, hM.lg])]; exact small1000 (by omega)), ?_⟩
      rw [dct_put hM.zn ej (by rw [List.length_map]; exact hj), map_set V.int]
      have bf' : ButF a H (upd H a.dg (.dK (dct zs ((D.given.set (zs.idxOf z) (gv + n)).map V.int)))) := fun b o nf e => by
        rw [upd_ne (fun z => nf (.inl z))]
        exact e
      have rne : ∀ r ∈ a.rs, r ≠ a.dg := fun r hr z => by
        obtain ⟨i, hi, e'⟩ := List.getElem_of_mem hr
        have hn : i < D.notes.length := by
          rw [hM.ln, ← hM.lr]
          exact hi
        obtain ⟨xs, e1, _⟩ := hM.rows i r _ (by rw [List.getElem?_eq_getElem hi, e']) (List.getElem?_eq_getElem hn)
        rw [z, hM.hg] at e1
        cases e1
      have lone : a.lo ≠ a.dg := fun z => by
        have := hM.ho
        rw [z, hM.hg] at this
        cases this
      refine q _ bf' ⟨?_, ?_, ?_, ?_, ?_, fun i r l e1 e2 => ?_, hM.nd, hM.olo, hM.ogf, hM.ogn, hM.ogm, hM.omn, hM.zn, ?_, hM.lf, hM.ln, hM.lr⟩
      · rw [upd_ne hM.ogm.symm]
        exact hM.hm
      · rw [upd_ne lone]
        exact hM.ho
      · rw [upd_same]
        show _ = some (HO.dK (dct zs ((D.given.set (zs.idxOf z) (D.given.getD (zs.idxOf z) 0 + n)).map V.int)))
        rw [getD_of eg]
      · rw [upd_ne hM.ogf.symm]
        exact hM.hf
      · rw [upd_ne hM.ogn.symm]
        exact hM.hn
      · obtain ⟨xs, e3, d3⟩ := hM.rows i r l e1 e2
        refine ⟨xs, ?_, DtAll.keepT (bf'.kt hM) _ (tup_notes l) d3⟩
        rw [upd_ne (rne r (List.mem_of_getElem? e1))]
        exact e3
      · show (D.given.set _ _).length = _
        rw [List.length_set]
        exact hM.lg
    | put z y n =>
      have ej := idx_get od.1
      obtain ⟨gv, f', l', r, xs, eg, ef, el, er, hr0, hd0⟩ := hM.at_ ej
      refine ⟨v, rfl, _, 0, .str "put", hd, rfl, rfl, fun v0 d0 => ?_⟩
      cases d0
      refine ⟨rfl, _, rfl, ?_⟩
      rw [decide_eq_false give_ne_put]
      refine iteF ⟨.ref a.m, rfl, a.m, .ref a.dn, rfl, hM.g3, v, rfl, _, 1, .str z, hd, rfl, rfl, fun v1 d1 => ?_⟩
      cases d1
      refine ⟨a.dn, .ref r, rfl, hM.gn ej er, .inl ⟨rfl, _, .inl (.inl hr0)⟩, v, rfl, _, 2, .str y, hd, rfl, rfl, fun v2 d2 => ?_⟩
      cases d2
      refine ⟨v, rfl, _, 3, .int n, hd, rfl, rfl, fun v3 d3 => ?_⟩
      cases d3
      refine ⟨by show 2 ≤ sizeLine; decide, fun t nt => ?_⟩
      have tr : t ≠ r := (ne_of_none hr0 nt).symm
      have lx : xs.length ≤ 60 := by
        rw [hd0.len]
        unfold notesD
        rw [List.length_map]
        exact ro _ (List.mem_of_getElem? el)
      refine ⟨r, xs, _, rfl, rfl, by rw [upd_ne tr.symm]; exact hr0, small1000 (by omega), ?_⟩
      have rm : r ∈ a.rs := List.mem_of_getElem? er
      have bf' : ButF a H (upd (upd H t (.tup [V.str y, V.int n])) r (.lst (xs ++ [V.ref t]))) := fun b o nf e => by
        have nb : b ≠ r := fun z => nf (.inr (by rw [z]; exact rm))
        rw [upd_ne nb, upd_ne (ne_of_none e nt)]
        exact e
      have keepD : ∀ {b : Addr} {o : HO}, b ≠ r → H b = some o → upd (upd H t (.tup [V.str y, V.int n])) r (.lst (xs ++ [V.ref t])) b = some o := fun {b o} n e => by
        rw [upd_ne n, upd_ne (ne_of_none e nt)]
        exact e
      have dne : ∀ {b : Addr} {kvs : List (Key × V)}, H b = some (.dK kvs) → b ≠ r := fun {b kvs} e z => by
        rw [z, hr0] at e
        cases e
      refine q _ bf' ⟨keepD (dne hM.hm) hM.hm, keepD (fun z => hM.olo (by rw [z]; exact rm)) hM.ho, keepD (dne hM.hg) hM.hg, keepD (dne hM.hf) hM.hf, keepD (dne hM.hn) hM.hn, fun i r' l e1 e2 => ?_, hM.nd, hM.olo, hM.ogf, hM.ogn, hM.ogm, hM.omn, hM.zn, hM.lg, hM.lf, ?_, hM.lr⟩
      · have hkt := bf'.kt hM
        by_cases hi : i = zs.idxOf z
        · have er' : r' = r := by
            rw [hi, er] at e1
            exact (Option.some.inj e1).symm
          subst er'
          have e2' : (D.notes.set (zs.idxOf z) (D.notes.getD (zs.idxOf z) [] ++ [(y, n)]))[i]? = some l := e2
          rw [hi, List.getElem?_set_self (by rw [hM.ln]; exact List.idxOf_lt_length_of_mem od.1), getD_of el] at e2'
          cases e2'
          refine ⟨_, upd_same, ?_⟩
          unfold notesD
          rw [List.map_append]
          refine (DtAll.keepT hkt _ (tup_notes l') hd0).append (.cons (.tup (.inl (.inl ?_)) (.cons (.str _) (.cons (.int _) .nil))) .nil)
          rw [upd_ne tr, upd_same]
        · have e2' : (D.notes.set (zs.idxOf z) (D.notes.getD (zs.idxOf z) [] ++ [(y, n)]))[i]? = some l := e2
          rw [List.getElem?_set_ne (fun c => hi c.symm)] at e2'
          obtain ⟨xs', e3, d3⟩ := hM.rows i r' l e1 e2'
          have nr' : r' ≠ r := fun c => by
            obtain ⟨h1, k1⟩ := List.getElem?_eq_some_iff.mp e1
            obtain ⟨h2, k2⟩ := List.getElem?_eq_some_iff.mp er
            exact hi ((List.getElem_inj hM.nd).mp (k1.trans (c.trans k2.symm)))
          exact ⟨xs', keepD nr' e3, DtAll.keepT hkt _ (tup_notes l) d3⟩
      · show (D.notes.set _ _).length = _
        rw [List.length_set]
        exact hM.ln
end
end Rc

namespace Rc
open PySem PySem.Spec PyProof.Rows L2 RZ
section
variable {P : Program} {w : World} {K : PySem.W.Frag} {mg : Str → Option Value} {base : Heap}
/-! ### _law_alike -/
abbrev sLAl : Stmt := topS 35
abbrev nLAl : List Str := ["_law_model_here", "_law_book", "_law_who", "_law_told_here", "_law_wanted_here"]
theorem scLAl : FnScope nLAl ["_law_model_here", "_law_book"] (defScope sLAl) := ⟨rfl, rfl, rfl, by decide +kernel, rfl, by decide +kernel, by decide +kernel⟩
def spLAl (K : PySem.W.Frag) (C : Addr) : Sp := fun vs H Q _ => ∃ (a : MdA) (D : Md) (zs : List Str) (b : Addr) (k : Nat), vs = [.ref a.m, .ref b] ∧ ModelAt K H zs a D ∧ BookAt K C H b (bkOf zs D) ∧ NamesOk zs ∧ Gd zs D k ∧ ∀ H', Same H H' → Q (.bl true) H'
def toldD (g c : Int) (l : List (Str × Int)) : PyData := .list [.int g, .int 0, .int c, .list (notesD l), .list (notesD l)]
theorem nice_told {zs : List Str} (hz : ∀ z ∈ zs, nameT z = true) {g c : Int} {l : List (Str × Int)} (hg : BigOk g) (hc : BigOk c) (hl : ∀ n ∈ l, NoteOk zs n) (ll : l.length ≤ 60) : NiceD (toldD g c l) 8000 := by
  have n := nice_notes hz hl
  have nl := n.list
  have dl : (PyData.list (notesD l)).depth ≤ 4 := by
    simp only [PyData.depth]
    have : PyData.depthAll (notesD l) ≤ 1 := by
      clear n nl hg hc ll
      induction l with
      | nil => exact Nat.zero_le _
      | cons a r ih =>
        show PyData.depthAll (noteD a :: notesD r) ≤ 1
        simp only [PyData.depthAll]
        have h1 := (nice_note hz (hl a List.mem_cons_self)).2
        have h2 := ih fun n hn => hl n (List.mem_cons_of_mem _ hn)
        omega
    omega
  have z4 : ∀ i : Int, (PyData.int i).depth ≤ 4 := fun i => by simp only [PyData.depth]; omega
  have a := (NiceA.cons (nice_int hg) (z4 _) (NiceA.cons (nice_int (show BigOk 0 by unfold BigOk; decide)) (z4 _) (NiceA.cons (nice_int hc) (z4 _) (NiceA.cons nl dl (NiceA.cons nl dl NiceA.nil))))).list
  exact ⟨a.sh, a.lv, a.nd, a.dp, Nat.le_trans a.bk (by omega), a.cl⟩
theorem ok_lal {f f1 f2 f3 f4 f5 f6 f7 f8 C : Addr} {fd fd1 fd2 fd3 fd4 fd5 fd6 fd7 fd8 : FuncData} (F : Fun K "_law_alike" "_law_alike" sLAl f fd) (T : ClsF K C) (B2 : Blt2 mg)
    (PE1 : HasM P w K mg base C 1 "persons" ["self"] (spPersons K C) f1 fd1) (GV : HasM P w K mg base C 4 "given" ["self", "who"] (spNum K C Bk.gifts) f2 fd2) (FL : HasM P w K mg base C 4 "fallen" ["self", "who"] (spNum K C Bk.drops) f3 fd3)
    (CS : HasM P w K mg base C 5 "cash" ["self", "who"] (spCalc K C cashM) f4 fd4) (NT : HasM P w K mg base C 4 "notes" ["self", "who"] (spRow K C fun l _ => l) f5 fd5) (PL : HasM P w K mg base C 5 "pile" ["self", "who"] (spRow K C leftN) f6 fd6)
    (LC : Has P w K mg base 2 "_law_cash" ["_law_model_here", "_law_who"] (spLCs K) f7 fd7) (LL : Has P w K mg base 2 "_law_left" ["_law_model_here", "_law_who"] (spLLf K) f8 fd8) :
    FnG P w K mg base CX0 6 f fd ["_law_model_here", "_law_book"] (spLAl K C) := by
  refine okG0 F scLAl (fun vs H Q E h => ?_) (fun cdv Ar outer s H vs Q E hr hgd h => ?_)
  · obtain ⟨_, _, _, _, _, rfl, _⟩ := h
    rfl
  · obtain ⟨a, D, zs, b, k, rfl, hM, hb, nz, gd, q⟩ := h
    have hu := hu_of hr
    have hr1 := hr.mono (show 1 ≤ 5 by decide)
    have hr2 := hr.mono (show 2 ≤ 5 by decide)
    have hr4 := hr.mono (show 4 ≤ 5 by decide)
    refine ⟨_, pss_cons (ps_if (pt_cmpR (op_neD hr.units) (pe_meth0 (pv 1) T.cl PE1.m PE1.ok hr1 PE1.b .nil pass0) (pe_dget hu (pv 0) pe_str (fun _ _ => rfl)) (nomark _)) (pss_one (ps_ret pe_bl)) pss_nil)
      (pss_cons (ps_for PassesOwn.never rfl (pi_list (pe_dget hu (pv 0) pe_str (fun _ _ => rfl))) (pg_name (i := 2) scLAl.nd rfl (.inl rfl))
        (pss_cons (ps_set (i := 3) scLAl.nd rfl (.inl rfl) (pe_lst (pa_cons (pe_meth (pv 1) T.cl GV.m GV.ok hr4 GV.b .nil pass0 (pa_cons (pv 2) pa_nil)) (pa_cons (pe_meth (pv 1) T.cl FL.m FL.ok hr4 FL.b .nil pass0 (pa_cons (pv 2) pa_nil))
          (pa_cons (pe_meth (pv 1) T.cl CS.m CS.ok hr CS.b .nil pass0 (pa_cons (pv 2) pa_nil)) (pa_cons (pe_meth (pv 1) T.cl NT.m NT.ok hr4 NT.b .nil pass0 (pa_cons (pv 2) pa_nil)) (pa_cons (pe_meth (pv 1) T.cl PL.m PL.ok hr PL.b .nil pass0 (pa_cons (pv 2) pa_nil)) pa_nil)))))))
        (pss_cons (ps_set (i := 4) scLAl.nd rfl (.inl rfl) (pe_lst (pa_cons (pe_dget hu (pe_dget hu (pv 0) pe_str (fun _ _ => rfl)) (pv 2) (fun _ _ => rfl)) (pa_cons (pe_dget hu (pe_dget hu (pv 0) pe_str (fun _ _ => rfl)) (pv 2) (fun _ _ => rfl))
          (pa_cons (pe_call LC.ok hr2 (by rfl) LC.g LC.kp LC.b .nil pass0 (pa_cons (pv 0) (pa_cons (pv 2) pa_nil))) (pa_cons (pe_dget hu (pe_dget hu (pv 0) pe_str (fun _ _ => rfl)) (pv 2) (fun _ _ => rfl)) pa_nil))))))
        (pss_one (ps_if (pt_cmpR op_ne (pe_callB (call_repr hr hgd) (by rfl) B2.repr (by decide +kernel) (pa_cons (pv 3) pa_nil))
          (pe_callB (call_repr hr hgd) (by rfl) B2.repr (by decide +kernel) (pa_cons (pe_op op_cat (pv 4) (pe_lst (pa_cons (pe_call LL.ok hr2 (by rfl) LL.g LL.kp LL.b .nil pass0 (pa_cons (pv 0) (pa_cons (pv 2) pa_nil))) pa_nil))) pa_nil)) (nomark _))
          (pss_one (ps_ret pe_bl)) pss_nil)))))
      (pss_one (ps_ret pe_bl))), ?_⟩
    obtain ⟨dx, tn, on, wg, ws, wd, e, h1, hn, h2, h3, h4⟩ := hb.ex
    have okb := gd.ok nz hM.lg hM.ln
    have nn := nice_names nz.nm
    refine ⟨.ref b, rfl, b, dx, _, rfl, e, bf_no (NoF.mk' (by decide +kernel)), b, _, rfl, hb, fun l nl => ?_⟩
    have s1 := same_upd (o := .lst ((bkOf zs D).names.map V.str)) nl
    have hM1 := model_same hM s1
    refine ⟨.ref a.m, rfl, a.m, .ref a.lo, rfl, hM1.g0, .list (zs.map .str), .list (zs.map .str), .lst (.inl (.inl upd_same)) (DpAll.strs zs), .lst (.inl (.inl hM1.ho)) (DpAll.strs zs), nice_shaped nn.list, nice_shaped nn.list, _, rfl, ?_⟩
    rw [SeqAt.eqv_refl _ nn.list.cl]
    refine iteF ?_
    refine ⟨.ref a.m, rfl, a.m, .ref a.lo, rfl, hM1.g0, a.lo, rfl, ⟨_, .inl (.inl hM1.ho)⟩, ?_⟩
    refine for_it (walk_list (K := K) (a := a.lo) (xs := zs.map V.str)) (fun i σ H' => ∃ y2 y3 y4, σ = [some (.ref a.m), some (.ref b), y2, y3, y4] ∧ Same H H') ⟨_, _, _, rfl, s1⟩ (fun i σ H' _ hP => ?_) (fun i x σ H2' H2 hi hP hY => ?_) (fun σ H' hP => ?_)
    · obtain ⟨_, _, _, _, s2⟩ := hP
      exact .inl (.inl (s2 _ _ hM.ho))
    · obtain ⟨rfl, hx⟩ := hY
      obtain ⟨y2, y3, y4, rfl, s2⟩ := hP
      rw [List.length_map] at hi
      have exx : x = .str zs[i] := by
        rw [List.getElem?_map, List.getElem?_eq_getElem hi] at hx
        exact (Option.some.inj hx).symm
      subst exx
      have ej : zs[i]? = some zs[i] := List.getElem?_eq_getElem hi
      obtain ⟨gv, f', l', r, xs, eg, ef, el, er, hr0, hd0⟩ := hM.at_ ej
      have f0 : f' = 0 := by
        have := List.mem_of_getElem? ef
        rw [gd.zf] at this
        exact List.eq_of_mem_replicate this
      subst f0
      have hl' := gd.nt l' (List.mem_of_getElem? el)
      have ll' := gd.rows l' (List.mem_of_getElem? el)
      have elz : leftN l' 0 = l' := left_zero fun n hn => (hl' n hn).2.1
      have ec : cashM (bkOf zs D) i zs[i] = gv := by
        rw [cash_eq]
        unfold cashD
        rw [gd.sums, getD_of eg, getD_of ef]
        omega
      have noB : ∀ {m : Str}, ((m == "names") || (m == "gifts") || (m == "stacks") || (m == "drops")) = false → (bf (.ref tn) wg ws wd).lookup m = none := fun h => bf_no (NoF.mk' h)
      -- told
      refine ⟨.ref b, rfl, b, dx, _, rfl, s2 _ _ e, noB (by decide +kernel), .str zs[i], rfl, b, _, _, i, gv, rfl, book_same hb s2, nz, ej, eg, fun H3 s3 => ?_⟩
      have s23 := s2.trans s3
      refine ⟨.ref b, rfl, b, dx, _, rfl, s23 _ _ e, noB (by decide +kernel), .str zs[i], rfl, b, _, _, i, 0, rfl, book_same hb s23, nz, ej, ef, fun H4 s4 => ?_⟩
      have s24 := s23.trans s4
      refine ⟨.ref b, rfl, b, dx, _, rfl, s24 _ _ e, noB (by decide +kernel), .str zs[i], rfl, b, _, _, i, rfl, book_same hb s24, okb, ej, fun H5 s5 => ?_⟩
      rw [ec]
      have s25 := s24.trans s5
      refine ⟨.ref b, rfl, b, dx, _, rfl, s25 _ _ e, noB (by decide +kernel), .str zs[i], rfl, b, _, _, i, l', 0, rfl, book_same hb s25, nz, ej, el, ef, by omega, fun r1 x1 H6 s6 nr1 hr1' d1 => ?_⟩
      have s26 := s25.trans s6
      refine ⟨.ref b, rfl, b, dx, _, rfl, s26 _ _ e, noB (by decide +kernel), .str zs[i], rfl, b, _, _, i, l', 0, rfl, book_same hb s26, nz, ej, el, ef, by omega, fun r2 x2 H7 s7 nr2 hr2' d2 => ⟨by show 5 ≤ sizeLine; decide, fun t1 nt1 => ?_⟩⟩
      rw [elz] at d2
      have s8 := same_upd (o := .lst [V.int gv, V.int 0, V.int gv, V.ref r1, V.ref r2]) nt1
      have s28 := s26.trans (s7.trans s8)
      generalize hH8 : upd H7 t1 (.lst [V.int gv, V.int 0, V.int gv, V.ref r1, V.ref r2]) = H8 at s8 s28
      have ht1 : H8 t1 = some (.lst [V.int gv, V.int 0, V.int gv, V.ref r1, V.ref r2]) := by
        rw [← hH8, upd_same]
      have hM8 := model_same hM s28
      -- wanted
      refine ⟨.ref a.m, rfl, a.m, .ref a.dg, rfl, hM8.g1, .str zs[i], rfl, a.dg, .int gv, rfl, hM8.gg ej eg, .ref a.m, rfl, a.m, .ref a.df, rfl, hM8.g2, .str zs[i], rfl, a.df, .int 0, rfl, hM8.gf ej ef, .ref a.m, rfl, .str zs[i], rfl, a, D, zs, _, i, rfl, hM8, ej, gd.rows, fun H9 s9 => ?_⟩
      have ec2 : cashD D i zs[i] = gv := by
        rw [← cash_eq zs]
        exact ec
      rw [ec2]
      have s29 := s28.trans s9
      have hM9 := model_same hM s29
      refine ⟨.ref a.m, rfl, a.m, .ref a.dn, rfl, hM9.g3, .str zs[i], rfl, a.dn, .ref r, rfl, hM9.gn ej er, by show 4 ≤ sizeLine; decide, fun t2 nt2 => ?_⟩
      have s10 := same_upd (o := .lst [V.int gv, V.int 0, V.int gv, V.ref r]) nt2
      generalize hH10 : upd H9 t2 (.lst [V.int gv, V.int 0, V.int gv, V.ref r]) = H10 at s10
      have ht2 : H10 t2 = some (.lst [V.int gv, V.int 0, V.int gv, V.ref r]) := by
        rw [← hH10, upd_same]
      have s210 := s29.trans s10
      have dTold : Dt K H10 (.ref t1) (toldD gv gv l') := .lst (.inl (.inl (s10 _ _ (s9 _ _ ht1)))) (.cons (.int _) (.cons (.int _) (.cons (.int _) (.cons (.lst (.inl (.inl ((s9.trans s10) _ _ (s8 _ _ (s7 _ _ hr1'))))) (DtAll.same ((s7.trans s8).trans (s9.trans s10)) _ d1))
        (.cons (.lst (.inl (.inl ((s9.trans s10) _ _ (s8 _ _ hr2')))) (DtAll.same (s8.trans (s9.trans s10)) _ d2)) .nil)))))
      have bg := gd.big (List.mem_of_getElem? eg)
      have nt := nice_told nz.nm bg bg hl' ll'
      have dp20 : (toldD gv gv l').depth ≤ 20 := by
        have := nt.dp
        omega
      refine ⟨.ref t1, rfl, .ref t1, toldD gv gv l', rfl, dTold, nt.sh, .inl nt.nd, dp20, nice_fits nt (Nat.le_refl _), ?_⟩
      have hM10 := model_same hM s210
      refine ⟨.ref t2, rfl, .ref a.m, rfl, .str zs[i], rfl, a, D, zs, _, i, l', 0, rfl, hM10, ej, el, ef, by omega, fun m mx H11 s11 nm hm dm => ⟨by show 1 ≤ sizeLine; decide, fun t3 nt3 => ?_⟩⟩
      rw [elz] at dm
      have s12 := s11.trans (same_upd (o := .lst [V.ref m]) nt3)
      refine ⟨t2, t3, _, _, rfl, rfl, s12 _ _ ht2, upd_same, by show 4 + 1 ≤ sizeLine; decide, fun t4 nt4 => ?_⟩
      have s13 := same_upd (o := .lst ([V.int gv, V.int 0, V.int gv, V.ref r] ++ [V.ref m])) nt4
      have s1013 := s12.trans s13
      have hMr : ∀ {H' : Hp}, Same H H' → Dt K H' (.ref r) (.list (notesD l')) := fun {H'} sm => .lst (.inl (.inl (sm _ _ hr0))) (DtAll.same sm _ hd0)
      have dW : Dt K (upd (upd H11 t3 (.lst [V.ref m])) t4 (.lst ([V.int gv, V.int 0, V.int gv, V.ref r] ++ [V.ref m]))) (.ref t4) (toldD gv gv l') := .lst (.inl (.inl upd_same)) (.cons (.int _) (.cons (.int _) (.cons (.int _) (.cons (hMr (s210.trans s1013))
        (.cons (.lst (.inl (.inl (s13 _ _ (same_upd nt3 _ _ hm)))) (DtAll.same ((same_upd nt3).trans s13) _ dm)) .nil)))))
      refine ⟨_, _, rfl, dW, nt.sh, .inl nt.nd, dp20, nice_fits nt (Nat.le_refl _), rfl, _, rfl, ?_⟩
      exact iteNS rfl ⟨_, _, _, rfl, s210.trans s1013⟩
    · obtain ⟨_, _, _, rfl, s2⟩ := hP
      exact q _ s2
end
end Rc

namespace Rc
open PySem PySem.Spec PyProof.Rows L2 RZ
theorem Pot.ne {H : Hp} {p b : Addr} (h : Pot H p) (n : H b = none) : b ≠ p := by
  obtain ⟨x, y, e, _⟩ := h
  exact (ne_of_none e n).symm
def rListS (K : PySem.W.Frag) : List V → Hp → VK → Prop := fun xs H Q => ∃ p ys, xs = [.ref p] ∧ (SqL K H p ys ∨ SqT K H p ys) ∧ ∀ l, H l = none → Q (.ref l) (upd H l (.lst ys))
theorem call_listS {X : Cx} {K : PySem.W.Frag} (e : X.K = K) : CallR X (.type "list") (rListS K) := by
  subst e
  exact call_list_of
/-- a def that is called, no repr being under way -/
structure HasG (P : Program) (w : World) (K : PySem.W.Frag) (mg : Str → Option Value) (base : Heap) (k : Nat) (nm : Str) (ps : List Str) (sp : Sp) (f : Addr) (fd : FuncData) : Prop where
  ok : FnG P w K mg base CX0 k f fd ps sp
  g : mg nm = some (.ref f)
  kp : PySem.W.keepIn K (.ref f) = true
  b : Binds K fd ps []
mutual
theorem Dt.dp {K : PySem.W.Frag} {H : Hp} : ∀ {v : V} (d : PyData), tupD d = true → Dt K H v d → Dp K H v d
  | _, .none, _, h => by cases h; exact .non
  | _, .bool _, _, h => by cases h; exact .bl _
  | _, .int _, _, h => by cases h; exact .int _
  | _, .str _, _, h => by cases h; exact .str _
  | _, .list ds, t, h => by simp [tupD] at t
  | _, .dict ps, t, h => by simp [tupD] at t
  | _, .tuple ds, t, h => by
    cases h with
    | tup q a => exact .tup q (DtAll.dp ds (by simpa [tupD] using t) a)
theorem DtAll.dp {K : PySem.W.Frag} {H : Hp} : ∀ {vs : List V} (ds : List PyData), tupDs ds = true → DtAll K H vs ds → DpAll K H vs ds
  | _, [], _, h => by cases h; exact .nil
  | _, d :: ds, t, h => by
    cases h with
    | cons a b =>
      have t' : tupD d = true ∧ tupDs ds = true := by simpa [tupDs] using t
      exact .cons (Dt.dp d t'.1 a) (DtAll.dp ds t'.2 b)
end
theorem tup_key (M : Bk) : tupD (keyD M) = true := by
  have h1 := tup_strs M.names
  have h2 := tup_ints M.gifts
  have h3 := tup_stacks M.stacks
  have h4 := tup_ints M.drops
  unfold keyD
  simp only [tupD, tupDs] at *
  simp [h1, h2, h3, h4]
theorem lay_map {α : Type} {f : α → PyData} : ∀ {l : List α}, (∀ x ∈ l, (f x).canLay0 = true) → PyData.canLayAll0 (l.map f) = true
  | [], _ => rfl
  | x :: r, h => by
    rw [List.map_cons]
    simp only [PyData.canLayAll0, h x List.mem_cons_self, lay_map fun y hy => h y (List.mem_cons_of_mem _ hy), Bool.and_self]
theorem dep_map {α : Type} {f : α → PyData} {n : Nat} : ∀ {l : List α}, (∀ x ∈ l, (f x).depth ≤ n) → PyData.depthAll (l.map f) ≤ n
  | [], _ => Nat.zero_le _
  | x :: r, h => by
    rw [List.map_cons]
    simp only [PyData.depthAll]
    have h1 := h x List.mem_cons_self
    have h2 := dep_map (f := f) fun y hy => h y (List.mem_cons_of_mem _ hy)
    omega
def KeyOk (M : Bk) : Prop := SeqAt.shaped (keyD M) = true
theorem Gd.key {zs : List Str} {D : Md} {k : Nat} (h : Gd zs D k) (nz : NamesOk zs) : KeyOk (bkOf zs D) := by
  have ln : ∀ n : Str × Int, (noteD n).depth = 1 := fun n => by simp [noteD, PyData.depth, PyData.depthAll]
  have ls : ∀ l, (stackD l).depth ≤ 2 := fun l => by
    unfold stackD notesD
    simp only [PyData.depth]
    have := dep_map (f := noteD) (n := 1) (l := l) fun n _ => Nat.le_of_eq (ln n)
    omega
  have c1 : PyData.canLayAll0 (zs.map .str) = true := (nice_names nz.nm).cl
  have c2 : ∀ l : List Int, PyData.canLayAll0 (l.map .int) = true := fun l => lay_map fun x _ => by simp only [PyData.canLay0]
  have c3 : PyData.canLayAll0 (D.notes.map stackD) = true := lay_map fun l hl => by
    unfold stackD
    simp only [PyData.canLay0]
    exact (nice_notes nz.nm (h.nt l hl)).cl
  unfold KeyOk SeqAt.shaped
  have ec : (keyD (bkOf zs D)).canLay0 = true := by
    show (PyData.tuple [.tuple (zs.map .str), .tuple (D.given.map .int), .tuple (D.notes.map stackD), .tuple (D.fallen.map .int)]).canLay0 = true
    simp only [PyData.canLay0, PyData.canLayAll0, c1, c2, c3, Bool.and_self]
  have ed : (keyD (bkOf zs D)).depth ≤ 64 := by
    show (PyData.tuple [.tuple (zs.map .str), .tuple (D.given.map .int), .tuple (D.notes.map stackD), .tuple (D.fallen.map .int)]).depth ≤ 64
    simp only [PyData.depth, PyData.depthAll]
    have d1 := dep_map (f := PyData.str) (n := 0) (l := zs) fun _ _ => by simp only [PyData.depth]; omega
    have d2 := dep_map (f := PyData.int) (n := 0) (l := D.given) fun _ _ => by simp only [PyData.depth]; omega
    have d3 := dep_map (f := stackD) (n := 2) (l := D.notes) fun l _ => ls l
    have d4 := dep_map (f := PyData.int) (n := 0) (l := D.fallen) fun _ _ => by simp only [PyData.depth]; omega
    omega
  rw [ec, decide_eq_true ed]
  rfl
/-- an elder book and its key -/
def Elder (K : PySem.W.Frag) (C : Addr) (H : Hp) (v : V) : Prop := ∃ t b M kv, v = .ref t ∧ SqT K H t [.ref b, kv] ∧ BookAt K C H b M ∧ KeyOk M ∧ Dt K H kv (keyD M)
theorem Elder.keep {K : PySem.W.Frag} {C : Addr} {H H' : Hp} {v : V} (h : Elder K C H v) (k : Kp H H') : Elder K C H' v := by
  obtain ⟨t, b, M, kv, rfl, q, hb, ko, dk⟩ := h
  refine ⟨t, b, M, kv, rfl, ?_, hb.keep k, ko, Dt.keep k _ (tup_key M) dk⟩
  rcases q with (q | ⟨o, q⟩) | q
  · exact .inl (.inl (k _ _ q trivial))
  · exact .inl (.inr ⟨o, k _ _ q trivial⟩)
  · exact .inr q
theorem But.kpP {p : Addr} {H H' : Hp} (b : But p H H') (hp : Pot H p) : Kp H H' := by
  obtain ⟨x, y, e, _⟩ := hp
  exact b.kp e
theorem kp_same {H H' : Hp} (s : Same H H') : Kp H H' := fun b o e _ => s b o e
theorem mem_cut {xs : List V} {lo hi : Option Int} {v : V} (h : v ∈ cutV xs lo hi) : v ∈ xs := by
  unfold cutV at h
  exact List.mem_of_mem_drop (List.mem_of_mem_take h)
theorem op_eqS {X : Cx} {K : PySem.W.Frag} (e : X.K = K) (hu : X.A.units + 64 < cLine) : OpR X (compareOp .Eq) (rEqD K) := by
  subst e
  exact op_eqD hu
theorem len_zero : ∀ (L : List (List (Str × Int) × Int)), (∀ p ∈ L, p.2 = 0 ∧ ∀ n ∈ p.1, 1 ≤ n.2) → (L.flatMap fun p => leftN p.1 p.2).length = (L.map fun p => p.1.length).sum
  | [], _ => rfl
  | p :: r, h => by
    obtain ⟨e, hn⟩ := h p List.mem_cons_self
    have ih := len_zero r fun q hq => h q (List.mem_cons_of_mem _ hq)
    rw [List.flatMap_cons, List.length_append, ih, e, left_zero hn]
    rfl
theorem Gd.len {zs : List Str} {D : Md} {k : Nat} (h : Gd zs D k) (ln : D.notes.length = zs.length) : lenM (bkOf zs D) = (D.notes.map List.length).sum := by
  show (((D.notes.zip D.fallen).take zs.length).flatMap fun p => leftN p.1 p.2).length = _
  have lf : D.fallen.length = zs.length := by
    rw [h.zf]
    exact List.length_replicate
  rw [List.take_of_length_le (by rw [List.length_zip]; omega), len_zero _ fun p hp => ?_]
  · have : (D.notes.zip D.fallen).map (fun p => p.1.length) = ((D.notes.zip D.fallen).map Prod.fst).map List.length := by
      rw [List.map_map]
      rfl
    rw [this, List.map_fst_zip (by omega)]
  · obtain ⟨h1, h2⟩ := List.of_mem_zip hp
    rw [h.zf] at h2
    exact ⟨List.eq_of_mem_replicate h2, fun n hn => (h.nt _ h1 n hn).2.1⟩
/-- the model behind some deeds -/
def mdAt (zs : List Str) (ds : List Deed) : Md := ds.foldl (doneD zs) (newMd zs.length)
theorem done_lens (zs : List Str) (D : Md) (d : Deed) : (doneD zs D d).given.length = D.given.length ∧ (doneD zs D d).notes.length = D.notes.length := by
  cases d with
  | give z n => exact ⟨List.length_set, rfl⟩
  | put z y n => exact ⟨rfl, List.length_set⟩
theorem md_good (zs : List Str) : ∀ (ds : List Deed), (∀ d ∈ ds, d.Ok zs) → ds.length ≤ 60 → ∀ (D : Md) (k : Nat), Gd zs D k → D.given.length = zs.length → D.notes.length = zs.length → k + ds.length ≤ 60 →
    Gd zs (ds.foldl (doneD zs) D) (k + ds.length)
  | [], _, _, D, k, g, _, _, _ => g
  | d :: ds, h, hl, D, k, g, lg, ln, hk => by
    rw [List.length_cons] at hl hk
    obtain ⟨a, b⟩ := done_lens zs D d
    have := md_good zs ds (fun e he => h e (List.mem_cons_of_mem _ he)) (by omega) (doneD zs D d) (k + 1) (g.done (h d List.mem_cons_self) (by omega) ln lg) (by rw [a, lg]) (by rw [b, ln]) (by omega)
    rw [List.length_cons, Nat.add_comm ds.length 1, ← Nat.add_assoc]
    exact this
theorem md_at_good {zs : List Str} {ds : List Deed} (h : ∀ d ∈ ds, d.Ok zs) (hl : ds.length ≤ 60) : Gd zs (mdAt zs ds) ds.length := by
  have := md_good zs ds h hl (newMd zs.length) 0 Gd.new List.length_replicate List.length_replicate (by omega)
  rw [Nat.zero_add] at this
  exact this
end Rc

namespace Rc
open PySem PySem.Spec PyProof.Rows L2
/-! ### what can be shown -/
structure ShowOk (d : PyData) : Prop where
  sh : d.showable = true
  tp : DictTop d
  dp : d.depth ≤ 20
  ft : (∃ i, d = .int i) ∨ d.shown.length ≤ sizeLine
theorem NiceD.show {d : PyData} {n : Nat} (h : NiceD d n) (hn : n ≤ 8000) : ShowOk d := ⟨h.sh, .inl h.nd, by have := h.dp; omega, nice_fits h hn⟩
theorem nice_text {z : Str} {n : Nat} (hc : ∀ c ∈ z.cps.toList, c < 128) (hl : z.length ≤ n) : NiceD (.str z) n := by
  refine ⟨by simp only [PyData.showable], ?_, by simp only [PyData.hasDict], by simp only [PyData.depth]; omega, ?_, ?_⟩
  · simp only [PyData.leavesShort, List.all_eq_true, decide_eq_true_eq]
    exact fun c h => Nat.lt_trans (hc c h) (by decide)
  · simp only [PyData.bulk]
    exact hl
  · simp only [PyData.canLay0]
    show z.cps.all (fun c => decide (c < 0x110000)) = true
    rw [← Array.all_toList, List.all_eq_true]
    exact fun c h => decide_eq_true (Nat.lt_trans (hc c h) (by decide))
section
variable {X : Cx}
/-- repr, whatever is being handled -/
theorem call_reprU {K : PySem.W.Frag} (eK : X.K = K) (hu : X.A.units + 64 < cLine) (hg : X.A.guards = some []) : CallR X (.builtin "repr") (rRepr K) := by
  subst eK
  intro pins s σ H xs us Q I r h
  obtain ⟨v, d, rfl, hd, hs, ht, hp, hz, q⟩ := h
  obtain ⟨u, rfl, ru⟩ := vals1 r
  obtain ⟨as, rd, nsm⟩ := Dt.reads I d v u hd ru
  have far : ∀ a, u = .ref a → d.shown.length ≤ sizeLine → wpAny (model X.prog X.w) X.A (call (.builtin "repr") [u]) (EP X pins σ Q) X.xe s := by
    rintro a rfl fit
    refine repr_of_reads' rd hs (fun hx => ?_) hg (by omega) (fun _ _ e => e) (fun h' t tk hk => ⟨.str _, H, I.kept hk, ⟨t, rfl⟩, q⟩) fit
    rcases ht with z | z
    · rw [z] at hx; cases hx
    · exact nsm z
  cases hd with
  | non => cases ru; exact PySem.P.repr_of_none ⟨.str _, H, I.tok _, ⟨_, rfl⟩, q⟩
  | bl b => cases ru; exact PySem.P.repr_of_bool ⟨.str _, H, I.tok _, ⟨_, rfl⟩, q⟩
  | int i =>
    obtain ⟨t, rfl⟩ := ru
    exact PySem.P.repr_of_int (by simpa [PyData.showable] using hs) ⟨.str _, H, I.tok _, ⟨_, rfl⟩, by simpa [PyData.shown] using q⟩
  | str x =>
    obtain ⟨t, rfl⟩ := ru
    exact PySem.P.repr_of_str ⟨.str _, H, I.tok _, ⟨_, rfl⟩, by simpa [PyData.shown] using q⟩ (by simpa [PyData.shown] using notInt hz (fun _ z => nomatch z))
  | lst _ _ => exact far _ ru (notInt hz fun _ z => nomatch z)
  | tup _ _ => exact far _ ru (notInt hz fun _ z => nomatch z)
  | dct _ _ _ => exact far _ ru (notInt hz fun _ z => nomatch z)
/-- isinstance(e, c), e the exception of the suite, with fields -/
def rIsX (K : PySem.W.Frag) (D a : Addr) (cls : Value) (d : Option Addr) : List V → Hp → VK → Prop := fun xs H Q => ∃ (c : V) (cv : Value) (b : Bool) (dd : Addr) (fs : List (Str × V)),
  xs = [.ref a, c] ∧ (∀ u, RelV c u → u = cv) ∧ PySem.W.kitOne K (.ref D) cv = some b ∧ cls = .ref D ∧ d = some dd ∧ H dd = some (.xd fs) ∧ Q (.bl b) H
theorem call_isX {K : PySem.W.Frag} {a D : Addr} {oe : Obj} {cls : Value} {d : Option Addr} {pn : List (Addr × Obj)} (eK : X.K = K) (C : ExcC K D) (hz : Zc cls d oe) (hf : ∃ vs, oe.data = .fields vs) : CallR (X.suite a ((a, oe) :: pn)) (.builtin "isinstance") (rIsX K D a cls d) := by
  subst eK
  intro pins s σ H xs us Q I r h
  obtain ⟨c, cv, b, dd, fs, rfl, hcv, e, rfl, rfl, hdd, q⟩ := h
  cases r with
  | cons rx rr =>
    cases rr with
    | cons rt rr =>
      cases rr
      cases rx
      have ec := hcv _ rt
      subst ec
      obtain ⟨hget, _⟩ := I.pin (a, oe) (List.mem_append.mpr (.inl List.mem_cons_self))
      obtain ⟨vs, hv⟩ := hf
      have hx : ObjOk X.prog X.w H s.heap dd (.xd fs) := I.hok dd _ hdd
      obtain ⟨mA, ⟨od, es, ep, hod, _⟩, _⟩ := hx
      have J : PySem.W.InstAt s.heap a oe D (some od) := by
        obtain ⟨h1, h2⟩ := hz
        exact ⟨hget, h1, by unfold PySem.W.notCls; rw [hv] <;> rfl, by rw [h2]; exact hod⟩
      obtain ⟨cdD, hcD, _⟩ := PySem.W.any_some C.hd
      exact PySem.W.kia_one (PySem.W.kitx_exc (by rw [hcD]; rfl) C.hg C.hk C.hs C.ha C.hn C.ht C.hm) I.kIn J e (fun z => nomatch z) fun tk => ⟨.bl b, H, I.kept (t' := tk) fun _ _ z => z, rfl, q⟩
/-- "a" * 9 -/
theorem op_mulA : OpR X (binaryOp .Mult) (fun x y H Q => x = .str "a" ∧ y = .int 9 ∧ Q (.str "aaaaaaaaa") H) := by
  intro pins s σ H x y v u Q I rx ry h
  obtain ⟨rfl, rfl, q⟩ := h
  obtain ⟨t, rfl⟩ := rx
  obtain ⟨t', rfl⟩ := ry
  refine PySem.P.mul_str (by decide) (fun _ _ => by decide) (fun _ _ => by decide +kernel) ?_
  rw [if_neg (by decide), if_neg (by decide)]
  exact ⟨by decide +kernel, ⟨.str "aaaaaaaaa", H, I.tok _, ⟨_, rfl⟩, q⟩⟩
end
/-- BookError, beside NoSuch -/
structure ClsB (K : PySem.W.Frag) (mg : Str → Option Value) (CB CN : Addr) : Prop where
  g : mg "BookError" = some (.ref CB)
  ex : PySem.W.subIn K (.ref CB) (.type "BaseException") = some true
  hd : PySem.W.hasDictIn K CB = true
  ty : PySem.W.typeIn K (.ref CB) = some (.type "type")
  no : PySem.W.subIn K (.ref CN) (.ref CB) = some false
  self : PySem.W.subIn K (.ref CN) (.ref CN) = some true
  kit : PySem.W.kitOne K (.ref CN) (.ref CB) = some false
  kil : PySem.W.kitOne K (.ref CN) (.type "LookupError") = some true
  lk : mg "LookupError" = none
  cl : PySem.W.findIn K (.ref CN) "__class__" = some (some (.builtin "object.__class__"))
  sp : PySem.W.specialIn K (.builtin "object.__class__") "__get__" = some (some (.builtin "getset_descriptor.__get__"))
  tk : PySem.W.takesIn K (.builtin "object.__class__") = some true
  ob : PySem.W.mroIn K CN (.type "object") = some true
section
variable {P : Program} {K : PySem.W.Frag} {mg : Str → Option Value} {CB CN : Addr}
theorem ClsB.exc (B : ClsB K mg CB CN) (N : ClsN P K mg CN) : ExcC K CN := ⟨N.ga, N.gg, N.exC, N.hd, B.cl, B.sp, B.tk, B.ob⟩
theorem ClsB.miss (B : ClsB K mg CB CN) : PySem.W.exmOne K (.ref CN) (.ref CB) = some false := PySem.W.exm_ref B.ex B.hd B.ty B.no
theorem ClsB.hit (B : ClsB K mg CB CN) (N : ClsN P K mg CN) : PySem.W.exmOne K (.ref CN) (.ref CN) = some true := PySem.W.exm_ref N.exC N.hd N.tyC B.self
theorem no_xf (N : ClsN P K mg CN) : XfC K CN := ⟨N.ga, N.gg, N.exC, N.hd⟩
end
end Rc

set_option pp.maxSteps 700
namespace Rc
open PySem PySem.Spec PyProof.Rows L2
/-! ### methods within a try; exceptions without fields -/
section
variable {X : Cx} {CX : CXT} {k : Nat} {f C : Addr} {fd : FuncData} {ps : List Str} {sp : Sp} {E : L2.St → XK} {m : Str} {pos apos : Pos} {e o : Expr} {es : List Expr} {ta : TE} {t : TA}
def tMethP (C : Addr) (m : Str) (sp : Sp) (E : L2.St → XK) (ta : TE) (t : TA) : TE := fun σ H Q => ta σ H fun x H1 => ∃ a dx fs, x = .ref a ∧ H1 a = some (.ins C dx fs) ∧ fs.lookup m = none ∧ t σ H1 fun vs H2 => sp (x :: vs) H2 Q (E σ)
theorem pe_methP {pl : Sem Bool} (he : PE X o ta) (c : Cls X.K C) (hm : Meth X.K C m f) (F : FnOk X.prog X.w X.K X.mg X.base CX k f fd ps sp) (hr : Room k X.A) (hb : Binds X.K fd ps []) (hx : ∀ σ, PassesAt CX X σ (E σ)) (ha : PA X (e :: es) t)
    (hst : starEach (e :: es) X.env = (false, eval e X.env) :: starEach es X.env := by rfl) (hpl : (backTo pos (starEach es X.env)).any (·.1) = false := by rfl)
    (ht : eval (.Call (.Attribute o m apos) (e :: es) [] pos) X.env = (do
      let ov ← eval o X.env
      standAt apos.atName
      let (f, first) ← holding [ov] (getMethod ov m pl)
      callWith pos f first (backTo pos (starEach (e :: es) X.env)) (backToKw pos (keywordEach [] X.env))) := by rfl) :
    PE X (.Call (.Attribute o m apos) (e :: es) [] pos) (tMethP C m sp E ta t) := by
  refine ⟨fun pins s σ H Q I h => ?_⟩
  refine PySem.W.methodCall_KW (pl := pl) (thn (he.run pins s σ H _ I h) fun u s1 ⟨x, H1, I1, rx, a, dx, fs, ex, ea, l, q⟩ => ?_) ht
  subst ex
  obtain rfl : u = Value.ref a := rx
  refine getmeth_ok I1 ea c hm l ?_
  refine PySem.W.callWith_K (first := [.ref a]) (h₀ := X.base) I.ok.mod.kin hm.kp (thn (ha.run pos pins s1 σ H1 _ I1 q) fun us s2 ⟨vs, H2, I2, r, q2⟩ => ⟨I2.kIn, ?_⟩) hst hpl
  exact run_fnS (us := .ref a :: us) (vs := .ref a :: vs) F hr hb (hx σ) I2 (.cons rfl r) q2
/-- isinstance(e, c), e without fields -/
def rIsN (K : PySem.W.Frag) (D a : Addr) (cls : Value) (d : Option Addr) : List V → Hp → VK → Prop := fun xs H Q => ∃ (c : V) (cv : Value) (b : Bool), xs = [.ref a, c] ∧ (∀ u, RelV c u → u = cv) ∧ PySem.W.kitOne K (.ref D) cv = some b ∧ cls = .ref D ∧ d = none ∧ Q (.bl b) H
theorem call_isN {K : PySem.W.Frag} {a D : Addr} {oe : Obj} {cls : Value} {d : Option Addr} {pn : List (Addr × Obj)} (eK : X.K = K) (C : ExcC K D) (hz : Zc cls d oe) (hf : ∃ vs, oe.data = .fields vs) : CallR (X.suite a ((a, oe) :: pn)) (.builtin "isinstance") (rIsN K D a cls d) := by
  subst eK
  intro pins s σ H xs us Q I r h
  obtain ⟨c, cv, b, rfl, hcv, e, rfl, rfl, q⟩ := h
  exact call_isE C hz hf pins s σ H _ us Q I r ⟨c, cv, b, rfl, hcv, e, q⟩
end
/-- an exception class over BookError, without an __init__ of its own -/
structure ClsP (K : PySem.W.Frag) (mg : Str → Option Value) (nm : Str) (D CB : Addr) : Prop where
  gP : mg nm = some (.ref D)
  xP : PySem.W.excIn K D [.type "ValueError", .type "Exception", .type "BaseException", .type "object"] "ValueError.__new__" = true
  kP : PySem.W.keepIn K (.ref D) = true
  bP : PySem.W.subIn K (.ref D) (.type "BaseException") = some true
  tP : PySem.W.typeIn K (.ref D) = some (.type "type")
  hd : PySem.W.hasDictIn K D = true
  sP : PySem.W.subIn K (.ref D) (.ref D) = some true
  ga : PySem.W.findIn K (.ref D) "__getattribute__" = some (some (.builtin "BaseException.__getattribute__"))
  gg : PySem.W.findIn K (.ref D) "__getattr__" = some none
  cl : PySem.W.findIn K (.ref D) "__class__" = some (some (.builtin "object.__class__"))
  sp : PySem.W.specialIn K (.builtin "object.__class__") "__get__" = some (some (.builtin "getset_descriptor.__get__"))
  tk : PySem.W.takesIn K (.builtin "object.__class__") = some true
  ob : PySem.W.mroIn K D (.type "object") = some true
  gB : mg "BookError" = some (.ref CB)
  kit : PySem.W.kitOne K (.ref D) (.ref CB) = some true
section
variable {K : PySem.W.Frag} {mg : Str → Option Value} {nm : Str} {D CB : Addr}
theorem ClsP.exc (P : ClsP K mg nm D CB) : ExcC K D := ⟨P.ga, P.gg, P.bP, P.hd, P.cl, P.sp, P.tk, P.ob⟩
theorem ClsP.hit (P : ClsP K mg nm D CB) : PySem.W.exmOne K (.ref D) (.ref D) = some true := PySem.W.exm_ref P.bP P.hd P.tP P.sP
theorem mkClsP {h : Heap} (X : K.In h) (G : h.Ns mainGlobals mg) (a : PySem.W.nsIn K mainGlobals nm = some (some (.ref D)))
    (a1 : PySem.W.excIn K D [.type "ValueError", .type "Exception", .type "BaseException", .type "object"] "ValueError.__new__" = true) (a2 : PySem.W.keepIn K (.ref D) = true) (a3 : PySem.W.subIn K (.ref D) (.type "BaseException") = some true)
    (a4 : PySem.W.typeIn K (.ref D) = some (.type "type")) (a5 : PySem.W.hasDictIn K D = true) (a6 : PySem.W.subIn K (.ref D) (.ref D) = some true)
    (a7 : PySem.W.findIn K (.ref D) "__getattribute__" = some (some (.builtin "BaseException.__getattribute__"))) (a8 : PySem.W.findIn K (.ref D) "__getattr__" = some none) (a9 : PySem.W.findIn K (.ref D) "__class__" = some (some (.builtin "object.__class__")))
    (b1 : PySem.W.specialIn K (.builtin "object.__class__") "__get__" = some (some (.builtin "getset_descriptor.__get__"))) (b2 : PySem.W.takesIn K (.builtin "object.__class__") = some true) (b3 : PySem.W.mroIn K D (.type "object") = some true)
    (b4 : PySem.W.nsIn K mainGlobals "BookError" = some (some (.ref CB))) (b5 : PySem.W.kitOne K (.ref D) (.ref CB) = some true) : ClsP K mg nm D CB :=
  ⟨PySem.W.mg_of X G a, a1, a2, a3, a4, a5, a6, a7, a8, a9, b1, b2, b3, PySem.W.mg_of X G b4, b5⟩
end
end Rc

namespace Rc
open PySem PySem.Spec PyProof.Rows L2 RZ
/-! ### refusals -/
inductive Rf where
  | step
  | such (v : V)
  | amount
  | ring (z : Str)
  | much (z : Str) (n : Int)
  | full
/-- the classes of what is refused -/
structure Xs where
  S : Addr
  N : Addr
  A : Addr
  R : Addr
  T : Addr
  F : Addr
abbrev XH := Hp → Prop
def Thr (X : Xs) (E : XK) (G : XH) : Rf → Prop
  | .step => ∀ H', G H' → E (.ref X.S) none H'
  | .such v => ∀ H' dd, G H' → H' dd = some (.xd [("who", v)]) → E (.ref X.N) (some dd) H'
  | .amount => ∀ H', G H' → E (.ref X.A) none H'
  | .ring z => ∀ H' dd, G H' → H' dd = some (.xd [("who", .str z)]) → E (.ref X.R) (some dd) H'
  | .much z n => ∀ H' dd, G H' → H' dd = some (.xd [("most", .int n), ("who", .str z)]) → E (.ref X.T) (some dd) H'
  | .full => ∀ H' dd, G H' → H' dd = some (.xd [("many", .int 60)]) → E (.ref X.F) (some dd) H'
theorem Thr.mono {X : Xs} {E : XK} {G G' : XH} (i : ∀ H, G' H → G H) : ∀ {r : Rf}, Thr X E G r → Thr X E G' r
  | .step, h => fun H' g => h H' (i _ g)
  | .such _, h => fun H' dd g => h H' dd (i _ g)
  | .amount, h => fun H' g => h H' (i _ g)
  | .ring _, h => fun H' dd g => h H' dd (i _ g)
  | .much _ _, h => fun H' dd g => h H' dd (i _ g)
  | .full, h => fun H' dd g => h H' dd (i _ g)
theorem Thr.same {X : Xs} {E : XK} {H H1 : Hp} {r : Rf} (h : Thr X E (Same H) r) (s : Same H H1) : Thr X E (Same H1) r := h.mono fun _ s1 => s.trans s1
section
variable {P : Program} {w : World} {K : PySem.W.Frag} {mg : Str → Option Value} {base : Heap}
/-! ### no amount -/
def spCAX (K : PySem.W.Frag) (CA : Addr) : Sp := fun vs H _ E => ∃ v d, vs = [v] ∧ Dt K H v d ∧ ShortD d ∧ amountD d = false ∧ ∀ H', Same H H' → E (.ref CA) none H'
theorem no_checkA {f fN CA CB : Addr} {fd fdN : FuncData} (F : Fun K "check_amount" "check_amount" sCheckA f fd) (PA' : ClsP K mg "NoAmount" CA CB) (N : Has P w K mg base 2 "is_amount" ["thing"] (spBool K amountD) fN fdN) : FnOk P w K mg base (L2.CX P w) 3 f fd ["amount"] (spCAX K CA) := by
  refine F.okX scCheckA (fun vs H Q E h => ?_) (fun cdv A outer s H vs Q E hr h => ?_)
  · obtain ⟨_, _, rfl, _⟩ := h
    rfl
  · obtain ⟨v, d, rfl, hv, hs, hb, q⟩ := h
    refine ⟨_, pss_one (ps_if (pt_not (pt_val (pe_call N.ok hr (by rfl) N.g N.kp N.b .nil pass0 (pa_cons (pv 0) pa_nil)))) (pss_one (ps_raise rfl (takes_of rfl rfl rfl rfl) (pmk_own PySem.F.excBase_ValueError PA'.xP PA'.gP PA'.kP (raises_own PA'.bP PA'.tP) rfl))) pss_nil), ?_⟩
    refine ⟨v, rfl, v, d, rfl, hv, hs, fun H1 s1 => ⟨_, rfl, ?_⟩⟩
    rw [hb]
    exact iteT (q H1 s1)
end
end Rc

namespace Rc
open PySem PySem.Spec PyProof.Rows L2 RZ
/-! ### Full -/
abbrev sFul : Stmt := inClass (topS 6) 0
theorem txFul : EX.Txt sFul ["many"] :=
  ⟨by simp, by decide, rfl, rfl, rfl, by decide +kernel, rfl, rfl, rfl, fun f hf => by
      obtain rfl := List.mem_singleton.mp hf
      exact ⟨rfl, by decide, by decide⟩, by decide, ⟨_, rfl, rfl⟩,
    fun _ _ _ _ _ _ _ _ vs hl => match vs, hl with | [v], _ => rfl, ⟨_, _, _, _, _, _, _, _, rfl, ⟨_, fun _ => rfl⟩, .cons .nil⟩⟩
abbrev ClsFu (P : Program) (K : PySem.W.Frag) (mg : Str → Option Value) (CF : Addr) : Prop :=
  EX.Cx' P K mg "Full" sFul ["many"] "RuntimeError" "RuntimeError.__new__" "RuntimeError.__init__" [.type "RuntimeError", .type "Exception", .type "BaseException", .type "object"] CF
/-- refusals of a note -/
inductive PuR (K : PySem.W.Frag) (H : Hp) (M : Bk) : V → V → V → Rf → Prop
  | who {v u a : V} {d : PyData} : Dt K H v d → ShortD d → hasD M d = false → PuR K H M v u a (.such v)
  | to {z : Str} {j : Nat} {u a : V} {d : PyData} : M.names[j]? = some z → Dt K H u d → ShortD d → hasD M d = false → PuR K H M (.str z) u a (.such u)
  | amount {z y : Str} {j k : Nat} {a : V} {d : PyData} : M.names[j]? = some z → M.names[k]? = some y → Dt K H a d → ShortD d → amountD d = false → PuR K H M (.str z) (.str y) a .amount
  | full {z y : Str} {j k : Nat} {m : Int} : M.names[j]? = some z → M.names[k]? = some y → 1 ≤ m → 60 ≤ manyM M → PuR K H M (.str z) (.str y) (.int m) .full
/-- .. of a gift -/
inductive GiR (K : PySem.W.Frag) (H : Hp) (M : Bk) : V → V → Rf → Prop
  | who {v a : V} {d : PyData} : Dt K H v d → ShortD d → hasD M d = false → GiR K H M v a (.such v)
  | amount {z : Str} {j : Nat} {a : V} {d : PyData} : M.names[j]? = some z → Dt K H a d → ShortD d → amountD d = false → GiR K H M (.str z) a .amount
section
variable {P : Program} {w : World} {K : PySem.W.Frag} {mg : Str → Option Value} {base : Heap}
def spPuR (K : PySem.W.Frag) (C : Addr) (X : Xs) : Sp := fun vs H _ E => ∃ (b : Addr) (M : Bk) (v u a : V) (r : Rf), vs = [.ref b, v, u, a] ∧ BookAt K C H b M ∧ M.Ok ∧ PuR K H M v u a r ∧ Thr X E (Same H) r
set_option maxHeartbeats 1000000 in
theorem no_puR {f f1 f2 C : Addr} {fd fd1 fd2 : FuncData} {X : Xs} (F : Fun K "put" "Book.put" sPut f fd) (T : ClsF K C) (B : Blt mg) (B3 : Blt3 mg) (gM : ∃ t, mg "MOST" = some (.int 60 t)) (FU : ClsFu P K mg X.F)
    (PL : HasM P w K mg base C 3 "place_of" ["self", "who"] (spPlace K C) f1 fd1) (PN : FnOk P w K mg base (L2.CX P w) 3 f1 fd1 ["self", "who"] (spNo K C X.N)) (CA : Has P w K mg base 3 "check_amount" ["amount"] (spCheckA K) f2 fd2) (CN' : FnOk P w K mg base (L2.CX P w) 3 f2 fd2 ["amount"] (spCAX K X.A)) :
    FnOk P w K mg base (L2.CX P w) 6 f fd ["self", "who", "to", "amount"] (spPuR K C X) := by
  obtain ⟨tM, gM⟩ := gM
  refine F.okX scPut (fun vs H Q E h => ?_) (fun cdv A outer s H vs Q E hr h => ?_)
  · obtain ⟨_, _, _, _, _, _, rfl, _⟩ := h
    rfl
  obtain ⟨b, M, v, u, a, r, rfl, hb, ok, h, q⟩ := h
  have hr3 := hr.mono (show 3 ≤ 5 by decide)
  obtain ⟨dx, tn, on, wg, ws, wd, e, h1, hn, h2, h3, h4⟩ := hb.ex
  cases h with
  | who hv hs hno =>
    refine ⟨_, pss_cons (ps_set (i := 4) scPut.nd rfl (.inl rfl) (pe_meth (pv 0) T.cl PL.m PN hr3 PL.b .nil (passes_call (takes_of rfl rfl rfl rfl) fun _ _ _ _ z => z) (pa_cons (pv 1) pa_nil))) pss_never, ?_⟩
    exact ⟨.ref b, rfl, b, dx, _, rfl, e, bf_no (NoF.mk' (by decide +kernel)), v, rfl, b, M, v, _, rfl, hb, ok.names, hv, hs, hno, fun H' dd s _ ed => q H' dd s ed⟩
  | @to z j _ _ d ej hu hs hno =>
    refine ⟨_, pss_cons (ps_set (i := 4) scPut.nd rfl (.inl rfl) (pe_meth (pv 0) T.cl PL.m PL.ok hr3 PL.b .nil pass0 (pa_cons (pv 1) pa_nil)))
      (pss_cons (ps_set (i := 5) scPut.nd rfl (.inl rfl) (pe_ix ix_tup (pe_fld (pv 0) rfl) (pe_meth (pv 0) T.cl PL.m PN hr3 PL.b .nil (passes_call (takes_of rfl rfl rfl rfl) fun _ _ _ _ z => z) (pa_cons (pv 2) pa_nil)) (fun _ _ => rfl))) pss_never), ?_⟩
    refine ⟨.ref b, rfl, b, dx, _, rfl, e, bf_no (NoF.mk' (by decide +kernel)), .str z, rfl, b, M, z, j, rfl, hb, ok.names, ej, fun H1 s1 => ?_⟩
    exact ⟨.ref b, rfl, b, C, dx, _, _, rfl, s1 _ _ e, T.cl, T.n1, bf_names, .ref b, rfl, b, dx, _, rfl, s1 _ _ e, bf_no (NoF.mk' (by decide +kernel)), u, rfl, b, M, u, d, rfl, book_same hb s1, ok.names, Dt.same s1 _ hu, hs, hno, fun H' dd s _ ed => q H' dd (s1.trans s) ed⟩
  | @amount z y j k _ d ej ek ha hs hno =>
    refine ⟨_, pss_cons (ps_set (i := 4) scPut.nd rfl (.inl rfl) (pe_meth (pv 0) T.cl PL.m PL.ok hr3 PL.b .nil pass0 (pa_cons (pv 1) pa_nil)))
      (pss_cons (ps_set (i := 5) scPut.nd rfl (.inl rfl) (pe_ix ix_tup (pe_fld (pv 0) rfl) (pe_meth (pv 0) T.cl PL.m PL.ok hr3 PL.b .nil pass0 (pa_cons (pv 2) pa_nil)) (fun _ _ => rfl)))
      (pss_cons (ps_expr (pe_call CN' hr3 (by rfl) CA.g CA.kp CA.b .nil (passes_call (takes_of rfl rfl rfl rfl) fun _ _ _ _ z => z) (pa_cons (pv 3) pa_nil))) pss_never)), ?_⟩
    refine ⟨.ref b, rfl, b, dx, _, rfl, e, bf_no (NoF.mk' (by decide +kernel)), .str z, rfl, b, M, z, j, rfl, hb, ok.names, ej, fun H1 s1 => ?_⟩
    refine ⟨.ref b, rfl, b, C, dx, _, _, rfl, s1 _ _ e, T.cl, T.n1, bf_names, .ref b, rfl, b, dx, _, rfl, s1 _ _ e, bf_no (NoF.mk' (by decide +kernel)), .str y, rfl, b, M, y, k, rfl, book_same hb s1, ok.names, ek, fun H2 s2 => ?_⟩
    have s12 := s1.trans s2
    exact ⟨tn, _, _, .str y, rfl, rfl, .inl (.inr ⟨on, s12 _ _ h1⟩), atI_nat (map_get ek), a, rfl, a, d, rfl, Dt.same s12 _ ha, hs, hno, fun H' s => q H' (s12.trans s)⟩
  | @full z y j k n ej ek n1 mm =>
    refine ⟨_, pss_cons (ps_set (i := 4) scPut.nd rfl (.inl rfl) (pe_meth (pv 0) T.cl PL.m PL.ok hr3 PL.b .nil pass0 (pa_cons (pv 1) pa_nil)))
      (pss_cons (ps_set (i := 5) scPut.nd rfl (.inl rfl) (pe_ix ix_tup (pe_fld (pv 0) rfl) (pe_meth (pv 0) T.cl PL.m PL.ok hr3 PL.b .nil pass0 (pa_cons (pv 2) pa_nil)) (fun _ _ => rfl)))
      (pss_cons (ps_expr (pe_call CA.ok hr3 (by rfl) CA.g CA.kp CA.b .nil pass0 (pa_cons (pv 3) pa_nil)))
      (pss_cons (ps_if (pt_cmpR op_ge (pe_callB (cr_sum rfl) (by rfl) B3.sum (by decide +kernel) (pa_cons
          (pe_lc (own := [("stack", 6)]) (g := gName 6) (tt := tYes) rfl scPut.nd (pi_tup (pe_fld (pv 0) rfl)) (blkOk_by (N := nPut) (sc := defScope sPut) (own := [("stack", 6)]) (by decide +kernel))
            (fun _ _ _ _ _ => pg_name (i := 6) scPut.nd rfl (.inl rfl) (hf := .inr rfl)) (fun _ _ _ _ _ => pts_nil)
            (fun _ _ _ _ _ => pe_callB (call_lenS (K := K) rfl) (by rfl) B.len PySem.boot_len (pa_cons (pv 6) pa_nil))) pa_nil)) (pe_glob (v := .int 60) (by rfl) gM ⟨_, rfl⟩) (nomark _))
          (pss_one (ps_raise rfl (takes_of rfl rfl rfl rfl) (pmk_ex FU txFul EX.base_Runtime hr (pa_cons (pe_glob (v := .int 60) (by rfl) gM ⟨_, rfl⟩) pa_nil) (by rfl)))) pss_nil) pss_never))), ?_⟩
    refine ⟨.ref b, rfl, b, dx, _, rfl, e, bf_no (NoF.mk' (by decide +kernel)), .str z, rfl, b, M, z, j, rfl, hb, ok.names, ej, fun H1 s1 => ?_⟩
    refine ⟨.ref b, rfl, b, C, dx, _, _, rfl, s1 _ _ e, T.cl, T.n1, bf_names, .ref b, rfl, b, dx, _, rfl, s1 _ _ e, bf_no (NoF.mk' (by decide +kernel)), .str y, rfl, b, M, y, k, rfl, book_same hb s1, ok.names, ek, fun H2 s2 => ?_⟩
    have s12 := s1.trans s2
    refine ⟨tn, _, _, .str y, rfl, rfl, .inl (.inr ⟨on, s12 _ _ h1⟩), atI_nat (map_get ek), ?_⟩
    refine ⟨.int n, rfl, n, rfl, n1, fun H3 s3 => ?_⟩
    have s13 := s12.trans s3
    obtain ⟨ta, xs, ews, qa, da⟩ := (Dt.same s13 _ h3).tup_inv
    subst ews
    refine ⟨.ref b, rfl, b, C, dx, _, _, rfl, s13 _ _ e, T.cl, T.n3, bf_stacks, ta, rfl, ⟨_, qa⟩, fun D nD => ?_⟩
    refine lc_it (walk_tup (xs := xs)) (fun i H' => Same H3 H' ∧ H' D = some (.lst ((M.stacks.take i).map fun l => .int (l.length : Nat)))) ⟨same_upd nD, upd_same⟩ (fun i H' _ hP => same_seqT hP.1 qa)
      (fun i x H4' H4 hi hP hY => ?_) (fun H4 hP => ?_)
    · obtain ⟨rfl, hx⟩ := hY
      have hs : i < M.stacks.length := by
        have := da.len
        rw [List.length_map] at this
        omega
      obtain ⟨v1, g1, d1⟩ := da.get (n := i) (d := stackD M.stacks[i]) (map_get (List.getElem?_eq_getElem hs))
      rw [hx] at g1
      cases g1
      obtain ⟨sa, sx, rfl, sq, sd⟩ := (Dt.same hP.1 _ d1).tup_inv
      have lsx : sx.length = M.stacks[i].length := by
        rw [sd.len]
        unfold notesD
        rw [List.length_map]
      refine ⟨rfl, .ref sa, rfl, sa, sx, rfl, .inr sq, _, hP.2, ?_, fun c o ec => ?_, ?_⟩
      · rw [List.length_map, List.length_take]
        have := ok.n1
        have := ok.ls
        exact small1000 (by omega)
      · rw [upd_ne (ne_of_none ec nD)]
        exact hP.1 c o ec
      · rw [upd_same, List.take_add_one, List.getElem?_eq_getElem hs, List.map_append, lsx]
        rfl
    · have lx : xs.length = M.stacks.length := by
        rw [da.len, List.length_map]
      refine ⟨D, M.stacks.map fun l => ((l.length : Nat) : Int), rfl, .inl (.inl ?_), _, _, rfl, rfl, _, rfl, ?_⟩
      · rw [hP.2, lx, List.take_length, List.map_map]
        rfl
      have esum : (M.stacks.map fun l => ((l.length : Nat) : Int)).sum = ((manyM M : Nat) : Int) := by
        unfold manyM
        generalize M.stacks = S
        induction S with
        | nil => rfl
        | cons a r ih =>
          rw [List.map_cons, List.sum_cons, ih, List.map_cons, List.sum_cons]
          omega
      rw [esum, show decide ((60 : Int) ≤ ((manyM M : Nat) : Int)) = true from decide_eq_true (by omega)]
      have s14 := s13.trans hP.1
      refine iteT ⟨rfl, fun dd nd => ?_⟩
      exact q _ dd (s14.trans (same_upd nd)) upd_same
def spGiR (K : PySem.W.Frag) (C : Addr) (X : Xs) : Sp := fun vs H _ E => ∃ (b : Addr) (M : Bk) (v a : V) (r : Rf), vs = [.ref b, v, a] ∧ BookAt K C H b M ∧ M.Ok ∧ GiR K H M v a r ∧ Thr X E (Same H) r
theorem no_giR {f f1 f2 C : Addr} {fd fd1 fd2 : FuncData} {X : Xs} (F : Fun K "give" "Book.give" sGive f fd) (T : ClsF K C)
    (PL : HasM P w K mg base C 3 "place_of" ["self", "who"] (spPlace K C) f1 fd1) (PN : FnOk P w K mg base (L2.CX P w) 3 f1 fd1 ["self", "who"] (spNo K C X.N)) (CA : Has P w K mg base 3 "check_amount" ["amount"] (spCheckA K) f2 fd2) (CN' : FnOk P w K mg base (L2.CX P w) 3 f2 fd2 ["amount"] (spCAX K X.A)) :
    FnOk P w K mg base (L2.CX P w) 6 f fd ["self", "who", "amount"] (spGiR K C X) := by
  refine F.okX scGive (fun vs H Q E h => ?_) (fun cdv A outer s H vs Q E hr h => ?_)
  · obtain ⟨_, _, _, _, _, rfl, _⟩ := h
    rfl
  obtain ⟨b, M, v, a, r, rfl, hb, ok, h, q⟩ := h
  have hr3 := hr.mono (show 3 ≤ 5 by decide)
  obtain ⟨dx, tn, on, wg, ws, wd, e, h1, hn, h2, h3, h4⟩ := hb.ex
  cases h with
  | who hv hs hno =>
    refine ⟨_, pss_cons (ps_set (i := 3) scGive.nd rfl (.inl rfl) (pe_meth (pv 0) T.cl PL.m PN hr3 PL.b .nil (passes_call (takes_of rfl rfl rfl rfl) fun _ _ _ _ z => z) (pa_cons (pv 1) pa_nil))) pss_never, ?_⟩
    exact ⟨.ref b, rfl, b, dx, _, rfl, e, bf_no (NoF.mk' (by decide +kernel)), v, rfl, b, M, v, _, rfl, hb, ok.names, hv, hs, hno, fun H' dd s _ ed => q H' dd s ed⟩
  | @amount z j _ d ej ha hs hno =>
    refine ⟨_, pss_cons (ps_set (i := 3) scGive.nd rfl (.inl rfl) (pe_meth (pv 0) T.cl PL.m PL.ok hr3 PL.b .nil pass0 (pa_cons (pv 1) pa_nil)))
      (pss_cons (ps_expr (pe_call CN' hr3 (by rfl) CA.g CA.kp CA.b .nil (passes_call (takes_of rfl rfl rfl rfl) fun _ _ _ _ z => z) (pa_cons (pv 2) pa_nil))) pss_never), ?_⟩
    refine ⟨.ref b, rfl, b, dx, _, rfl, e, bf_no (NoF.mk' (by decide +kernel)), .str z, rfl, b, M, z, j, rfl, hb, ok.names, ej, fun H1 s1 => ?_⟩
    exact ⟨a, rfl, a, d, rfl, Dt.same s1 _ ha, hs, hno, fun H' s => q H' (s1.trans s)⟩
end
end Rc

namespace Rc
open PySem PySem.Spec PyProof.Rows L2 RZ LamX
theorem call_str_bl {X : Cx} : CallR X (.type "str") (fun xs H Q => ∃ b, xs = [.bl b] ∧ Q (.str (if b then "True" else "False")) H) := by
  intro pins s σ H xs us Q I r h
  obtain ⟨b, rfl, q⟩ := h
  obtain ⟨u, rfl, r1⟩ := vals1 r
  cases r1
  exact PySem.P.str_of_bool ⟨.str _, H, I.tok _, ⟨_, rfl⟩, q⟩
/-- the classes beside each other -/
structure C12 (P : Program) (K : PySem.W.Frag) (mg : Str → Option Value) (X : Xs) (CB : Addr) : Prop where
  N : ClsN P K mg X.N
  A : ClsP K mg "NoAmount" X.A CB
  F : ClsFu P K mg X.F
  nn : PySem.W.subIn K (.ref X.N) (.ref X.N) = some true
  ff : PySem.W.subIn K (.ref X.F) (.ref X.F) = some true
  an : PySem.W.subIn K (.ref X.A) (.ref X.N) = some false
  fn : PySem.W.subIn K (.ref X.F) (.ref X.N) = some false
  fa : PySem.W.subIn K (.ref X.F) (.ref X.A) = some false
/-! ### _law_told -/
abbrev sLTd : Stmt := topS 38
abbrev nLTd : List Str := ["_law_call", "_law_told_here", "e"]
theorem scLTd : FnScope nLTd ["_law_call"] (defScope sLTd) := ⟨rfl, rfl, rfl, by decide +kernel, rfl, by decide +kernel, by decide +kernel⟩
def X12 (K : PySem.W.Frag) (X : Xs) (Q : VK) : XK := fun cls d H' =>
  (cls = .ref X.N ∧ ∃ dd v dv, d = some dd ∧ H' dd = some (.xd [("who", v)]) ∧ Dt K H' v dv ∧ ShowOk dv ∧ ∀ r, H' r = none → Q (.ref r) (upd H' r (.lst [.str "nosuch", .str dv.shown]))) ∨
  (cls = .ref X.A ∧ d = none ∧ ∀ r, H' r = none → Q (.ref r) (upd H' r (.lst [.str "amount", .str "True"]))) ∨
  (cls = .ref X.F ∧ ∃ dd, d = some dd ∧ H' dd = some (.xd [("many", .int 60)]) ∧ ∀ r, H' r = none → Q (.ref r) (upd H' r (.lst [.str "full", .str "60"])))
def TT12 (K : PySem.W.Frag) (X : Xs) : (XK → Hp → VK → Prop) → Hp → VK → Prop := fun tl H Q => tl (X12 K X Q) H fun v H' => ∃ y, (some (some v) : Option (Option V)) = some (some y) ∧ Q y H'
theorem told12 {X : Cx} {P : Program} {K : PySem.W.Frag} {mg : Str → Option Value} {Z : Xs} {CB g : Addr} {cdg : Value} {q : Str} {k : Nat} (eP : X.prog = P) (eK : X.K = K) (eM : X.mg = mg) (Cc : C12 P K mg Z CB) (B : Blt mg) (B2 : Blt2 mg) (hgd : X.A.guards = some []) (hr : Room (k + 1) X.A) :
    GivesTo X nLTd "_law_told" (defScope sLTd) g cdg (defBody sLTd) "_law_call" q (TT12 K Z) := by
  subst eP eK eM
  intro f c' s H Q tl act hc h
  have hr' := hr.deeper (envOfC "_law_told" (defScope sLTd) s.heap.objs.size g cdg)
  have hu := hr'.units
  have N := Cc.N
  have A := Cc.A
  have FU := Cc.F
  refine ⟨_, pss_cons (ps_set (i := 1) scLTd.nd rfl (.inl rfl) pe_str)
    (pss_cons (ps_try_mix (Wo := fun _ _ _ _ => False) (tb := fun W D σ H => ∃ Ech : XK, (∀ cls d σ' H', σ'.length = 3 → Ech cls d H' → W cls d σ' H') ∧ σ[0]? = some (some (.ref f)) ∧ H c' = some (CodeO c' q) ∧ tl Ech H (fun v H' => D.nx (σ.set 1 (some v)) H')) rfl rfl scLTd.nd L2.takes0
      (fun W pn xe tk _ => ?hb)
      (.named (i := 2) rfl rfl ⟨rfl, by decide, .inl N.gC⟩ (fun a oe cls d pn hz hf => pss_one (ps_set (i := 1) scLTd.nd rfl (.inl rfl) (pe_lst (pa_cons pe_str (pa_cons (pe_callB (call_reprU rfl hu hgd) (by rfl) B2.repr (by decide +kernel) (pa_cons (pe_xf (no_xf N) (N.noF _ List.mem_cons_self) hz hf (pv 2)) pa_nil)) pa_nil)))))
      (.named (i := 2) rfl rfl ⟨rfl, by decide, .inl A.gP⟩ (fun a oe cls d pn hz hf => pss_one (ps_set (i := 1) scLTd.nd rfl (.inl rfl) (pe_lst (pa_cons pe_str (pa_cons (pe_callTy call_str_bl (by rfl) B.str (by decide +kernel) (pa_cons (pe_callB (call_isN rfl A.exc hz hf) (by rfl) B.isi (by decide +kernel) (pa_cons (pv 2) (pa_cons (pe_glob (v := .ref CB) (by rfl) A.gB rfl) pa_nil))) pa_nil)) pa_nil)))))
      (.named (i := 2) rfl rfl ⟨rfl, by decide, .inl FU.gC⟩ (fun a oe cls d pn hz hf => pss_one (ps_set (i := 1) scLTd.nd rfl (.inl rfl) (pe_lst (pa_cons pe_str (pa_cons (pe_callB (call_reprU rfl hu hgd) (by rfl) B2.repr (by decide +kernel) (pa_cons (pe_xf ⟨FU.ga, FU.gg, FU.exC, FU.hd⟩ (FU.noF _ List.mem_cons_self) hz hf (pv 2)) pa_nil)) pa_nil))))) .nil))))
    (pss_one (ps_ret (pv 1)))), ?_⟩
  case hb =>
    refine ⟨fun pins s' σ H' D I h' => ?_⟩
    obtain ⟨Ech, hW, h1, h2, h3⟩ := h'
    have tk2 : Takes ((cxOf C8.CX0 X.prog X.w X.K X.mg X.base nLTd "_law_told" (defScope sLTd) g cdg X.A X.stack s H C8.E0).tr pn xe) (fun cls d σ' H' => σ'.length = 3 → W cls d σ' H') := fun u s2 x => by
      obtain ⟨a, Bs, sI, pins', τ, G, cls, d, e1, J, nb, up, sky, na, os, ag, ww⟩ := x
      exact tk u s2 ⟨a, Bs, sI, pins', τ, G, cls, d, e1, J, nb, up, sky, na, os, ag, ww J.len⟩
    exact (pss_one (ps_set (i := 1) scLTd.nd rfl (.inl rfl) (act _ pn xe Ech _ _ tk2 (fun cls d σ' H' e hl => hW cls d σ' H' hl e)))).run pins s' σ H' D I ⟨h1, h2, h3⟩
  refine ⟨X12 X.K Z Q, fun cls d σ' H' hl e => ?_, rfl, hc, ?_⟩
  · obtain ⟨x0, x1, x2, rfl⟩ : ∃ x0 x1 x2, σ' = [x0, x1, x2] := by
      match σ', hl with
      | [a, b, c], _ => exact ⟨a, b, c, rfl⟩
    rcases e with ⟨rfl, dd, v, dv, rfl, hdd, hv, so, q⟩ | ⟨rfl, rfl, q⟩ | ⟨rfl, dd, rfl, hdd, q⟩
    · refine ⟨true, PySem.W.exm_ref N.exC N.hd N.tyC Cc.nn, fun _ a na => ?_, fun z => nomatch z⟩
      exact ⟨.ref a, rfl, rfl, rfl, dd, _, v, rfl, hdd, rfl, v, dv, rfl, hv, so.sh, so.tp, so.dp, so.ft, by show 2 ≤ sizeLine; decide, fun r nr => ⟨.ref r, rfl, q r nr⟩⟩
    · refine ⟨false, PySem.W.exm_ref N.exC N.hd N.tyC Cc.an, (fun z => nomatch z), fun _ => ⟨true, A.hit, fun _ a na => ?_, fun z => nomatch z⟩⟩
      exact ⟨.ref a, rfl, .ref CB, .ref CB, true, rfl, (fun u r => r), A.kit, rfl, rfl, true, rfl, by show 2 ≤ sizeLine; decide, fun r nr => ⟨.ref r, rfl, q r nr⟩⟩
    · refine ⟨false, PySem.W.exm_ref N.exC N.hd N.tyC Cc.fn, (fun z => nomatch z), fun _ => ⟨false, PySem.W.exm_ref A.bP A.hd A.tP Cc.fa, (fun z => nomatch z), fun _ => ⟨true, PySem.W.exm_ref FU.exC FU.hd FU.tyC Cc.ff, fun _ a na => ?_, fun z => nomatch z⟩⟩⟩
      have so : ShowOk (.int 60) := (nice_int (i := 60) (by unfold BigOk; decide)).show (by decide)
      have e60 : (PyData.int 60).shown = ("60" : Str) := by decide +kernel
      refine ⟨.ref a, rfl, rfl, rfl, dd, _, .int 60, rfl, hdd, rfl, .int 60, .int 60, rfl, .int 60, so.sh, so.tp, so.dp, so.ft, by show 2 ≤ sizeLine; decide, fun r nr => ⟨.ref r, rfl, ?_⟩⟩
      rw [e60]
      exact q r nr
  · exact h
end Rc

namespace Rc
open PySem PySem.Spec PyProof.Rows L2 RZ PySem.Builtin.Str
/-! ### texts of plain signs -/
def Asc (x : Str) : Prop := ∀ c ∈ x.cps.toList, c < 128
instance (x : Str) : Decidable (Asc x) := inferInstanceAs (Decidable (∀ c ∈ x.cps.toList, c < 128))
theorem Asc.app {x y : Str} (a : Asc x) (b : Asc y) : Asc (x ++ y) := fun c hc => by
  have e : (x ++ y).cps.toList = x.cps.toList ++ y.cps.toList := by
    show (x.cps ++ y.cps).toList = _
    rw [Array.toList_append]
  rw [e] at hc
  rcases List.mem_append.mp hc with h | h
  · exact a c h
  · exact b c h
theorem asc2 {a b : Str} (ha : Asc a) (hb : Asc b) : ∀ t ∈ [a, b], Asc t := fun t h => by
  rcases List.mem_cons.mp h with rfl | h
  · exact ha
  · rw [List.mem_singleton.mp h]
    exact hb
theorem asc_ok {x : Str} (h : Asc x) : PyData.strOk x = true := by
  show x.cps.all (· < 0x110000) = true
  rw [← Array.all_toList, List.all_eq_true]
  exact fun c hc => decide_eq_true (Nat.lt_trans (h c hc) (by decide))
theorem quote_two (x : Str) : reprQuote x = 34 ∨ reprQuote x = 39 := by
  unfold reprQuote
  split <;> simp
theorem char_asc : ∀ q ∈ [34, 39], ∀ c < 128, ∀ d ∈ Builtin.Str.reprChar q c, d < 128 := by decide +kernel
theorem repr_asc {x : Str} (h : Asc x) : Asc (reprText x) := by
  have q2 : reprQuote x ∈ [34, 39] := by
    rcases quote_two x with e | e <;> rw [e] <;> decide
  have q3 : reprQuote x < 128 := by
    rcases quote_two x with e | e <;> rw [e] <;> decide
  unfold reprText
  generalize reprQuote x = q at q2 q3
  have go : ∀ (l : List Nat) (acc : Array Nat), (∀ c ∈ l, c < 128) → (∀ c ∈ acc.toList, c < 128) → ∀ c ∈ (l.foldl (fun out c => out ++ (Builtin.Str.reprChar q c).toArray) acc).toList, c < 128 := fun l => by
    induction l with
    | nil => exact fun _ _ ha => ha
    | cons a r ih =>
      intro acc hl ha
      refine ih _ (fun c hc => hl c (List.mem_cons_of_mem _ hc)) fun c hc => ?_
      rw [Array.toList_append] at hc
      rcases List.mem_append.mp hc with h | h
      · exact ha c h
      · exact char_asc q q2 a (hl a List.mem_cons_self) c (by simpa using h)
  intro c hc
  have hc : c ∈ ((x.cps.foldl (fun out c => out ++ (Builtin.Str.reprChar q c).toArray) #[q]).push q).toList := hc
  rw [Array.toList_push] at hc
  rcases List.mem_append.mp hc with hc | hc
  · rw [← Array.foldl_toList] at hc
    exact go _ _ h (fun c hc => by rw [List.mem_singleton.mp hc]; exact q3) c hc
  · rw [List.mem_singleton.mp hc]
    exact q3
theorem text_asc : ∀ (ts : List Str) (k : Nat) (acc : Str), Asc acc → (∀ t ∈ ts, Asc t) → Asc (textFrom k acc ts)
  | [], _, _, ha, _ => ha
  | t :: r, k, acc, ha, h => by
    refine text_asc r (k + 1) _ ((ha.app ?_).app (h t List.mem_cons_self)) fun u hu => h u (List.mem_cons_of_mem _ hu)
    split
    · exact (by decide +kernel : Asc (", " : Str))
    · exact (by decide +kernel : Asc ("" : Str))
theorem list_asc {ts : List Str} (h : ∀ t ∈ ts, Asc t) : Asc (listText ts) := (text_asc ts 0 _ (by decide +kernel : Asc ("[" : Str)) h).app (by decide +kernel : Asc ("]" : Str))
theorem shownAll_strs : ∀ zs : List Str, PyData.shownAll (zs.map .str) = zs.map reprText
  | [] => by simp [PyData.shownAll]
  | z :: r => by
    rw [List.map_cons, List.map_cons, PyData.shownAll, shownAll_strs r, PyData.shown]
theorem name_asc {z : Str} (h : nameT z = true) : Asc z := fun c hc => abc_lt c (name_signs h c hc)
theorem str_asc {z : Str} (h : Asc z) : Asc (PyData.shown (.str z)) := by
  rw [PyData.shown]
  exact repr_asc h
theorem names_asc {zs : List Str} (h : ∀ z ∈ zs, nameT z = true) : Asc (PyData.shown (.list (zs.map .str))) := by
  rw [PyData.shown, shownAll_strs]
  refine list_asc fun t ht => ?_
  obtain ⟨z, hz, rfl⟩ := List.mem_map.mp ht
  exact repr_asc (name_asc (h z hz))
theorem one_asc {z : Str} (h : nameT z = true) : Asc (PyData.shown (.tuple [.str z])) := by
  have e : PyData.shown (.tuple [.str z]) = ("(" : Str) ++ reprText z ++ (",)" : Str) := by
    simp only [PyData.shown, PyData.shownAll]
    rfl
  rw [e]
  exact ((by decide +kernel : Asc ("(" : Str)).app (repr_asc (name_asc h))).app (by decide +kernel)
/-! ### lists of plain texts -/
theorem strs_self12 : ∀ l : List Str, PyData.eqvAll (l.map PyData.str) (l.map PyData.str) = true
  | [] => by simp [PyData.eqvAll]
  | x :: r => by
    rw [List.map_cons, PyData.eqvAll, strs_self12 r]
    have : PyData.eqv (.str x) (.str x) = true := by simp [PyData.eqv]
    rw [this]
    rfl
theorem list_self12 (l : List Str) : PyData.eqv (.list (l.map PyData.str)) (.list (l.map PyData.str)) = true := by
  have := strs_self12 l
  simp only [PyData.eqv]
  exact this
theorem shaped12 {l : List Str} (h : ∀ t ∈ l, Asc t) : SeqAt.shaped (.list (l.map PyData.str)) = true := by
  have c : PyData.canLayAll0 (l.map PyData.str) = true := by
    induction l with
    | nil => rfl
    | cons a r ih =>
      rw [List.map_cons, PyData.canLayAll0, ih fun t ht => h t (List.mem_cons_of_mem _ ht), PyData.canLay0, asc_ok (h a List.mem_cons_self)]
      rfl
  have d : PyData.depthAll (l.map PyData.str) ≤ 1 := by
    induction l with
    | nil => exact Nat.zero_le _
    | cons a r ih =>
      rw [List.map_cons]
      simp only [PyData.depthAll]
      have h1 : (PyData.str a).depth ≤ 0 := by simp only [PyData.depth]; omega
      have h2 := ih (fun t ht => h t (List.mem_cons_of_mem _ ht)) (by
        rw [List.map_cons, PyData.canLayAll0, Bool.and_eq_true] at c
        exact c.2)
      omega
  unfold SeqAt.shaped
  have ec : (PyData.list (l.map PyData.str)).canLay0 = true := by rw [PyData.canLay0]; exact c
  rw [ec, decide_eq_true (show (PyData.list (l.map PyData.str)).depth ≤ 64 by simp only [PyData.depth]; omega)]
  rfl
theorem strs_dp12 {K : PySem.W.Frag} {H : Hp} {x : Addr} {l : List Str} (h : H x = some (.lst (l.map V.str))) : Dp K H (.ref x) (.list (l.map PyData.str)) := .lst (.inl (.inl h)) (DpAll.strs l)
end Rc

namespace Rc
open PySem PySem.Spec PyProof.Rows L2 RZ LamX
def hasS (zs : List Str) : PyData → Bool
  | .str z => decide (z ∈ zs)
  | _ => false
def want12 (zs : List Str) (dv du da : PyData) (full : Bool) : Option (List Str) :=
  if hasS zs dv = false then some ["nosuch", dv.shown] else if hasS zs du = false then some ["nosuch", du.shown] else if amountD da = false then some ["amount", "True"] else if full then some ["full", "60"] else none
def OptS (H H' : Hp) (v : V) : Option (List Str) → Prop
  | none => v = .non
  | some l => ∃ r, v = .ref r ∧ H r = none ∧ H' r = some (.lst (l.map V.str))
theorem ring_new {H : Hp} {r : Addr} {l : List Str} {xs : List V} (n : H r = none) (e : xs = l.map V.str) : OptS H (upd H r (.lst xs)) (.ref r) (some l) := ⟨r, rfl, n, by rw [upd_same, e]⟩
section
variable {P : Program} {w : World} {K : PySem.W.Frag} {mg : Str → Option Value} {base : Heap}
/-! ### _law_wanted -/
abbrev sLWa : Stmt := topS 39
abbrev nLWa : List Str := ["_law_model_here", "_law_who", "_law_to", "_law_amount_here", "_law_is_full", "_law_name_here"]
theorem scLWa : FnScope nLWa ["_law_model_here", "_law_who", "_law_to", "_law_amount_here", "_law_is_full"] (defScope sLWa) := ⟨rfl, rfl, rfl, by decide +kernel, rfl, by decide +kernel, by decide +kernel⟩
def spLWa (K : PySem.W.Frag) : Sp := fun vs H Q _ => ∃ (m : MdA) (D : Md) (zs : List Str) (v u a : V) (dv du da : PyData) (full : Bool), vs = [.ref m.m, v, u, a, .bl full] ∧ ModelAt K H zs m D ∧ zs.length ≤ 12 ∧ Dt K H v dv ∧ Dt K H u du ∧ Dt K H a da ∧ ShowOk dv ∧ ShowOk du ∧ ∀ x H', Same H H' → OptS H H' x (want12 zs dv du da full) → Q x H'
set_option maxHeartbeats 1000000 in
theorem ok_lwa {f : Addr} {fd : FuncData} (F : Fun K "_law_wanted" "_law_wanted" sLWa f fd) (B : Blt mg) (B2 : Blt2 mg) : FnG P w K mg base CX0 1 f fd ["_law_model_here", "_law_who", "_law_to", "_law_amount_here", "_law_is_full"] (spLWa K) := by
  refine okG0 F scLWa (fun vs H Q E h => ?_) (fun cdv Ar outer s H vs Q E hr hgd h => ?_)
  · obtain ⟨_, _, _, _, _, _, _, _, _, _, rfl, _⟩ := h
    rfl
  · obtain ⟨m, D, zs, v, u, a, dv, du, da, full, rfl, hM, lz, hv, hu', ha, sv, su, q⟩ := h
    have hu := hu_of hr
    refine ⟨_, (pss_cons (ps_for PassesOwn.never rfl (pi_list (pe_lst (pa_cons (pv 1) (pa_cons (pv 2) pa_nil)))) (pg_name (i := 5) scLWa.nd rfl (.inl rfl)) (pss_one (ps_if (PW.pt (pw_or (pt_not (pt_val (pe_callB call_isi (by rfl) B.isi (by decide +kernel) (pa_cons (pv 5) (pa_cons (pe_bltn (v := .ty "str") (by rfl) B.str (by decide +kernel) rfl) pa_nil))))) (pw_or1 (pt_cmpR op_notIn_seq (pv 5) (pe_dget hu (pv 0) pe_str (fun _ _ => rfl)) (by rfl))))) (pss_one (ps_ret (pe_lst (pa_cons pe_str (pa_cons (pe_callB (call_repr hr hgd) (by rfl) B2.repr (by decide +kernel) (pa_cons (pv 5) pa_nil)) pa_nil))))) pss_nil))) (pss_cons (ps_if (PW.pt (pw_or (pt_not (pt_val (pe_callB call_isi (by rfl) B.isi (by decide +kernel) (pa_cons (pv 3) (pa_cons (pe_bltn (v := .ty "int") (by rfl) B.int (by decide +kernel) rfl) pa_nil))))) (pw_or (pt_val (pe_callB call_isi (by rfl) B.isi (by decide +kernel) (pa_cons (pv 3) (pa_cons (pe_bltn (v := .ty "bool") (by rfl) B.bool (by decide +kernel) rfl) pa_nil)))) (pw_or1 (pt_cmpR op_lt (pv 3) pe_int (nomark _)))))) (pss_one (ps_ret (pe_lst (pa_cons pe_str (pa_cons pe_str pa_nil))))) pss_nil) (pss_one (ps_ret (pe_ifExp (pt_val (pv 4)) (pe_lst (pa_cons pe_str (pa_cons pe_str pa_nil))) pe_non))))), ?_⟩
    have rt : ∀ {G : Hp} {l : List Str} {r : Addr} {xs : List V}, Same H G → G r = none → xs = l.map V.str → want12 zs dv du da full = some l → Q (.ref r) (upd G r (.lst xs)) := fun {G l r xs} s n e w => q _ _ (s.trans (same_upd n)) (by rw [w]; exact ⟨r, rfl, s.free n, by rw [upd_same, e]⟩)
    refine ⟨v, rfl, u, rfl, by show 2 ≤ sizeLine; decide, fun L nL => ?_⟩
    have s1 := same_upd (o := .lst [v, u]) nL
    have hL : upd H L (.lst [v, u]) L = some (.lst [v, u]) := upd_same
    generalize upd H L (.lst [v, u]) = H1 at s1 hL
    refine ⟨L, rfl, ⟨_, .inl (.inl hL)⟩, ?_⟩
    refine for_it (walk_list (K := K) (a := L) (xs := [v, u])) (fun i σ H' => ∃ y5, σ = [some (.ref m.m), some v, some u, some a, some (.bl full), y5] ∧ Same H1 H' ∧ (0 < i → hasS zs dv = true) ∧ (1 < i → hasS zs du = true)) ⟨_, rfl, Same.refl _, fun z => absurd z (by decide), fun z => absurd z (by decide)⟩ (fun i σ H' _ hP => ?_) (fun i x σ H2' H2 hi hP hY => ?_) (fun σ H2 hP => ?_)
    · obtain ⟨_, _, s2, _⟩ := hP
      exact .inl (.inl (s2 _ _ hL))
    · obtain ⟨rfl, hx⟩ := hY
      obtain ⟨y5, rfl, s2, p1, p2⟩ := hP
      have s12 := s1.trans s2
      have hx' : ∃ dx, Dt K H2 x dx ∧ ShowOk dx ∧ (hasS zs dx = false → want12 zs dv du da full = some (["nosuch", dx.shown] : List Str)) ∧ (hasS zs dx = true → (0 < i + 1 → hasS zs dv = true) ∧ (1 < i + 1 → hasS zs du = true)) := by
        match i, hx with
        | 0, hx =>
          cases hx
          exact ⟨dv, Dt.same s12 _ hv, sv, fun e => if_pos e, fun e => ⟨fun _ => e, fun z => absurd z (by decide)⟩⟩
        | 1, hx =>
          cases hx
          have e0 := p1 (by decide)
          refine ⟨du, Dt.same s12 _ hu', su, fun e => ?_, fun e => ⟨fun _ => e0, fun _ => e⟩⟩
          unfold want12
          rw [if_neg (by rw [e0]; exact Bool.noConfusion), if_pos e]
        | i + 2, hx => cases hx
      obtain ⟨dx, hd, so, no, yes⟩ := hx'
      refine ⟨x, rfl, x, .ty "str", _, _, strD dx, rfl, .ty "str", hd.ty, kit_str dx, _, rfl, ?_⟩
      have ret : hasS zs dx = false → ∀ Q2 : VK, Q2 = Q → rRepr K [x] H2 fun y H3 => (2 : Nat) ≤ sizeLine ∧ ∀ r, H3 r = none → Q2 (.ref r) (upd H3 r (.lst [.str "nosuch", y])) := fun e Q2 eQ => ⟨x, dx, rfl, hd, so.sh, so.tp, so.dp, so.ft, by decide, fun r nr => by rw [eQ]; exact rt (l := ["nosuch", dx.shown]) s12 nr rfl (no e)⟩
      cases hstr : strD dx with
      | false =>
        have e : hasS zs dx = false := by cases dx <;> first | rfl | cases hstr
        exact iteT (iteT ⟨x, rfl, ret e Q rfl⟩)
      | true =>
        obtain ⟨z, rfl⟩ : ∃ z, dx = .str z := by cases dx <;> first | exact ⟨_, rfl⟩ | cases hstr
        cases hd
        have hM2 := model_same hM s12
        refine iteF ⟨.str z, rfl, .ref m.m, rfl, m.m, .ref m.lo, rfl, hM2.g0, m.lo, _, rfl, .inl (.inl (.inl hM2.ho)), rfl, flat_strs _, _, rfl, ?_⟩
        rw [inV_strs]
        by_cases hz : z ∈ zs
        · rw [decide_eq_true hz]
          obtain ⟨y1, y2⟩ := yes (decide_eq_true hz)
          exact iteF ⟨_, rfl, s2, y1, y2⟩
        · rw [decide_eq_false hz]
          exact iteT ⟨.str z, rfl, ret (decide_eq_false hz) Q rfl⟩
    · obtain ⟨y5, rfl, s2, p1, p2⟩ := hP
      have e1 := p1 (show 0 < 2 by decide)
      have e2 := p2 (show 1 < 2 by decide)
      have s12 := s1.trans s2
      have ha2 := Dt.same s12 _ ha
      have wa : amountD da = false → want12 zs dv du da full = some (["amount", "True"] : List Str) := fun e => by
        unfold want12
        rw [if_neg (by rw [e1]; exact Bool.noConfusion), if_neg (by rw [e2]; exact Bool.noConfusion), if_pos e]
      have wb : amountD da = true → want12 zs dv du da full = if full then some (["full", "60"] : List Str) else none := fun e => by
        unfold want12
        rw [if_neg (by rw [e1]; exact Bool.noConfusion), if_neg (by rw [e2]; exact Bool.noConfusion), if_neg (by rw [e]; exact Bool.noConfusion)]
      refine ⟨a, rfl, a, .ty "int", _, _, _, rfl, .ty "int", ha2.ty, kit_int da, _, rfl, ?_⟩
      have no : amountD da = false → (2 : Nat) ≤ sizeLine ∧ ∀ r, H2 r = none → Q (.ref r) (upd H2 r (.lst [.str "amount", .str "True"])) := fun e => ⟨by decide, fun r nr => rt (l := ["amount", "True"]) s12 nr rfl (wa e)⟩
      cases c : (wholeD da || boolD da) with
      | false =>
        have e : amountD da = false := by cases da <;> first | rfl | cases c
        exact iteT (iteT (no e))
      | true =>
        refine iteF ⟨a, rfl, a, .ty "bool", _, _, _, rfl, .ty "bool", ha2.ty, kit_bool da, _, rfl, ?_⟩
        cases cb : boolD da with
        | true =>
          have e : amountD da = false := by cases da <;> first | rfl | cases cb
          exact iteT (iteT (no e))
        | false =>
          obtain ⟨n, rfl⟩ : ∃ n, da = .int n := by cases da <;> first | exact ⟨_, rfl⟩ | (simp [wholeD, boolD] at c; done) | (simp [boolD] at cb; done)
          cases ha2
          refine iteF ⟨.int n, rfl, _, _, rfl, rfl, _, rfl, ?_⟩
          by_cases hn : n < 1
          · rw [show decide (n < 1) = true from decide_eq_true hn]
            exact iteT (no (decide_eq_false (by omega)))
          · rw [show decide (n < 1) = false from decide_eq_false hn]
            have ew := wb (decide_eq_true (by omega))
            refine iteF ⟨.bl full, rfl, full, rfl, ?_⟩
            cases full with
            | true => exact iteT ⟨by show 2 ≤ sizeLine; decide, fun r nr => rt (l := ["full", "60"]) s12 nr rfl ew⟩
            | false => exact iteF (q _ _ s12 (by rw [ew]; rfl))
end
end Rc

namespace Rc
open PySem PySem.Spec PyProof.Rows L2 RZ LamX
theorem same_unlock12 {H H' : Hp} {d : Addr} {od : Obj} {u : HO} (h : H d = some u) (s : Same (upd H d (.frz od u)) H') : Same H (upd H' d u) := fun b o e => by
  by_cases c : b = d
  · rw [c, h] at e
    rw [c, upd_same]
    exact e
  · rw [upd_ne c]
    exact s b o (by rw [upd_ne c]; exact e)
theorem ExtN.free {H H1 : Hp} (e : ExtN H H1) {c : Addr} (h : H1 c = none) : H c = none ∨ ∃ ps, H c = some (.tbl ps) := by
  cases z : H c with
  | none => exact .inl rfl
  | some o =>
    by_cases t : ∃ ps, o = .tbl ps
    · obtain ⟨ps, rfl⟩ := t
      exact .inr ⟨ps, rfl⟩
    · rw [e c o z fun ps y => t ⟨ps, y⟩] at h
      cases h
theorem seq_ext {K : PySem.W.Frag} {H H' : Hp} {a : Addr} {xs : List V} (e : ExtN H H') (h : SqL K H a xs) : SqL K H' a xs := by
  rcases h with (h | ⟨o, h⟩) | h
  · exact .inl (.inl (e _ _ h (by intro ps z; cases z)))
  · exact .inl (.inr ⟨o, e _ _ h (by intro ps z; cases z)⟩)
  · exact .inr h
mutual
theorem Dt.ext {K : PySem.W.Frag} {H H' : Hp} (e : ExtN H H') : ∀ {v : V} (d : PyData), Dt K H v d → Dt K H' v d
  | _, .none, h => by cases h; exact .non
  | _, .bool _, h => by cases h; exact .bl _
  | _, .int _, h => by cases h; exact .int _
  | _, .str _, h => by cases h; exact .str _
  | _, .list ds, h => by
    cases h with
    | lst q a => exact .lst (seq_ext e q) (DtAll.ext e ds a)
  | _, .tuple ds, h => by
    cases h with
    | tup q a =>
      refine .tup ?_ (DtAll.ext e ds a)
      rcases q with (q | ⟨o, q⟩) | q
      · exact .inl (.inl (e _ _ q (by intro ps z; cases z)))
      · exact .inl (.inr ⟨o, e _ _ q (by intro ps z; cases z)⟩)
      · exact .inr q
  | _, .dict ps, h => by
    cases h with
    | dct q a b => exact .dct (e _ _ q (by intro ps z; cases z)) a b
theorem DtAll.ext {K : PySem.W.Frag} {H H' : Hp} (e : ExtN H H') : ∀ {vs : List V} (ds : List PyData), DtAll K H vs ds → DtAll K H' vs ds
  | _, [], h => by cases h; exact .nil
  | _, d :: ds, h => by
    cases h with
    | cons a b => exact .cons (Dt.ext e d a) (DtAll.ext e ds b)
end
theorem ext_kt {H H' : Hp} (s : ExtN H H') : KT H H' := fun c o e t => s c o e fun ps z => by rw [z] at t; exact t
theorem book_ext34 {K : PySem.W.Frag} {C : Addr} {H H' : Hp} {b : Addr} {M : Bk} (h : BookAt K C H b M) (s : ExtN H H') : BookAt K C H' b M := by
  obtain ⟨dx, tn, on, vg, vs, vd, e, h1, hn, h2, h3, h4⟩ := h.ex
  have kt := ext_kt s
  exact ⟨dx, tn, on, vg, vs, vd, s _ _ e (by intro ps z; cases z), s _ _ h1 (by intro ps z; cases z), hn, Dt.keepT kt _ (tup_ints _) h2, Dt.keepT kt _ (tup_stacks _) h3, Dt.keepT kt _ (tup_ints _) h4⟩
section
variable {P : Program} {w : World} {K : PySem.W.Frag} {mg : Str → Option Value} {base : Heap}
/-- a def whose code object is known, no repr being under way -/
theorem okGC {x qual : Str} {st : Stmt} {f c : Addr} {fd : FuncData} {N ps : List Str} {k : Nat} {sp : Sp} (F : Fun K x qual st f fd) (hc : fd.code = .ref c) (S : FnScope N ps (defScope st)) (len : ∀ vs H Q E, sp vs H Q E → vs.length = ps.length)
    (body : ∀ (A : Around) (outer : List Env) (s : Shared) (H : Hp) (vs : List V) (Q : VK) (E : XK), Room k (A.deeper (envOfC qual (defScope st) s.heap.objs.size f (.ref c))) → A.guards = some [] → sp vs H Q E →
      ∃ t, PSs (cxOf CX0 P w K mg base N qual (defScope st) f (.ref c) A outer s H E).nox (defBody st) t ∧ t { nx := fun _ H' => Q .non H', rt := Q } (start N vs) H) : FnG P w K mg base CX0 (k + 1) f fd ps sp := by
  obtain ⟨oc, od, kV, doc, pm, an, cdv, ct, osl, rfl, lk, hcd⟩ := F.ex
  have hc : cdv = .ref c := hc
  subst hc
  refine ⟨len, fun A outer s H args us vs Q E hr hg e0 hb r hsp => ?_⟩
  have hl := len vs H Q E hsp
  have keep : ∀ b o, base.get? b = some o → s.heap.get? b = some o := fun b o e => (e0.bs b o e).1
  have KX : K.In s.heap := e0.mod.kin.keeps keep
  refine codeAny_call_function hr.depth (KX _ _ lk) rfl S.co S.gen rfl (PySem.W.codeRec_of KX hcd) (hb _ _ _ _ ?_)
  refine wpAny_newFunctionEnv_cells S.kind (fun y hy => ?_) fun env he s1 x => ?_
  · obtain ⟨n, v⟩ := y
    exact (S.par n (List.of_mem_zip hy).1).elim .inl fun q => .inr ⟨q, PySem.W.cellsFrom_some _ _ _ (.inl q)⟩
  · subst he
    refine ⟨(e0.mod.nolimit.keeps keep).keeps x.toInCall.keep, codeAny_func ?_⟩
    obtain ⟨t, ht, hq⟩ := body A outer s H vs Q E (hr.deeper _) hg hsp
    have I := inv_start (CX := CX0) (E := E) S hr.hd e0 hl r x
    refine wpAny_mono (ht.nox.run [] s1 (start N vs) H _ I hq) (fun fl s' hs => ?_) fun _ _ z => z
    cases fl with
    | ret u =>
      obtain ⟨v, σ', H', J, rv, q⟩ := hs
      exact ⟨v, H', J.os, J.bare, J.base, J.hok, rv, q⟩
    | next =>
      obtain ⟨σ', H', J, q⟩ := hs
      exact ⟨.non, H', J.os, J.bare, J.base, J.hok, rfl, q⟩
    | brk =>
      obtain ⟨_, _, _, q⟩ := hs
      exact q.elim
    | cont =>
      obtain ⟨_, _, _, q⟩ := hs
      exact q.elim
/-! ### _law_asked -/
abbrev sLAs : Stmt := topS 40
abbrev nLAs : List Str := ["_law_book", "_law_model_here", "_law_deed", "_law_who", "_law_amount_here", "_law_wanted_here", "_law_to", "_law_is_full", "_law_notes"]
theorem scLAs : FnScope nLAs ["_law_book", "_law_model_here", "_law_deed"] (defScope sLAs) := ⟨rfl, rfl, rfl, by decide +kernel, rfl, by decide +kernel, by decide +kernel⟩
def qLam12 : Str := ("_law_asked" : Str) ++ ".<locals>." ++ "<lambda>"
def spPuO (K : PySem.W.Frag) (C : Addr) (Z : Xs) : Sp := fun vs H Q E => spPut K C vs H Q E ∨ spPuR K C Z vs H Q E
def spGiO (K : PySem.W.Frag) (C : Addr) (Z : Xs) : Sp := fun vs H Q E => spGive K C vs H Q E ∨ spGiR K C Z vs H Q E
/-- a deed as it stands in a list, right or not -/
inductive Part (v u a : V) : List V → Bool → Prop
  | give : Part v u a [.str "give", v, a] true
  | put : Part v u a [.str "put", v, u, a] false
/-- .. done -/
inductive Did (zs : List Str) (dv du da : PyData) : Bool → Deed → Prop
  | give {z : Str} {n : Int} : dv = .str z → da = .int n → z ∈ zs → 1 ≤ n → Did zs dv du da true (.give z n)
  | put {z y : Str} {n : Int} : dv = .str z → du = .str y → da = .int n → z ∈ zs → y ∈ zs → 1 ≤ n → Did zs dv du da false (.put z y n)
def spLAs (K : PySem.W.Frag) (C : Addr) (T : List (Addr × Str)) : Sp := fun vs H Q _ => ∃ (b t : Addr) (m : MdA) (zs : List Str) (D : Md) (v u a : V) (dv du da : PyData) (xs : List V) (isg : Bool), vs = [.ref b, .ref m.m, .ref t] ∧ H t = some (.lst xs) ∧ Part v u a xs isg ∧
  ModelAt K H zs m D ∧ BookAt K C H b (bkOf zs D) ∧ NamesOk zs ∧ Gd zs D 60 ∧ D.given.length = zs.length ∧ D.notes.length = zs.length ∧ Dt K H v dv ∧ Dt K H u du ∧ Dt K H a da ∧ ShortD dv ∧ ShortD du ∧ ShortD da ∧ ShowOk dv ∧ ShowOk du ∧ Asc dv.shown ∧ Asc du.shown ∧ Tabs T H ∧
  ∀ Tt H' tv wv, ExtN H H' → Tabs T H' → H' Tt = some (.tup [tv, wv]) →
    ((∃ d b', wv = .non ∧ tv = .ref b' ∧ Did zs dv du da isg d ∧ (isg = false → manyM (bkOf zs D) < 60) ∧ BookAt K C H' b' (stepM (bkOf zs D) d)) ∨ (∃ r1 r2 l, tv = .ref r1 ∧ wv = .ref r2 ∧ (∀ t ∈ l, Asc t) ∧ H' r1 = some (.lst (List.map V.str l)) ∧ H' r2 = some (.lst (List.map V.str l)))) → Q (.ref Tt) H'
set_option maxHeartbeats 4000000 in
theorem ok_las {f g f1 f2 f3 C CB c PT : Addr} {fd fdg fd1 fd2 fd3 : FuncData} {T : List (Addr × Str)} {Z : Xs} (F : Fun K "_law_asked" "_law_asked" sLAs f fd) (hcd : fd.code = .ref c) (TB : TabB base mg c PT) (hmT : (PT, qLam12) ∈ T) (hu' : ∀ p ∈ T, p.1 = PT → p.2 = qLam12)
    (FT : Fun K "_law_told" "_law_told" sLTd g fdg) (gT : mg "_law_told" = some (.ref g)) (bT : Binds K fdg ["_law_call"] []) (Cc : C12 P K mg Z CB) (T' : ClsF K C) (B : Blt mg) (B2 : Blt2 mg) (B3 : Blt3 mg)
    (WA : HasG P w K mg base 1 "_law_wanted" ["_law_model_here", "_law_who", "_law_to", "_law_amount_here", "_law_is_full"] (spLWa K) f1 fd1) (PU : HasM P w K mg base C 6 "put" ["self", "who", "to", "amount"] (spPut K C) f2 fd2) (PUo : FnOk P w K mg base (L2.CX P w) 6 f2 fd2 ["self", "who", "to", "amount"] (spPuO K C Z))
    (GE : HasM P w K mg base C 6 "give" ["self", "who", "amount"] (spGive K C) f3 fd3) (GEo : FnOk P w K mg base (L2.CX P w) 6 f3 fd3 ["self", "who", "amount"] (spGiO K C Z)) :
    FnG P w K mg base CX0 10 f fd ["_law_book", "_law_model_here", "_law_deed"] (spLAs K C T) := by
  have kT := FT.kp
  obtain ⟨oc, od, kV, doc, pm, an, cdT, ct, osl, rfl, lk, hcg⟩ := FT.ex
  refine okGC F hcd scLAs (fun vs H Q E h => ?_) (fun Ar outer s H vs Q E hr hgd h => ?_)
  · obtain ⟨_, _, _, _, _, _, _, _, _, _, _, _, _, rfl, _⟩ := h
    rfl
  · obtain ⟨b, t, m, zs, D, v, u, a, dv, du, da, xs, isg, rfl, ht, hp, hM, hb, nz, gd, lgv, lnt, hv, hu1, ha, shv, shu, sha, sv, su, av, au, hT, q⟩ := h
    have hu := hu_of hr
    have hr1 := hr.mono (show 1 ≤ 9 by decide)
    refine ⟨_, (pss_cons (ps_if (pt_cmpR op_eq (pe_ix ix_list (pv 2) pe_int (fun _ _ => rfl)) pe_str (nomark _)) (pss_cons (ps_asg (pe_tup (pa_cons (pe_ix ix_list (pv 2) pe_int (fun _ _ => rfl)) (pa_cons (pe_ix ix_list (pv 2) pe_int (fun _ _ => rfl)) pa_nil))) (pg_tup rfl (pgs_cons (pg_name (i := 3) scLAs.nd rfl (.inr rfl)) (pgs_cons (pg_name (i := 4) scLAs.nd rfl (.inr rfl)) pgs_nil)))) (pss_cons (ps_set (i := 5) scLAs.nd rfl (.inl rfl) (pe_callG WA.ok hr1 hgd (by rfl) WA.g WA.kp WA.b .nil pass0 (pa_cons (pv 1) (pa_cons (pv 3) (pa_cons (pe_ix ix_list (pe_dget hu (pv 1) pe_str (fun _ _ => rfl)) pe_int (fun _ _ => rfl)) (pa_cons (pv 4) (pa_cons pe_bl pa_nil))))))) (pss_one (ps_ret (pe_tup (pa_cons (pe_lamcall (T := T) (TT := TT12 K Z) (a := "_law_call") (k := 7) (t := fun E => tMethP C "give" (spGiO K C Z) (fun _ => E) (tVar 0) (tCons (tVar 3) (tCons (tVar 4) tNil))) (by rfl) gT kT lk hcg bT scLTd rfl (.inl rfl) (told12 (k := 8) rfl rfl rfl Cc B B2 hgd hr) TB rfl hmT hu' hr (show LamS (defScope sLAs) _ from lamS_by (by decide +kernel)) rfl (fun _ _ _ _ _ => rfl) (fun A outer s H E f c' hrL => pe_methP (pv 0) T'.cl GE.m GEo (hrL.mono (by decide)) GE.b (fun σ => passAt (takes_of rfl rfl rfl rfl) σ) (pa_cons (pv 3) (pa_cons (pv 4) pa_nil)))) (pa_cons (pv 5) pa_nil))))))) pss_nil) (pss_cons (ps_asg (pe_tup (pa_cons (pe_ix ix_list (pv 2) pe_int (fun _ _ => rfl)) (pa_cons (pe_ix ix_list (pv 2) pe_int (fun _ _ => rfl)) (pa_cons (pe_ix ix_list (pv 2) pe_int (fun _ _ => rfl)) pa_nil)))) (pg_tup rfl (pgs_cons (pg_name (i := 3) scLAs.nd rfl (.inr rfl)) (pgs_cons (pg_name (i := 6) scLAs.nd rfl (.inr rfl)) (pgs_cons (pg_name (i := 4) scLAs.nd rfl (.inr rfl)) pgs_nil))))) (pss_cons (ps_lock (ps_set (i := 7) scLAs.nd rfl (.inl rfl) (pe_cmpR op_eq (pe_callB (cr_sum rfl) (by rfl) B3.sum (by decide +kernel) (pa_cons (pe_lc (own := [("_law_notes", 8)]) (g := gName 8) (tt := tYes) rfl scLAs.nd (pi_values (pe_dget hu (pv 1) pe_str (fun _ _ => rfl))) (blkOk_by (N := nLAs) (sc := defScope sLAs) (own := [("_law_notes", 8)]) (by decide +kernel)) (fun _ _ _ _ _ => (pg_name (i := 8) scLAs.nd rfl (.inl rfl) (hf := .inr rfl))) (fun _ _ _ _ _ => pts_nil) (fun _ _ _ _ _ => pe_callB (call_lenS (K := K) rfl) (by rfl) B.len PySem.boot_len (pa_cons (pv 8) pa_nil))) pa_nil)) pe_int (by rfl)))) (pss_cons (ps_set (i := 5) scLAs.nd rfl (.inl rfl) (pe_callG WA.ok hr1 hgd (by rfl) WA.g WA.kp WA.b .nil pass0 (pa_cons (pv 1) (pa_cons (pv 3) (pa_cons (pv 6) (pa_cons (pv 4) (pa_cons (pv 7) pa_nil))))))) (pss_one (ps_ret (pe_tup (pa_cons (pe_lamcall (T := T) (TT := TT12 K Z) (a := "_law_call") (k := 7) (t := fun E => tMethP C "put" (spPuO K C Z) (fun _ => E) (tVar 0) (tCons (tVar 3) (tCons (tVar 6) (tCons (tVar 4) tNil)))) (by rfl) gT kT lk hcg bT scLTd rfl (.inl rfl) (told12 (k := 8) rfl rfl rfl Cc B B2 hgd hr) TB rfl hmT hu' hr (show LamS (defScope sLAs) _ from lamS_by (by decide +kernel)) rfl (fun _ _ _ _ _ => rfl) (fun A outer s H E f c' hrL => pe_methP (pv 0) T'.cl PU.m PUo (hrL.mono (by decide)) PU.b (fun σ => passAt (takes_of rfl rfl rfl rfl) σ) (pa_cons (pv 3) (pa_cons (pv 6) (pa_cons (pv 4) pa_nil))))) (pa_cons (pv 5) pa_nil))))))))), ?_⟩
    have okM : (bkOf zs D).Ok := gd.ok nz lgv lnt
    have n0 := nz.n0
    have n1 := nz.n1
    have nz0 : zs[0]? = some (zs[0]'(by omega)) := List.getElem?_eq_getElem (by omega)
    have hz0 : zs[0]'(by omega) ∈ zs := List.getElem_mem _
    generalize zs[0]'(by omega) = z0 at nz0 hz0
    have so0 : ShowOk (.str z0) := (nice_name (nz.nm z0 hz0)).show (by decide)
    cases hp with
    | give =>
      refine ⟨.ref t, rfl, t, _, 0, .str "give", rfl, rfl, .inl (.inl ht), atI_nat (j := 0) rfl, rfl, _, rfl, ?_⟩
      rw [decide_eq_true rfl]
      refine iteT ⟨.ref t, rfl, t, _, 1, v, rfl, rfl, .inl (.inl ht), atI_nat (j := 1) rfl, .ref t, rfl, t, _, 2, a, rfl, rfl, .inl (.inl ht), atI_nat (j := 2) rfl, by show 2 ≤ sizeLine; decide, fun tt ntt => ?_⟩
      have s1 := same_upd (o := .tup [v, a]) ntt
      refine ⟨tt, _, rfl, .inl (.inl upd_same), rfl, _, _, rfl, _, _, rfl, rfl, ?_⟩
      generalize upd H tt (.tup [v, a]) = H1 at s1
      have hM1 := model_same hM s1
      refine ⟨.ref m.m, rfl, v, rfl, .ref m.m, rfl, m.m, .ref m.lo, rfl, hM1.g0, m.lo, _, 0, .str z0, rfl, rfl, .inl (.inl hM1.ho), atI_nat (j := 0) (map_get nz0), a, rfl, m, D, zs, v, .str z0, a, dv, .str z0, da, false, rfl, hM1, by omega, Dt.same s1 _ hv, .str z0, Dt.same s1 _ ha, sv, so0, fun x H2 s2 ov => ?_⟩
      have s12 := s1.trans s2
      refine ⟨hT.ext s12, fun H3 e3 t3 => ?_⟩
      have e03 : ExtN H H3 := (ExtN.of s12).trans e3
      have hb3 := book_ext34 hb e03
      have kt3 : KT H H3 := fun c o e t => e03 c o e fun ps z => by rw [z] at t; exact t
      obtain ⟨dx, tn, on, wg, ws, wd, e, _⟩ := hb3.ex
      refine ⟨.ref b, rfl, b, dx, _, rfl, e, bf_no (NoF.mk' (by decide +kernel)), v, rfl, a, rfl, ?_⟩
      have eh : ∀ d, hasD (bkOf zs D) d = hasS zs d := fun d => by cases d <;> rfl
      have hv3 := Dt.ext e03 _ hv
      have ha3 := Dt.ext e03 _ ha
      have hu3 := Dt.ext e03 _ hu1
      have fin : ∀ {G : Hp} {r r2 : Addr} {l : List Str} {xs : List V}, Same H3 G → G r = none → H2 r2 = some (.lst (l.map V.str)) → xs = l.map V.str → (∀ t ∈ l, Asc t) → ∀ Tt, upd G r (.lst xs) Tt = none → Q (.ref Tt) (upd (upd G r (.lst xs)) Tt (.tup [.ref r, .ref r2])) := fun {G r r2 l xs} s nr h2 ex al Tt nT => by
        have sr := same_upd (o := .lst xs) nr
        have sT := same_upd (o := .tup [V.ref r, V.ref r2]) nT
        exact q Tt _ (.ref r) (.ref r2) (e03.trans (ExtN.of (s.trans (sr.trans sT)))) (t3.ext (s.trans (sr.trans sT))) upd_same (.inr ⟨r, r2, l, rfl, rfl, al, sT _ _ (by rw [upd_same, ex]), (s.trans (sr.trans sT)) _ _ (e3 _ _ h2 (by intro ps z; cases z))⟩)
      cases h1 : hasS zs dv with
      | false =>
        rw [show want12 zs dv (.str z0) da false = some (["nosuch", dv.shown] : List Str) from if_pos h1] at ov
        obtain ⟨r2, rfl, nr2, hr2⟩ := ov
        exact .inr ⟨b, bkOf zs D, v, a, .such v, rfl, hb3, okM, .who hv3 shv ((eh dv).trans h1), fun H' dd s' ed => .inl ⟨rfl, dd, v, dv, rfl, ed, Dt.same s' _ hv3, sv, fun r nr => ⟨.ref r2, rfl, by show 2 ≤ sizeLine; decide, fun Tt nT => fin (l := ["nosuch", dv.shown]) s' nr hr2 rfl (asc2 (by decide +kernel) av) Tt nT⟩⟩⟩
      | true =>
        obtain ⟨z, rfl⟩ : ∃ z, dv = .str z := by cases dv <;> first | exact ⟨_, rfl⟩ | cases h1
        have hz : z ∈ zs := of_decide_eq_true h1
        have hzz : hasS zs (.str z0) = true := decide_eq_true hz0
        cases hv3
        cases h2 : amountD da with
        | false =>
          rw [show want12 zs (.str z) (.str z0) da false = some (["amount", "True"] : List Str) from (if_neg (by rw [h1]; exact Bool.noConfusion)).trans ((if_neg (by rw [hzz]; exact Bool.noConfusion)).trans (if_pos h2))] at ov
          obtain ⟨r2, rfl, nr2, hr2⟩ := ov
          exact .inr ⟨b, bkOf zs D, .str z, a, .amount, rfl, hb3, okM, .amount (idx_get hz) ha3 sha h2, fun H' s' => .inr (.inl ⟨rfl, rfl, fun r nr => ⟨.ref r2, rfl, by show 2 ≤ sizeLine; decide, fun Tt nT => fin (l := ["amount", "True"]) s' nr hr2 rfl (asc2 (by decide +kernel) (by decide +kernel)) Tt nT⟩⟩)⟩
        | true =>
          obtain ⟨n, rfl⟩ : ∃ n, da = .int n := by cases da <;> first | exact ⟨_, rfl⟩ | cases h2
          have hn : 1 ≤ n := of_decide_eq_true h2
          cases ha3
          rw [show want12 zs (.str z) (.str z0) (.int n) false = none from (if_neg (by rw [h1]; exact Bool.noConfusion)).trans ((if_neg (by rw [hzz]; exact Bool.noConfusion)).trans ((if_neg (by rw [h2]; exact Bool.noConfusion)).trans rfl))] at ov
          have ov : x = .non := ov
          subst ov
          refine .inl ⟨b, bkOf zs D, z, zs.idxOf z, n, rfl, hb3, okM, idx_get hz, hn, fun b' H4 s4 nb hb' => ⟨.ref b', rfl, .non, rfl, by show 2 ≤ sizeLine; decide, fun Tt nT => ?_⟩⟩
          have sT := same_upd (o := .tup [V.ref b', V.non]) nT
          exact q Tt _ (.ref b') .non (e03.trans (ExtN.of (s4.trans sT))) (t3.ext (s4.trans sT)) upd_same (.inl ⟨.give z n, b', rfl, rfl, .give rfl rfl hz hn, (fun z => nomatch z), book_same hb' sT⟩)
    | put =>
      refine ⟨.ref t, rfl, t, _, 0, .str "put", rfl, rfl, .inl (.inl ht), atI_nat (j := 0) rfl, rfl, _, rfl, ?_⟩
      rw [decide_eq_false give_ne_put]
      refine iteF ⟨.ref t, rfl, t, _, 1, v, rfl, rfl, .inl (.inl ht), atI_nat (j := 1) rfl, .ref t, rfl, t, _, 2, u, rfl, rfl, .inl (.inl ht), atI_nat (j := 2) rfl, .ref t, rfl, t, _, 3, a, rfl, rfl, .inl (.inl ht), atI_nat (j := 3) rfl, by show 3 ≤ sizeLine; decide, fun tt ntt => ?_⟩
      have s0 := same_upd (o := .tup [v, u, a]) ntt
      refine ⟨tt, _, rfl, .inl (.inl upd_same), rfl, _, _, rfl, _, _, rfl, _, _, rfl, rfl, ?_⟩
      generalize upd H tt (.tup [v, u, a]) = H0 at s0
      have hM0 := model_same hM s0
      -- how many notes
      refine ⟨m.dn, _, hM0.hn, trivial, fun od => ?_⟩
      have un : ∀ H', Same (upd H0 m.dn (.frz od (.dK (dct zs (m.rs.map V.ref))))) H' → Same H0 (upd H' m.dn (.dK (dct zs (m.rs.map V.ref)))) := fun H' s' => same_unlock12 hM0.hn s'
      have hmL : upd H0 m.dn (.frz od (.dK (dct zs (m.rs.map V.ref)))) m.m = some (.dK m.main) := (upd_ne hM0.omn).trans hM0.hm
      have hdL : upd H0 m.dn (.frz od (.dK (dct zs (m.rs.map V.ref)))) m.dn = some (.frz od (.dK (dct zs (m.rs.map V.ref)))) := upd_same
      have rowL : ∀ (i : Nat) (r : Addr) (l : List (Str × Int)), m.rs[i]? = some r → D.notes[i]? = some l → ∃ ys, upd H0 m.dn (.frz od (.dK (dct zs (m.rs.map V.ref)))) r = some (.lst ys) ∧ ys.length = l.length := fun i r l e1 e2 => by
        obtain ⟨ys, e3, d3⟩ := hM0.rows i r l e1 e2
        refine ⟨ys, (upd_ne fun z => by rw [z, hM0.hn] at e3; cases e3).trans e3, ?_⟩
        rw [d3.len]
        unfold notesD
        rw [List.length_map]
      generalize upd H0 m.dn (.frz od (.dK (dct zs (m.rs.map V.ref)))) = HL at un hmL hdL rowL
      have lrs := hM0.lr
      have lk : (dct zs (m.rs.map V.ref)).length = zs.length := dct_len (by rw [List.length_map, lrs])
      have gn3 : DGet HL m.m (.str "notes") (some (.ref m.dn)) := dget_at (j := 3) hmL keysM_nd rfl rfl
      refine ⟨.ref m.m, rfl, m.m, .ref m.dn, rfl, gn3, m.dn, od, _, rfl, hdL, fun L nL => ?_⟩
      refine lc_it (walk_values (kvs := dct zs (m.rs.map V.ref))) (fun i H' => Same HL H' ∧ H' L = some (.lst ((D.notes.take i).map fun l => V.int (l.length : Nat)))) ⟨same_upd nL, upd_same⟩ (fun i H' _ hP => hP.1 _ _ hdL) (fun i x H2' H2 hi hP hY => ?_) (fun H2 hP => ?_)
      · obtain ⟨rfl, kk, ek⟩ := hY
        obtain ⟨s2, h2⟩ := hP
        rw [lk] at hi
        have hin : i < D.notes.length := by omega
        have hir : i < m.rs.length := by omega
        have er : m.rs[i]? = some m.rs[i] := List.getElem?_eq_getElem hir
        have en : D.notes[i]? = some D.notes[i] := List.getElem?_eq_getElem hin
        have ek2 : (dct zs (m.rs.map V.ref))[i]? = some (Sum.inr zs[i], .ref m.rs[i]) := by
          unfold dct
          have hv' : (m.rs.map V.ref)[i]? = some (V.ref m.rs[i]) := map_get er
          rw [List.getElem?_map, List.getElem?_zip_eq_some (z := (zs[i], V.ref m.rs[i])) |>.mpr ⟨List.getElem?_eq_getElem hi, hv'⟩]
          rfl
        rw [ek2] at ek
        cases ek
        obtain ⟨ys, hys, lys⟩ := rowL i _ _ er en
        refine ⟨rfl, .ref m.rs[i], rfl, m.rs[i], ys, rfl, .inl (.inl (.inl (s2 _ _ hys))), _, h2, ?_, fun c o ec => ?_, ?_⟩
        · rw [List.length_map, List.length_take]
          exact small1000 (by omega)
        · rw [upd_ne (ne_of_none ec nL)]
          exact s2 c o ec
        · rw [upd_same, take_succ hin, List.map_append, lys]
          rfl
      obtain ⟨s2, h2⟩ := hP
      rw [lk, ← lnt, List.take_length] at h2
      refine ⟨L, D.notes.map fun l => ((l.length : Nat) : Int), rfl, .inl (.inl (by rw [h2, List.map_map]; rfl)), rfl, s2 _ _ hdL, ?_⟩
      have s01 := un _ s2
      generalize upd H2 m.dn (.dK (dct zs (m.rs.map V.ref))) = H1 at s01
      have s1 := s0.trans s01
      clear s01 s2 h2 hdL hmL rowL un nL
      have esum : (D.notes.map fun l => ((l.length : Nat) : Int)).sum = ((manyM (bkOf zs D) : Nat) : Int) := by
        unfold manyM
        show (D.notes.map fun l => ((l.length : Nat) : Int)).sum = (((D.notes.map List.length).sum : Nat) : Int)
        generalize D.notes = S
        induction S with
        | nil => rfl
        | cons a r ih =>
          rw [List.map_cons, List.sum_cons, ih, List.map_cons, List.sum_cons]
          omega
      rw [esum]
      have my : manyM (bkOf zs D) ≤ 60 := gd.my
      obtain ⟨full, efull⟩ : ∃ full, decide (V.int ((manyM (bkOf zs D) : Nat) : Int) = V.int 60) = full := ⟨_, rfl⟩
      rw [efull]
      have ef : full = decide (manyM (bkOf zs D) = 60) := by
        rw [← efull]
        exact decide_eq_decide.mpr ⟨fun e => by have := V.int.inj e; omega, fun e => by rw [e]; rfl⟩
      have hM1 := model_same hM s1
      refine ⟨.ref m.m, rfl, v, rfl, u, rfl, a, rfl, .bl full, rfl, m, D, zs, v, u, a, dv, du, da, full, rfl, hM1, by omega, Dt.same s1 _ hv, Dt.same s1 _ hu1, Dt.same s1 _ ha, sv, su, fun x H2 s2 ov => ?_⟩
      have s12 := s1.trans s2
      refine ⟨hT.ext s12, fun H3 e3 t3 => ?_⟩
      have e03 : ExtN H H3 := (ExtN.of s12).trans e3
      have hb3 := book_ext34 hb e03
      obtain ⟨dx, tn, on, wg, ws, wd, e, _⟩ := hb3.ex
      refine ⟨.ref b, rfl, b, dx, _, rfl, e, bf_no (NoF.mk' (by decide +kernel)), v, rfl, u, rfl, a, rfl, ?_⟩
      have eh : ∀ d, hasD (bkOf zs D) d = hasS zs d := fun d => by cases d <;> rfl
      have hv3 := Dt.ext e03 _ hv
      have ha3 := Dt.ext e03 _ ha
      have hu3 := Dt.ext e03 _ hu1
      have fin : ∀ {G : Hp} {r r2 : Addr} {l : List Str} {xs : List V}, Same H3 G → G r = none → H2 r2 = some (.lst (l.map V.str)) → xs = l.map V.str → (∀ t ∈ l, Asc t) → ∀ Tt, upd G r (.lst xs) Tt = none → Q (.ref Tt) (upd (upd G r (.lst xs)) Tt (.tup [.ref r, .ref r2])) := fun {G r r2 l xs} s nr h2 ex al Tt nT => by
        have sr := same_upd (o := .lst xs) nr
        have sT := same_upd (o := .tup [V.ref r, V.ref r2]) nT
        exact q Tt _ (.ref r) (.ref r2) (e03.trans (ExtN.of (s.trans (sr.trans sT)))) (t3.ext (s.trans (sr.trans sT))) upd_same (.inr ⟨r, r2, l, rfl, rfl, al, sT _ _ (by rw [upd_same, ex]), (s.trans (sr.trans sT)) _ _ (e3 _ _ h2 (by intro ps z; cases z))⟩)
      cases h1 : hasS zs dv with
      | false =>
        rw [show want12 zs dv du da full = some (["nosuch", dv.shown] : List Str) from if_pos h1] at ov
        obtain ⟨r2, rfl, nr2, hr2⟩ := ov
        exact .inr ⟨b, bkOf zs D, v, u, a, .such v, rfl, hb3, okM, .who hv3 shv ((eh dv).trans h1), fun H' dd s' ed => .inl ⟨rfl, dd, v, dv, rfl, ed, Dt.same s' _ hv3, sv, fun r nr => ⟨.ref r2, rfl, by show 2 ≤ sizeLine; decide, fun Tt nT => fin (l := ["nosuch", dv.shown]) s' nr hr2 rfl (asc2 (by decide +kernel) av) Tt nT⟩⟩⟩
      | true =>
        obtain ⟨z, rfl⟩ : ∃ z, dv = .str z := by cases dv <;> first | exact ⟨_, rfl⟩ | cases h1
        have hz : z ∈ zs := of_decide_eq_true h1
        cases hv3
        have n1' : ¬ hasS zs (.str z) = false := by rw [h1]; exact Bool.noConfusion
        cases h2 : hasS zs du with
        | false =>
          rw [show want12 zs (.str z) du da full = some (["nosuch", du.shown] : List Str) from (if_neg n1').trans (if_pos h2)] at ov
          obtain ⟨r2, rfl, nr2, hr2⟩ := ov
          exact .inr ⟨b, bkOf zs D, .str z, u, a, .such u, rfl, hb3, okM, .to (idx_get hz) hu3 shu ((eh du).trans h2), fun H' dd s' ed => .inl ⟨rfl, dd, u, du, rfl, ed, Dt.same s' _ hu3, su, fun r nr => ⟨.ref r2, rfl, by show 2 ≤ sizeLine; decide, fun Tt nT => fin (l := ["nosuch", du.shown]) s' nr hr2 rfl (asc2 (by decide +kernel) au) Tt nT⟩⟩⟩
        | true =>
          obtain ⟨y, rfl⟩ : ∃ y, du = .str y := by cases du <;> first | exact ⟨_, rfl⟩ | cases h2
          have hy : y ∈ zs := of_decide_eq_true h2
          cases hu3
          have n2' : ¬ hasS zs (.str y) = false := by rw [h2]; exact Bool.noConfusion
          cases h3 : amountD da with
          | false =>
            rw [show want12 zs (.str z) (.str y) da full = some (["amount", "True"] : List Str) from (if_neg n1').trans ((if_neg n2').trans (if_pos h3))] at ov
            obtain ⟨r2, rfl, nr2, hr2⟩ := ov
            exact .inr ⟨b, bkOf zs D, .str z, .str y, a, .amount, rfl, hb3, okM, .amount (idx_get hz) (idx_get hy) ha3 sha h3, fun H' s' => .inr (.inl ⟨rfl, rfl, fun r nr => ⟨.ref r2, rfl, by show 2 ≤ sizeLine; decide, fun Tt nT => fin (l := ["amount", "True"]) s' nr hr2 rfl (asc2 (by decide +kernel) (by decide +kernel)) Tt nT⟩⟩)⟩
          | true =>
            obtain ⟨n, rfl⟩ : ∃ n, da = .int n := by cases da <;> first | exact ⟨_, rfl⟩ | cases h3
            have hn : 1 ≤ n := of_decide_eq_true h3
            cases ha3
            have n3' : ¬ amountD (.int n) = false := by rw [h3]; exact Bool.noConfusion
            by_cases hf : manyM (bkOf zs D) = 60
            · have ef : full = true := by rw [ef]; exact decide_eq_true hf
              subst ef
              rw [show want12 zs (.str z) (.str y) (.int n) true = some (["full", "60"] : List Str) from (if_neg n1').trans ((if_neg n2').trans ((if_neg n3').trans rfl))] at ov
              obtain ⟨r2, rfl, nr2, hr2⟩ := ov
              exact .inr ⟨b, bkOf zs D, .str z, .str y, .int n, .full, rfl, hb3, okM, .full (idx_get hz) (idx_get hy) hn (by omega), fun H' dd s' ed => .inr (.inr ⟨rfl, dd, rfl, ed, fun r nr => ⟨.ref r2, rfl, by show 2 ≤ sizeLine; decide, fun Tt nT => fin (l := ["full", "60"]) s' nr hr2 rfl (asc2 (by decide +kernel) (by decide +kernel)) Tt nT⟩⟩)⟩
            · have ef : full = false := by rw [ef]; exact decide_eq_false hf
              subst ef
              rw [show want12 zs (.str z) (.str y) (.int n) false = none from (if_neg n1').trans ((if_neg n2').trans ((if_neg n3').trans rfl))] at ov
              have ov : x = .non := ov
              subst ov
              refine .inl ⟨b, bkOf zs D, z, y, zs.idxOf z, zs.idxOf y, n, rfl, hb3, okM, idx_get hz, idx_get hy, hn, by omega, fun b' H4 s4 nb hb' => ⟨.ref b', rfl, .non, rfl, by show 2 ≤ sizeLine; decide, fun Tt nT => ?_⟩⟩
              have sT := same_upd (o := .tup [V.ref b', V.non]) nT
              exact q Tt _ (.ref b') .non (e03.trans (ExtN.of (s4.trans sT))) (t3.ext (s4.trans sT)) upd_same (.inl ⟨.put z y n, b', rfl, rfl, .put rfl rfl rfl hz hy hn, (fun _ => by omega), book_same hb' sT⟩)
end
end Rc

namespace Rc
open PySem PySem.Spec PyProof.Rows L2 RZ LamX
theorem pi_listK {X : Cx} {K : PySem.W.Frag} {tg l : Expr} {tl : TE} (e : X.K = K) (hl : PE X l tl) : PI X tg l (iList K tl) := by
  subst e
  exact pi_list hl
theorem op_notIn_seqS {X : Cx} {K : PySem.W.Frag} (e : X.K = K) : OpR X (compareOp .NotIn) (rIn K true) := by
  subst e
  exact op_notIn_seq
theorem us_list (z : Str) : (z ++ ("_" : Str)).cps.toList = z.cps.toList ++ [95] := by
  show (z.cps ++ ("_" : Str).cps).toList = _
  rw [Array.toList_append]
  rfl
theorem us_len (z : Str) : (z ++ ("_" : Str)).length = z.length + 1 := by
  show (z.cps ++ ("_" : Str).cps).size = _
  rw [Array.size_append]
  rfl
theorem us_no (z : Str) : nameT (z ++ ("_" : Str)) = false := by
  unfold nameT
  rw [us_list, List.all_append]
  have : ([95].all fun c => decide (c ∈ abc)) = false := by decide +kernel
  rw [this, Bool.and_false, Bool.and_false]
theorem us_show {z : Str} (h : nameT z = true) : ShowOk (.str (z ++ ("_" : Str))) := by
  refine (nice_text (n := 9) (fun c hc => ?_) (by rw [us_len]; have := (nameT_len h).2; omega)).show (by decide)
  rw [us_list] at hc
  rcases List.mem_append.mp hc with hc | hc
  · exact abc_lt c (name_signs h c hc)
  · rw [List.mem_singleton.mp hc]
    decide
/-- data wherever its own objects stand, and the names -/
def DtW (K : PySem.W.Frag) (nl : Addr) (zs : List Str) (Ha Hb : Hp) (v : V) (d : PyData) : Prop := ∀ G : Hp, (∀ c o, Ha c = none → Hb c = some o → G c = some o) → G nl = some (.lst (zs.map V.str)) → Dt K G v d
section
variable {P : Program} {w : World} {K : PySem.W.Frag} {mg : Str → Option Value} {base : Heap}
/-! ### _law_no_name -/
abbrev sLNn : Stmt := topS 36
abbrev nLNn : List Str := ["_law_pot_here", "_law_names_here", "_law_fresh", "_law_some", "_law_name_here"]
theorem scLNn : FnScope nLNn ["_law_pot_here", "_law_names_here"] (defScope sLNn) := ⟨rfl, rfl, rfl, by decide +kernel, rfl, by decide +kernel, by decide +kernel⟩
def spLNn (K : PySem.W.Frag) : Sp := fun vs H Q _ => ∃ (p nl : Addr) (zs : List Str), vs = [.ref p, .ref nl] ∧ Pot H p ∧ nl ≠ p ∧ H nl = some (.lst (zs.map V.str)) ∧ NamesOk zs ∧ ∀ v d H', Pot H' p → But p H H' → DtW K nl zs H H' v d → ShortD d → ShowOk d → Asc d.shown → hasS zs d = false → Q v H'
set_option maxHeartbeats 1000000 in
theorem ok_lnn {f fT f1 : Addr} {fd fdT fd1 : FuncData} (F : Fun K "_law_no_name" "_law_no_name" sLNn f fd) (B : Blt mg) (TK : HasTake P w K mg base fT fdT) (LN : Has P w K mg base 3 "_law_names" ["_law_pot_here", "_law_many"] spLNms f1 fd1) : FnOk P w K mg base CX0 4 f fd ["_law_pot_here", "_law_names_here"] (spLNn K) := by
  refine F.ok scLNn (fun vs H Q E h => ?_) (fun cdv Ar outer s H vs Q E0 hr h => ?_)
  · obtain ⟨_, _, _, rfl, _⟩ := h
    rfl
  · obtain ⟨p, nl, zs, rfl, hp, nlp, hnl, nz, q⟩ := h
    have hr1 := hr.mono (show 1 ≤ 3 by decide)
    have hr3 := hr
    refine ⟨_, (pss_cons (ps_set (i := 2) scLNn.nd rfl (.inl rfl) (pe_slice sl_list (pe_lc (own := [("_law_name_here", 4)]) (g := gName 4) rfl scLNn.nd (pi_listK (K := K) rfl (pe_op op_cat (pe_lst (pa_cons pe_str (pa_cons pe_str (pa_cons pe_str pa_nil)))) (pe_call LN.ok hr3 (by rfl) LN.g LN.kp LN.b .nil pass0 (pa_cons (pv 0) (pa_cons pe_int pa_nil))))) (blkOk_by (N := nLNn) (sc := defScope sLNn) (own := [("_law_name_here", 4)]) (by decide +kernel)) (fun _ _ _ _ _ => (pg_name (i := 4) scLNn.nd rfl (.inl rfl) (hf := .inr rfl))) (fun _ _ _ _ _ => pts_one (pt_cmpR (op_notIn_seqS (K := K) rfl) (pv 4) (pv 1) (by rfl))) (fun _ _ _ _ _ => (pv 4))) po_none (po_some pe_int))) (pss_cons (ps_set (i := 3) scLNn.nd rfl (.inl rfl) (pe_op op_cat (pe_lst (pa_cons pe_non (pa_cons pe_int (pa_cons pe_bl (pa_cons pe_str (pa_cons pe_str (pa_cons pe_str (pa_cons (pe_lst pa_nil) (pa_cons (pe_tup pa_nil) (pa_cons pe_dnewK (pa_cons (pv 1) (pa_cons (pe_tup (pa_cons (pe_ix ix_list (pv 1) pe_int (fun _ _ => rfl)) pa_nil)) (pa_cons (pe_op op_add_str (pe_ix ix_list (pv 1) pe_int (fun _ _ => rfl)) pe_str) pa_nil))))))))))))) (pv 2))) (pss_one (ps_ret (pe_ix ix_list (pv 3) (pe_call TK.ok hr1 (by rfl) TK.g TK.kp TK.b .nil pass0 (pa_cons (pv 0) (pa_cons (pe_callB call_len_seq (by rfl) B.len PySem.boot_len (pa_cons (pv 3) pa_nil)) pa_nil))) (fun _ _ => rfl)))))), ?_⟩
    have n0 := nz.n0
    have n1 := nz.n1
    have nz0 : zs[0]? = some (zs[0]'(by omega)) := List.getElem?_eq_getElem (by omega)
    have hz0 : zs[0]'(by omega) ∈ zs := List.getElem_mem _
    generalize zs[0]'(by omega) = z0 at nz0 hz0
    refine ⟨by show 3 ≤ sizeLine; decide, fun A nA => ?_⟩
    have Ap := hp.ne nA
    have hA : upd H A (.lst [V.str "a", .str "b", .str "zz"]) A = some (.lst [V.str "a", .str "b", .str "zz"]) := upd_same
    have sA := same_upd (o := .lst [V.str "a", .str "b", .str "zz"]) nA
    have hpA := hp.same sA
    generalize upd H A (.lst [V.str "a", .str "b", .str "zz"]) = H1 at hA sA hpA
    refine ⟨.ref p, rfl, p, 2, rfl, hpA, by omega, fun r2 zs2 H2 nr2 r2p hr2 lz2 nd2 nm2 hp2 bt2 => ?_⟩
    have b02 : But p H H2 := fun c o nc e => bt2 _ _ nc (sA _ _ e)
    obtain ⟨xs, exs⟩ : ∃ xs : List Str, xs = (["a", "b", "zz"] : List Str) ++ zs2 := ⟨_, rfl⟩
    have nmx : ∀ x ∈ xs, nameT x = true := fun x hx => by
      rw [exs] at hx
      rcases List.mem_append.mp hx with hx | hx
      · simp only [List.mem_cons, List.not_mem_nil, or_false] at hx
        rcases hx with rfl | rfl | rfl <;> decide +kernel
      · exact nm2 x hx
    have lxs : xs.length ≤ 20 := by
      rw [exs, List.length_append]
      show 3 + _ ≤ _
      omega
    refine ⟨A, r2, _, _, rfl, rfl, bt2 _ _ Ap hA, hr2, by rw [List.length_map]; exact small_line (by show 3 + _ ≤ _; omega), fun C0 nC => ?_⟩
    rw [show ([V.str "a", .str "b", .str "zz"] ++ zs2.map V.str) = xs.map V.str from by rw [exs, List.map_append]; rfl]
    have sC := same_upd (o := .lst (xs.map V.str)) nC
    have hC : upd H2 C0 (.lst (xs.map V.str)) C0 = some (.lst (xs.map V.str)) := upd_same
    have hp3 := hp2.same sC
    generalize upd H2 C0 (.lst (xs.map V.str)) = H3 at sC hC hp3
    have b03 := b02.trans (same_but sC)
    have hnl3 := b03 _ _ nlp hnl
    have lxm : (xs.map V.str).length = xs.length := List.length_map ..
    refine ⟨C0, rfl, ⟨_, .inl (.inl hC)⟩, fun L nL => ?_⟩
    refine lc_it (walk_list (K := K) (a := C0) (xs := xs.map V.str)) (fun i H' => Same H3 H' ∧ H' L = some (.lst (((xs.take i).filter fun z => !decide (z ∈ zs)).map V.str))) ⟨same_upd nL, upd_same⟩ (fun i H' _ hP => .inl (.inl (hP.1 _ _ hC))) (fun i x H4' H4 hi hP hY => ?_) (fun H4 hP => ?_)
    · obtain ⟨rfl, hx⟩ := hY
      obtain ⟨s4, h4⟩ := hP
      rw [lxm] at hi
      have exx : x = .str xs[i] := by
        rw [List.getElem?_map, List.getElem?_eq_getElem hi] at hx
        exact (Option.some.inj hx).symm
      subst exx
      rw [take_succ hi, List.filter_append]
      generalize xs[i] = z
      refine ⟨rfl, .str z, rfl, .ref nl, rfl, nl, _, rfl, .inl (.inl (.inl (s4 _ _ hnl3))), rfl, flat_strs _, _, rfl, ?_⟩
      rw [inV_strs]
      by_cases hb : z ∈ zs
      · rw [decide_eq_true hb]
        refine iteF ⟨s4, ?_⟩
        rw [h4]
        simp [hb]
      · rw [decide_eq_false hb]
        refine iteT ⟨.str z, rfl, _, h4, ?_, fun c o ec => ?_, ?_⟩
        · rw [List.length_map]
          refine Nat.lt_of_le_of_lt (List.length_filter_le _ _) ?_
          rw [List.length_take]
          exact small1000 (by omega)
        · rw [upd_ne (ne_of_none ec nL)]
          exact s4 c o ec
        · rw [upd_same]
          simp [hb]
    obtain ⟨s4, h4⟩ := hP
    rw [lxm, List.take_length] at h4
    obtain ⟨ys, eys⟩ : ∃ ys : List Str, ys = xs.filter fun z => !decide (z ∈ zs) := ⟨_, rfl⟩
    rw [← eys] at h4
    have nmy : ∀ y ∈ ys.take 1, nameT y = true := fun y hy => nmx y (by
      have := List.mem_of_mem_take hy
      rw [eys] at this
      exact (List.mem_filter.mp this).1)
    refine ⟨_, rfl, L, _, rfl, .inl (.inl h4), fun F0 nF => ?_⟩
    rw [show cutV (ys.map V.str) none (some 1) = (ys.take 1).map V.str from (cut_take _ 1).trans List.map_take.symm]
    have ly : (ys.take 1).length ≤ 1 := by
      rw [List.length_take]
      omega
    have noy : ∀ y ∈ ys.take 1, ¬ y ∈ zs := fun y hy => by
      have := List.mem_of_mem_take hy
      rw [eys] at this
      simpa using (List.mem_filter.mp this).2
    generalize ys.take 1 = fs at nmy ly noy
    have sF := same_upd (o := .lst (fs.map V.str)) nF
    have hF : upd H4 F0 (.lst (fs.map V.str)) F0 = some (.lst (fs.map V.str)) := upd_same
    have b05 := b03.trans (same_but (s4.trans sF))
    have hp5 := (hp3.same s4).same sF
    generalize upd H4 F0 (.lst (fs.map V.str)) = H5 at sF hF b05 hp5
    have new5 : ∀ {c : Addr}, H5 c = none → H c = none := fun {c} n => by
      cases e : H c with
      | none => rfl
      | some o =>
        by_cases cp : c = p
        · obtain ⟨px, py, pe, _⟩ := hp5
          rw [cp, pe] at n
          cases n
        · rw [b05 c o cp e] at n
          cases n
    have hnl5 := b05 _ _ nlp hnl
    refine ⟨Nat.zero_le _, fun a1 na1 => ?_⟩
    have s1 := same_upd (o := .lst []) na1
    have h1 : upd H5 a1 (.lst []) a1 = some (.lst []) := upd_same
    generalize upd H5 a1 (.lst []) = H6 at s1 h1
    refine ⟨Nat.zero_le _, fun t1 nt1 => ?_⟩
    have s2 := same_upd (o := .tup []) nt1
    have h2 : upd H6 t1 (.tup []) t1 = some (.tup []) := upd_same
    generalize upd H6 t1 (.tup []) = H7 at s2 h2
    refine fun d1 nd1 => ?_
    have s3 := same_upd (o := .dK []) nd1
    have h3 : upd H7 d1 (.dK []) d1 = some (.dK []) := upd_same
    generalize upd H7 d1 (.dK []) = H8 at s3 h3
    have s58 := s1.trans (s2.trans s3)
    have hnl8 := s58 _ _ hnl5
    refine ⟨.ref nl, rfl, .ref nl, rfl, nl, _, 0, .str z0, rfl, rfl, .inl (.inl hnl8), atI_nat (j := 0) (map_get nz0), by show 1 ≤ sizeLine; decide, fun t2 nt2 => ?_⟩
    have s4' := same_upd (o := .tup [.str z0]) nt2
    have h4' : upd H8 t2 (.tup [.str z0]) t2 = some (.tup [.str z0]) := upd_same
    generalize upd H8 t2 (.tup [.str z0]) = H9 at s4' h4'
    have hnl9 := s4' _ _ hnl8
    have lz0 := (nameT_len (nz.nm z0 hz0)).2
    refine ⟨.ref nl, rfl, nl, _, 0, .str z0, rfl, rfl, .inl (.inl hnl9), atI_nat (j := 0) (map_get nz0), z0, "_", rfl, rfl, small_line (by show z0.length + 1 ≤ _; omega), by show 12 ≤ sizeLine; decide, fun S1 nS1 => ?_⟩
    generalize eX : ([V.non, .int 5, .bl true, .str "", .str "A", .str "ninelongs", .ref a1, .ref t1, .ref d1, .ref nl, .ref t2, .str (z0 ++ "_")] : List V) = XS
    have s5 := same_upd (o := .lst XS) nS1
    have h5 : upd H9 S1 (.lst XS) S1 = some (.lst XS) := upd_same
    generalize upd H9 S1 (.lst XS) = Ha at s5 h5
    have s5a := s58.trans (s4'.trans s5)
    have lX : XS.length = 12 := by rw [← eX]; rfl
    refine ⟨.ref F0, rfl, S1, F0, _, _, rfl, rfl, h5, s5a _ _ hF, by rw [List.length_map, lX]; exact small_line (by omega), fun S2 nS2 => ?_⟩
    have s6 := same_upd (o := .lst (XS ++ fs.map V.str)) nS2
    have h6 : upd Ha S2 (.lst (XS ++ fs.map V.str)) S2 = some (.lst (XS ++ fs.map V.str)) := upd_same
    generalize upd Ha S2 (.lst (XS ++ fs.map V.str)) = Hb at s6 h6
    have s5b := s5a.trans s6
    have hpb := hp5.same s5b
    have lT : (XS ++ fs.map V.str).length = 12 + fs.length := by rw [List.length_append, List.length_map, lX]
    refine ⟨.ref S2, rfl, .ref p, rfl, .ref S2, rfl, S2, _, rfl, .inl (.inl (.inl h6)), p, _, rfl, hpb, litM _ (by omega) (by omega), fun u Hc u0 u1 hpc btc => ?_⟩
    have b0c := (b05.trans (same_but s5b)).trans btc
    have pne : ∀ {G : Hp} {c : Addr}, Pot G p → G c = none → c ≠ p := fun hp n => hp.ne n
    have S2p : S2 ≠ p := (((hp5.same s5a)).ne nS2)
    obtain ⟨v, ev, mv⟩ := pick u0 u1
    refine ⟨S2, _, _, v, rfl, rfl, .inl (.inl (btc _ _ S2p h6)), ev, ?_⟩
    have g1 := btc _ _ (hp5.ne na1) (s6 _ _ (s5 _ _ (s4' _ _ (s3 _ _ (s2 _ _ h1)))))
    have g2 := btc _ _ ((hp5.same s1).ne nt1) (s6 _ _ (s5 _ _ (s4' _ _ (s3 _ _ h2))))
    have g3 := btc _ _ (((hp5.same s1).same s2).ne nd1) (s6 _ _ (s5 _ _ (s4' _ _ h3)))
    have g4 := btc _ _ ((hp5.same s58).ne nt2) (s6 _ _ (s5 _ _ h4'))
    have m1 := new5 na1
    have m2 := new5 (s1.free nt1)
    have m3 := new5 ((s1.trans s2).free nd1)
    have m4 := new5 (s58.free nt2)
    have noStr : ∀ {d : PyData}, (∀ z, d ≠ .str z) → ShortD d := fun h z e => absurd e (h z)
    have noT : ∀ {z : Str}, nameT z = false → hasS zs (.str z) = false := fun {z} h => decide_eq_false fun c => by
      have := nz.nm z c
      rw [h] at this
      cases this
    have key : ∃ d, DtW K nl zs H Hc v d ∧ ShortD d ∧ ShowOk d ∧ Asc d.shown ∧ hasS zs d = false := by
      rcases List.mem_append.mp mv with hm | hm
      · rw [← eX] at hm
        simp only [List.mem_cons, List.not_mem_nil, or_false] at hm
        rcases hm with rfl | rfl | rfl | rfl | rfl | rfl | rfl | rfl | rfl | rfl | rfl | rfl
        · exact ⟨.none, fun G _ _ => .non, (fun z e => by cases e), ⟨by decide +kernel, .inl (by decide +kernel), by decide +kernel, .inr (by decide +kernel)⟩, (by decide +kernel), rfl⟩
        · exact ⟨.int 5, fun G _ _ => .int 5, (fun z e => by cases e), ⟨by decide +kernel, .inl (by decide +kernel), by decide +kernel, .inr (by decide +kernel)⟩, (by decide +kernel), rfl⟩
        · exact ⟨.bool true, fun G _ _ => .bl true, (fun z e => by cases e), ⟨by decide +kernel, .inl (by decide +kernel), by decide +kernel, .inr (by decide +kernel)⟩, (by decide +kernel), rfl⟩
        · exact ⟨.str "", fun G _ _ => .str _, (fun z e => by cases e; decide), ⟨by decide +kernel, .inl (by decide +kernel), by decide +kernel, .inr (by decide +kernel)⟩, (by decide +kernel), noT (by decide +kernel)⟩
        · exact ⟨.str "A", fun G _ _ => .str _, (fun z e => by cases e; decide), ⟨by decide +kernel, .inl (by decide +kernel), by decide +kernel, .inr (by decide +kernel)⟩, (by decide +kernel), noT (by decide +kernel)⟩
        · exact ⟨.str "ninelongs", fun G _ _ => .str _, (fun z e => by cases e; decide), ⟨by decide +kernel, .inl (by decide +kernel), by decide +kernel, .inr (by decide +kernel)⟩, (by decide +kernel), noT (by decide +kernel)⟩
        · exact ⟨.list [], fun G k _ => .lst (.inl (.inl (k _ _ m1 g1))) .nil, (fun z e => by cases e), ⟨by decide +kernel, .inl (by decide +kernel), by decide +kernel, .inr (by decide +kernel)⟩, (by decide +kernel), rfl⟩
        · exact ⟨.tuple [], fun G k _ => .tup (.inl (.inl (k _ _ m2 g2))) .nil, (fun z e => by cases e), ⟨by decide +kernel, .inl (by decide +kernel), by decide +kernel, .inr (by decide +kernel)⟩, (by decide +kernel), rfl⟩
        · exact ⟨.dict [], fun G k _ => .dct (kvs := []) (k _ _ m3 g3) .nil .nil, (fun z e => by cases e), ⟨by decide +kernel, .inr ⟨_, rfl⟩, by decide +kernel, .inr (by decide +kernel)⟩, (by decide +kernel), rfl⟩
        · exact ⟨.list (zs.map .str), fun G _ kn => .lst (.inl (.inl kn)) (DtAll.strs _), (fun z e => by cases e), ((nice_names nz.nm).list).show (by omega), names_asc nz.nm, rfl⟩
        · exact ⟨.tuple [.str z0], fun G k _ => .tup (.inl (.inl (k _ _ m4 g4))) (.cons (.str _) .nil), (fun z e => by cases e), ((NiceA.cons (nice_name (nz.nm z0 hz0)) (by simp only [PyData.depth]; omega) NiceA.nil).tuple).show (by decide), one_asc (nz.nm z0 hz0), rfl⟩
        · exact ⟨.str (z0 ++ "_"), fun G _ _ => .str _, (fun z e => by cases e; rw [us_len]; omega), us_show (nz.nm z0 hz0), str_asc ((name_asc (nz.nm z0 hz0)).app (by decide +kernel)), noT (us_no z0)⟩
      · obtain ⟨y, hy, rfl⟩ := List.mem_map.mp hm
        have ny := nmy y hy
        exact ⟨.str y, fun G _ _ => .str _, (fun z e => by cases e; have := (nameT_len ny).2; omega), (nice_name ny).show (by decide), str_asc (name_asc ny), decide_eq_false (noy y hy)⟩
    obtain ⟨d, dw, sd, so, as, no⟩ := key
    exact q v d Hc hpc b0c dw sd so as no

/-! ### _law_no_amount -/
abbrev sLNo12 : Stmt := topS 37
theorem scLNo12 : FnScope ["_law_pot_here"] ["_law_pot_here"] (defScope sLNo12) := ⟨rfl, rfl, rfl, by decide +kernel, rfl, by decide +kernel, by decide +kernel⟩
def spLNo12 (K : PySem.W.Frag) : Sp := fun vs H Q _ => ∃ (p : Addr), vs = [.ref p] ∧ Pot H p ∧ ∀ v d H', Pot H' p → But p H H' → (∀ nl zs, DtW K nl zs H H' v d) → ShortD d → amountD d = false → Q v H'
set_option maxHeartbeats 1000000 in
theorem ok_lnm12 {f fT : Addr} {fd fdT : FuncData} (F : Fun K "_law_no_amount" "_law_no_amount" sLNo12 f fd) (TK : HasTake P w K mg base fT fdT) : FnOk P w K mg base CX0 2 f fd ["_law_pot_here"] (spLNo12 K) := by
  refine F.ok scLNo12 (fun vs H Q E h => ?_) (fun cdv Ar outer s H vs Q E0 hr h => ?_)
  · obtain ⟨_, rfl, _⟩ := h
    rfl
  · obtain ⟨p, rfl, hp, q⟩ := h
    have hr1 := hr
    refine ⟨_, (pss_one (ps_ret (pe_ix ix_list (pe_lst (pa_cons pe_int (pa_cons (pe_un un_neg pe_int) (pa_cons pe_bl (pa_cons pe_bl (pa_cons pe_non (pa_cons pe_str (pa_cons (pe_lst pa_nil) (pa_cons (pe_tup (pa_cons pe_int pa_nil)) (pa_cons pe_dnewK (pa_cons (pe_un un_neg (pe_op op_pow pe_int pe_int)) (pa_cons (pe_lst (pa_cons pe_int pa_nil)) pa_nil)))))))))))) (pe_call TK.ok hr1 (by rfl) TK.g TK.kp TK.b .nil pass0 (pa_cons (pv 0) (pa_cons pe_int pa_nil))) (fun _ _ => rfl)))), ?_⟩
    refine ⟨_, rfl, Nat.zero_le _, fun a1 na1 => ?_⟩
    have s1 := same_upd (o := .lst []) na1
    have h1 : upd H a1 (.lst []) a1 = some (.lst []) := upd_same
    have p1 := hp.same s1
    generalize upd H a1 (.lst []) = H1 at s1 h1 p1
    refine ⟨by show 1 ≤ sizeLine; decide, fun t1 nt1 => ?_⟩
    have s2 := same_upd (o := .tup [V.int 1]) nt1
    have h2 : upd H1 t1 (.tup [V.int 1]) t1 = some (.tup [V.int 1]) := upd_same
    have p2 := p1.same s2
    generalize upd H1 t1 (.tup [V.int 1]) = H2 at s2 h2 p2
    refine fun d1 nd1 => ?_
    have s3 := same_upd (o := .dK []) nd1
    have h3 : upd H2 d1 (.dK []) d1 = some (.dK []) := upd_same
    have p3 := p2.same s3
    generalize upd H2 d1 (.dK []) = H3 at s3 h3 p3
    refine ⟨10, 30, rfl, rfl, ⟨by decide, by decide, by decide⟩, _, rfl, by show 1 ≤ sizeLine; decide, fun l2 nl2 => ?_⟩
    have s4 := same_upd (o := .lst [V.int 5]) nl2
    have h4 : upd H3 l2 (.lst [V.int 5]) l2 = some (.lst [V.int 5]) := upd_same
    have p4 := p3.same s4
    generalize upd H3 l2 (.lst [V.int 5]) = H4 at s4 h4 p4
    refine ⟨by show 11 ≤ sizeLine; decide, fun S1 nS1 => ?_⟩
    generalize eX : ([V.int 0, .int (-1), .bl true, .bl false, .non, .str "1", .ref a1, .ref t1, .ref d1, .int (-(10 ^ (30 : Int).toNat)), .ref l2] : List V) = XS
    have s5 := same_upd (o := .lst XS) nS1
    have h5 : upd H4 S1 (.lst XS) S1 = some (.lst XS) := upd_same
    have p5 := p4.same s5
    have S1p := p4.ne nS1
    generalize upd H4 S1 (.lst XS) = H5 at s5 h5 p5
    have lX : XS.length = 11 := by rw [← eX]; rfl
    refine ⟨.ref p, rfl, p, 11, rfl, p5, litM _ (by decide) (by decide), fun u Hc u0 u1 hpc btc => ?_⟩
    have s05 := s1.trans (s2.trans (s3.trans (s4.trans s5)))
    have b0c := (same_but (p := p) s05).trans btc
    obtain ⟨v, ev, mv⟩ := pick (xs := XS) u0 (by rw [lX]; exact u1)
    refine ⟨S1, _, _, v, rfl, rfl, .inl (.inl (btc _ _ S1p h5)), ev, ?_⟩
    have g1 := btc _ _ (hp.ne na1) (s5 _ _ (s4 _ _ (s3 _ _ (s2 _ _ h1))))
    have g2 := btc _ _ (p1.ne nt1) (s5 _ _ (s4 _ _ (s3 _ _ h2)))
    have g3 := btc _ _ (p2.ne nd1) (s5 _ _ (s4 _ _ h3))
    have g4 := btc _ _ (p3.ne nl2) (s5 _ _ h4)
    have m2 := s1.free nt1
    have m3 := (s1.trans s2).free nd1
    have m4 := (s1.trans (s2.trans s3)).free nl2
    have key : ∃ d, (∀ nl zs, DtW K nl zs H Hc v d) ∧ ShortD d ∧ amountD d = false := by
      rw [← eX] at mv
      simp only [List.mem_cons, List.not_mem_nil, or_false] at mv
      rcases mv with rfl | rfl | rfl | rfl | rfl | rfl | rfl | rfl | rfl | rfl | rfl
      · exact ⟨.int 0, fun _ _ G _ _ => .int _, (fun z e => by cases e), rfl⟩
      · exact ⟨.int (-1), fun _ _ G _ _ => .int _, (fun z e => by cases e), rfl⟩
      · exact ⟨.bool true, fun _ _ G _ _ => .bl _, (fun z e => by cases e), rfl⟩
      · exact ⟨.bool false, fun _ _ G _ _ => .bl _, (fun z e => by cases e), rfl⟩
      · exact ⟨.none, fun _ _ G _ _ => .non, (fun z e => by cases e), rfl⟩
      · exact ⟨.str "1", fun _ _ G _ _ => .str _, (fun z e => by cases e; decide), rfl⟩
      · exact ⟨.list [], fun _ _ G k _ => .lst (.inl (.inl (k _ _ na1 g1))) .nil, (fun z e => by cases e), rfl⟩
      · exact ⟨.tuple [.int 1], fun _ _ G k _ => .tup (.inl (.inl (k _ _ m2 g2))) (.cons (.int _) .nil), (fun z e => by cases e), rfl⟩
      · exact ⟨.dict [], fun _ _ G k _ => .dct (kvs := []) (k _ _ m3 g3) .nil .nil, (fun z e => by cases e), rfl⟩
      · exact ⟨.int (-(10 ^ (30 : Int).toNat)), fun _ _ G _ _ => .int _, (fun z e => by cases e), by decide⟩
      · exact ⟨.list [.int 5], fun _ _ G k _ => .lst (.inl (.inl (k _ _ m4 g4))) (.cons (.int _) .nil), (fun z e => by cases e), rfl⟩
    obtain ⟨d, dw, sd, am⟩ := key
    exact q v d Hc hpc b0c dw sd am

end
end Rc

namespace Rc
open PySem PySem.Spec PyProof.Rows L2 RZ LamX
/-- data of a part, whatever becomes of the pot and of the parts -/
def PW (K : PySem.W.Frag) (nl : Addr) (zs : List Str) (r p : Addr) (H : Hp) (v : V) (d : PyData) : Prop := ∀ G : Hp, (∀ c o, c ≠ p → c ≠ r → H c = some o → G c = some o) → G nl = some (.lst (zs.map V.str)) → Dt K G v d
theorem PW.step {K : PySem.W.Frag} {nl r p : Addr} {zs : List Str} {H H' : Hp} {v : V} {d : PyData} (h : PW K nl zs r p H v d) (s : ∀ c o, c ≠ p → c ≠ r → H c = some o → H' c = some o) : PW K nl zs r p H' v d := fun G k n => h G (fun c o np nr e => k c o np nr (s c o np nr e)) n
theorem PW.of {K : PySem.W.Frag} {nl r p : Addr} {zs : List Str} {Ha Hb : Hp} {v : V} {d : PyData} (h : DtW K nl zs Ha Hb v d) (hp : ∃ o, Ha p = some o) (hr : ∃ o, Ha r = some o) : PW K nl zs r p Hb v d := fun G k n => h G (fun c o ec eo => k c o (fun z => by
  obtain ⟨o', e⟩ := hp
  rw [z, e] at ec
  cases ec) (fun z => by
  obtain ⟨o', e⟩ := hr
  rw [z, e] at ec
  cases ec) eo) n
/-- a part as it was, or none -/
structure POk (K : PySem.W.Frag) (nl : Addr) (zs : List Str) (r p : Addr) (z : Str) (H : Hp) (v : V) (d : PyData) : Prop where
  w : PW K nl zs r p H v d
  sd : ShortD d
  so : ShowOk d
  as : Asc d.shown
  is : d = .str z ∨ hasS zs d = false
theorem POk.step {K : PySem.W.Frag} {nl r p : Addr} {zs : List Str} {z : Str} {H H' : Hp} {v : V} {d : PyData} (h : POk K nl zs r p z H v d) (s : ∀ c o, c ≠ p → c ≠ r → H c = some o → H' c = some o) : POk K nl zs r p z H' v d := ⟨h.w.step s, h.sd, h.so, h.as, h.is⟩
theorem POk.own {K : PySem.W.Frag} {nl r p : Addr} {zs : List Str} {z : Str} {H : Hp} (h : nameT z = true) : POk K nl zs r p z H (.str z) (.str z) := ⟨fun _ _ _ => .str z, (fun y e => by cases e; have := (nameT_len h).2; omega), (nice_name h).show (by decide), str_asc (name_asc h), .inl rfl⟩
/-- the parts of a deed -/
inductive Prt (K : PySem.W.Frag) (nl : Addr) (zs : List Str) (r p : Addr) (H : Hp) : Deed → List V → Prop
  | give {z : Str} {n : Int} {v : V} {dv : PyData} : POk K nl zs r p z H v dv → Prt K nl zs r p H (.give z n) [.str "give", v, .int n]
  | put {z y : Str} {n : Int} {v u : V} {dv du : PyData} : POk K nl zs r p z H v dv → POk K nl zs r p y H u du → Prt K nl zs r p H (.put z y n) [.str "put", v, u, .int n]
theorem Prt.step {K : PySem.W.Frag} {nl r p : Addr} {zs : List Str} {H H' : Hp} {d : Deed} {xs : List V} (h : Prt K nl zs r p H d xs) (s : ∀ c o, c ≠ p → c ≠ r → H c = some o → H' c = some o) : Prt K nl zs r p H' d xs := by
  cases h with
  | give a => exact .give (a.step s)
  | put a b => exact .put (a.step s) (b.step s)
theorem Prt.len {K : PySem.W.Frag} {nl r p : Addr} {zs : List Str} {H : Hp} {d : Deed} {xs : List V} (h : Prt K nl zs r p H d xs) : xs.length = match d with | .give .. => 3 | .put .. => 4 := by cases h <;> rfl
/-- what comes of a deed that may be spoilt -/
structure Spt (K : PySem.W.Frag) (H : Hp) (zs : List Str) (d : Deed) (xs : List V) : Prop where
  ex : ∃ (v u a : V) (dv du da : PyData) (isg : Bool), Part v u a xs isg ∧ Dt K H v dv ∧ Dt K H u du ∧ Dt K H a da ∧ ShortD dv ∧ ShortD du ∧ ShortD da ∧ ShowOk dv ∧ ShowOk du ∧ Asc dv.shown ∧ Asc du.shown ∧ ∀ d', Did zs dv du da isg d' → d' = d
def amt12 : Deed → Int
  | .give _ n => n
  | .put _ _ n => n
theorem spt_of {K : PySem.W.Frag} {nl r p : Addr} {zs : List Str} {H : Hp} {d : Deed} {xs : List V} (h : Prt K nl zs r p H d xs) (hn : H nl = some (.lst (zs.map V.str))) {a : V} {da : PyData} (ha : Dt K H a da) (sa : ShortD da) (ia : da = .int (amt12 d) ∨ amountD da = false) : Spt K H zs d (xs.set (xs.length - 1) a) := by
  have self : ∀ c o, c ≠ p → c ≠ r → H c = some o → H c = some o := fun _ _ _ _ e => e
  have nm : ∀ {z z' : Str} {dv : PyData}, dv = .str z ∨ hasS zs dv = false → dv = .str z' → z' ∈ zs → z' = z := fun {z z' dv} h e m => by
    rcases h with h | h
    · rw [h] at e
      exact (PyData.str.inj e).symm
    · rw [e] at h
      have : decide (z' ∈ zs) = false := h
      rw [decide_eq_true m] at this
      cases this
  have am : ∀ {n' : Int}, da = .int n' → 1 ≤ n' → n' = amt12 d := fun {n'} e h1 => by
    rcases ia with h | h
    · rw [h] at e
      exact (PyData.int.inj e).symm
    · rw [e] at h
      have : decide (1 ≤ n') = false := h
      rw [decide_eq_true h1] at this
      cases this
  cases h with
  | @give z n v dv po =>
    refine ⟨⟨v, .non, a, dv, .none, da, true, .give, po.w H self hn, .non, ha, po.sd, (fun y e => by cases e), sa, po.so, ⟨by decide +kernel, .inl (by decide +kernel), by decide +kernel, .inr (by decide +kernel)⟩, po.as, (by decide +kernel), fun d' hd => ?_⟩⟩
    cases hd with
    | give e1 e2 hz h1 => rw [nm po.is e1 hz, am e2 h1]; rfl
  | @put z y n v u dv du po pu =>
    refine ⟨⟨v, u, a, dv, du, da, false, .put, po.w H self hn, pu.w H self hn, ha, po.sd, pu.sd, sa, po.so, pu.so, po.as, pu.as, fun d' hd => ?_⟩⟩
    cases hd with
    | put e1 e2 e3 hz hy h1 => rw [nm po.is e1 hz, nm pu.is e2 hy, am e3 h1]; rfl
theorem Prt.last {K : PySem.W.Frag} {nl r p : Addr} {zs : List Str} {H : Hp} {d : Deed} {xs : List V} (h : Prt K nl zs r p H d xs) : xs.set (xs.length - 1) (.int (amt12 d)) = xs ∧ 2 ≤ xs.length ∧ xs.length ≤ 4 := by cases h <;> exact ⟨rfl, by simp, by simp⟩
section
variable {P : Program} {w : World} {K : PySem.W.Frag} {mg : Str → Option Value} {base : Heap}
/-! ### _law_spoilt -/
abbrev sLSo : Stmt := topS 41
abbrev nLSo : List Str := ["_law_pot_here", "_law_names_here", "_law_deed", "_law_parts", "_law_at"]
theorem scLSo : FnScope nLSo ["_law_pot_here", "_law_names_here", "_law_deed"] (defScope sLSo) := ⟨rfl, rfl, rfl, by decide +kernel, rfl, by decide +kernel, by decide +kernel⟩
def spLSo (K : PySem.W.Frag) : Sp := fun vs H Q _ => ∃ (p nl : Addr) (zs : List Str) (dd : V) (d : Deed), vs = [.ref p, .ref nl, dd] ∧ Pot H p ∧ nl ≠ p ∧ H nl = some (.lst (zs.map V.str)) ∧ NamesOk zs ∧ Dt K H dd (deedD d) ∧ d.Ok zs ∧ ∀ r xs H', Pot H' p → But p H H' → H r = none → H' r = some (.lst xs) → Spt K H' zs d xs → Q (.ref r) H'
set_option maxHeartbeats 1000000 in
theorem ok_lso {f fT f1 f2 : Addr} {fd fdT fd1 fd2 : FuncData} (F : Fun K "_law_spoilt" "_law_spoilt" sLSo f fd) (B : Blt mg) (B2 : Blt2 mg) (B3 : Blt3 mg) (TK : HasTake P w K mg base fT fdT) (NN : Has P w K mg base 4 "_law_no_name" ["_law_pot_here", "_law_names_here"] (spLNn K) f1 fd1) (NM : Has P w K mg base 2 "_law_no_amount" ["_law_pot_here"] (spLNo12 K) f2 fd2) : FnOk P w K mg base CX0 5 f fd ["_law_pot_here", "_law_names_here", "_law_deed"] (spLSo K) := by
  refine F.ok scLSo (fun vs H Q E h => ?_) (fun cdv Ar outer s H vs Q E0 hr h => ?_)
  · obtain ⟨_, _, _, _, _, rfl, _⟩ := h
    rfl
  · obtain ⟨p, nl, zs, dd, d, rfl, hp, nlp, hnl, nz, hd, od, q⟩ := h
    have hr1 := hr.mono (show 1 ≤ 4 by decide)
    have hr2 := hr.mono (show 2 ≤ 4 by decide)
    refine ⟨_, (pss_cons (ps_set (i := 3) scLSo.nd rfl (.inl rfl) (pe_callTy (call_listS rfl) (by rfl) B3.list (by decide +kernel) (pa_cons (pv 2) pa_nil))) (pss_cons (ps_for PassesOwn.never rfl (pi_range2 (by rfl) B2.range (pa_cons pe_int (pa_cons (pe_op op_sub (pe_callB call_len_seq (by rfl) B.len PySem.boot_len (pa_cons (pv 3) pa_nil)) pe_int) pa_nil))) (pg_name (i := 4) scLSo.nd rfl (.inl rfl)) (pss_one (ps_if (pt_cmpR op_eq (pe_call TK.ok hr1 (by rfl) TK.g TK.kp TK.b .nil pass0 (pa_cons (pv 0) (pa_cons pe_int pa_nil))) pe_int (nomark _)) (pss_one (ps_asg (pe_call NN.ok hr (by rfl) NN.g NN.kp NN.b .nil pass0 (pa_cons (pv 0) (pa_cons (pv 1) pa_nil))) (pg_sub (pv 3) (pv 4) set_list))) pss_nil))) (pss_cons (ps_if (pt_cmpR op_eq (pe_call TK.ok hr1 (by rfl) TK.g TK.kp TK.b .nil pass0 (pa_cons (pv 0) (pa_cons pe_int pa_nil))) pe_int (nomark _)) (pss_one (ps_asg (pe_call NM.ok hr2 (by rfl) NM.g NM.kp NM.b .nil pass0 (pa_cons (pv 0) pa_nil)) (pg_sub (pv 3) (pe_un un_neg pe_int) set_list))) pss_nil) (pss_one (ps_ret (pv 3)))))), ?_⟩
    have hpe : ∀ {G : Hp}, Pot G p → ∃ o, G p = some o := fun h => by
      obtain ⟨_, _, e, _⟩ := h
      exact ⟨_, e⟩
    -- the deed's own parts
    have hx : ∃ t ws, dd = .ref t ∧ SqT K H t ws ∧ ∀ r G, Prt K nl zs r p G d ws := by
      cases d with
      | give z n =>
        obtain ⟨t, ws, rfl, sq, da⟩ := Dt.tup_inv (show Dt K H dd (.tuple [.str "give", .str z, .int n]) from hd)
        cases da with
        | cons a1 b1 =>
          cases b1 with
          | cons a2 b2 =>
            cases b2 with
            | cons a3 b3 =>
              cases a1
              cases a2
              cases a3
              cases b3
              exact ⟨t, _, rfl, sq, fun r G => .give (POk.own (nz.nm z od.1))⟩
      | put z y n =>
        obtain ⟨t, ws, rfl, sq, da⟩ := Dt.tup_inv (show Dt K H dd (.tuple [.str "put", .str z, .str y, .int n]) from hd)
        cases da with
        | cons a1 b1 =>
          cases b1 with
          | cons a2 b2 =>
            cases b2 with
            | cons a3 b3 =>
              cases b3 with
              | cons a4 b4 =>
                cases a1
                cases a2
                cases a3
                cases a4
                cases b4
                exact ⟨t, _, rfl, sq, fun r G => .put (POk.own (nz.nm z od.1)) (POk.own (nz.nm y od.2.1))⟩
    obtain ⟨t, ws, rfl, sq, hws⟩ := hx
    refine ⟨.ref t, rfl, t, _, rfl, .inr sq, fun r nr => ?_⟩
    have rp := hp.ne nr
    have s1 := same_upd (o := .lst ws) nr
    have hr1' : upd H r (.lst ws) r = some (.lst ws) := upd_same
    have hp1 := hp.same s1
    have nlr : nl ≠ r := ne_of_none hnl nr
    generalize upd H r (.lst ws) = H1 at s1 hr1' hp1
    have pr1 := hws r H1
    have pl := pr1.last
    refine ⟨.ref r, rfl, r, _, rfl, .inl (.inl (.inl hr1')), _, _, rfl, rfl, 1, (ws.length : Int) - 1, rfl, ⟨by omega, by omega, by omega, by omega⟩, ?_⟩
    refine for_it walk_range (fun i σ H' => ∃ y4 xs, σ = [some (.ref p), some (.ref nl), some (.ref t), some (.ref r), y4] ∧ Pot H' p ∧ But p H H' ∧ H' r = some (.lst xs) ∧ Prt K nl zs r p H' d xs) ⟨_, ws, rfl, hp1, same_but s1, hr1', pr1⟩ (fun _ _ _ _ _ => trivial) (fun i x σ H2' H2 hi hP hY => ?_) (fun σ H2 hP => ?_)
    · obtain ⟨rfl, rfl⟩ := hY
      obtain ⟨y4, xs, rfl, hp2, b2, hr2', pr2⟩ := hP
      have l2 := pr2.len
      have lw := pr1.len
      have hii : i + 1 < xs.length ∧ i + 1 < xs.length - 1 + 0 := by
        have hi : i < ((ws.length : Int) - 1 - 1).toNat := hi
        rw [l2]
        rw [lw] at hi
        cases d <;> (simp at hi ⊢; omega)
      refine ⟨.ref p, rfl, p, 4, rfl, hp2, litM _ (by decide) (by decide), fun u H3 u0 u1 hp3 b3 => ⟨rfl, _, rfl, ?_⟩⟩
      have b03 := b2.trans b3
      have hr3' := b3 _ _ rp hr2'
      have pr3 := pr2.step (H' := H3) fun c o np _ e => b3 c o np e
      by_cases hu : u = 0
      · rw [show decide (V.int u = V.int 0) = true from decide_eq_true (by rw [hu])]
        refine iteT ⟨.ref p, rfl, .ref nl, rfl, p, nl, zs, rfl, hp3, nlp, b03 _ _ nlp hnl, nz, fun v dv H4 hp4 b4 dw sd so as no => ?_⟩
        have hr4' := b4 _ _ rp hr3'
        refine ⟨.ref r, rfl, .int (1 + i), rfl, r, xs, 1 + (i : Int), i + 1, rfl, rfl, hr4', ?_, ?_⟩
        · unfold ixN
          rw [if_pos (by omega), if_pos (by omega)]
          congr 1
          omega
        have po : POk K nl zs r p "" (upd H4 r (.lst (xs.set (i + 1) v))) v dv := ⟨(PW.of dw (hpe hp3) ⟨_, hr3'⟩).step fun c o _ nr e => (upd_ne nr).trans e, sd, so, as, .inr no⟩
        have pr4 := (pr3.step (H' := H4) fun c o np _ e => b4 c o np e).step (H' := upd H4 r (.lst (xs.set (i + 1) v))) fun c o _ nr e => (upd_ne nr).trans e
        refine ⟨_, _, rfl, ?_, fun c o np e => (upd_ne (ne_of_none e nr)).trans (b4 _ _ np (b03 c o np e)), upd_same, ?_⟩
        · obtain ⟨px, py, pe, pr⟩ := hp4
          exact ⟨px, py, (upd_ne rp.symm).trans pe, pr⟩
        · have any : ∀ z, POk K nl zs r p z (upd H4 r (.lst (xs.set (i + 1) v))) v dv := fun z => ⟨po.w, po.sd, po.so, po.as, .inr no⟩
          generalize upd H4 r (.lst (xs.set (i + 1) v)) = G at any pr4
          cases pr4 with
          | give a =>
            have : i = 0 := by simp at hii; omega
            subst this
            exact .give (any _)
          | put a b =>
            have : i = 0 ∨ i = 1 := by simp at hii; omega
            rcases this with rfl | rfl
            · exact .put (any _) b
            · exact .put a (any _)
      · rw [show decide (V.int u = V.int 0) = false from decide_eq_false fun c => hu (V.int.inj c)]
        exact iteF ⟨_, xs, rfl, hp3, b03, hr3', pr3⟩
    · obtain ⟨y4, xs, rfl, hp2, b2, hr2', pr2⟩ := hP
      obtain ⟨el, l2, l4⟩ := pr2.last
      refine ⟨.ref p, rfl, p, 4, rfl, hp2, litM _ (by decide) (by decide), fun u H3 u0 u1 hp3 b3 => ⟨rfl, _, rfl, ?_⟩⟩
      have b03 := b2.trans b3
      have hr3' := b3 _ _ rp hr2'
      have pr3 := pr2.step (H' := H3) fun c o np _ e => b3 c o np e
      by_cases hu : u = 0
      · rw [show decide (V.int u = V.int 0) = true from decide_eq_true (by rw [hu])]
        refine iteT ⟨.ref p, rfl, p, rfl, hp3, fun v dv H4 hp4 b4 dw sd am => ?_⟩
        have hr4' := b4 _ _ rp hr3'
        have pr4 := (pr3.step (H' := H4) fun c o np _ e => b4 c o np e).step (H' := upd H4 r (.lst (xs.set (xs.length - 1) v))) fun c o _ nr e => (upd_ne nr).trans e
        refine ⟨.ref r, rfl, _, rfl, r, xs, -1, xs.length - 1, rfl, rfl, hr4', ?_, ?_⟩
        · unfold ixN
          rw [if_neg (by omega), if_pos (by omega)]
          congr 1
          omega
        have bG : But p H (upd H4 r (.lst (xs.set (xs.length - 1) v))) := fun c o np e => (upd_ne (ne_of_none e nr)).trans (b4 _ _ np (b03 c o np e))
        have dG : Dt K (upd H4 r (.lst (xs.set (xs.length - 1) v))) v dv := ((PW.of (dw nl zs) (hpe hp3) ⟨_, hr3'⟩).step fun c o _ nr e => (upd_ne nr).trans e) _ (fun _ _ _ _ e => e) (bG _ _ nlp hnl)
        refine ⟨.ref r, rfl, q r _ _ ?_ bG nr upd_same (spt_of pr4 (bG _ _ nlp hnl) dG sd (.inr am))⟩
        obtain ⟨px, py, pe, pr⟩ := hp4
        exact ⟨px, py, (upd_ne rp.symm).trans pe, pr⟩
      · rw [show decide (V.int u = V.int 0) = false from decide_eq_false fun c => hu (V.int.inj c)]
        have sp := spt_of pr3 (b03 _ _ nlp hnl) (.int (amt12 d)) (fun y e => by cases e) (.inl rfl)
        rw [el] at sp
        exact iteF ⟨.ref r, rfl, q r xs H3 hp3 b03 nr hr3' sp⟩
end
end Rc

namespace Rc
open PySem PySem.Spec PyProof.Rows L2 RZ LamX
structure ClsE (K : PySem.W.Frag) (C : Addr) : Prop where
  ha : PySem.W.findIn K (.ref C) "__class__" = some (some (.builtin "object.__class__"))
  hn : PySem.W.specialIn K (.builtin "object.__class__") "__get__" = some (some (.builtin "getset_descriptor.__get__"))
  htk : PySem.W.takesIn K (.builtin "object.__class__") = some true
  hm : PySem.W.mroIn K C (.type "object") = some true
  ne : PySem.W.findIn K (.ref C) "__ne__" = some (some (.builtin "object.__ne__"))
structure G12 (zs : List Str) (D : Md) (c : Nat) : Prop where
  gd : Gd zs D 60
  gc : ∀ g ∈ D.given, g ≤ (c : Int) * 10 ^ 58
  lg : D.given.length = zs.length
  ln : D.notes.length = zs.length
theorem G12.done {zs : List Str} {D : Md} {c : Nat} (h : G12 zs D c) {d : Deed} (od : d.Ok zs) (hc : c + 1 ≤ 60) (hm : (∃ z y n, d = .put z y n) → (D.notes.map List.length).sum < 60) : G12 zs (doneD zs D d) (c + 1) := by
  have mono : ∀ g ∈ D.given, g ≤ ((c + 1 : Nat) : Int) * 10 ^ 58 := fun g hg => Int.le_trans (h.gc g hg) (Int.mul_le_mul_of_nonneg_right (by omega) (by decide))
  cases d with
  | give z n =>
    have hj : zs.idxOf z < D.given.length := by
      rw [h.lg]
      exact List.idxOf_lt_length_of_mem od.1
    obtain ⟨n1, n2⟩ := od.2
    have e : ((c + 1 : Nat) : Int) * 10 ^ 58 = (c : Int) * 10 ^ 58 + 10 ^ 58 := by
      rw [Int.natCast_add, Int.add_mul]
      rfl
    have hmem : D.given.getD (zs.idxOf z) 0 ∈ D.given := by
      rw [List.getD_eq_getElem?_getD, List.getElem?_eq_getElem hj]
      exact List.getElem_mem hj
    have g0 := h.gc _ hmem
    have g1 := (h.gd.gv _ hmem).1
    have new : 0 ≤ D.given.getD (zs.idxOf z) 0 + n ∧ D.given.getD (zs.idxOf z) 0 + n ≤ ((c + 1 : Nat) : Int) * 10 ^ 58 := by
      rw [e]
      exact ⟨by omega, by omega⟩
    have c60 : ((c + 1 : Nat) : Int) * 10 ^ 58 ≤ ((60 : Nat) : Int) * 10 ^ 58 := Int.mul_le_mul_of_nonneg_right (by omega) (by decide)
    refine ⟨⟨h.gd.zf, h.gd.nt, fun g hg => ?_, h.gd.my, h.gd.k1⟩, fun g hg => ?_, by show (D.given.set _ _).length = _; rw [List.length_set]; exact h.lg, h.ln⟩
    · rcases List.mem_or_eq_of_mem_set hg with hg | hg
      · exact h.gd.gv g hg
      · rw [hg]
        exact ⟨new.1, Int.le_trans new.2 c60⟩
    · rcases List.mem_or_eq_of_mem_set hg with hg | hg
      · exact mono g hg
      · rw [hg]
        exact new.2
  | put z y n =>
    have hj : zs.idxOf z < D.notes.length := by
      rw [h.ln]
      exact List.idxOf_lt_length_of_mem od.1
    refine ⟨⟨h.gd.zf, fun l hl m hm => ?_, h.gd.gv, ?_, h.gd.k1⟩, mono, h.lg, by show (D.notes.set _ _).length = _; rw [List.length_set]; exact h.ln⟩
    · rcases List.mem_or_eq_of_mem_set hl with hl | hl
      · exact h.gd.nt l hl m hm
      · rw [hl] at hm
        rcases List.mem_append.mp hm with hm | hm
        · refine h.gd.nt (D.notes.getD (zs.idxOf z) []) ?_ m hm
          rw [List.getD_eq_getElem?_getD, List.getElem?_eq_getElem hj]
          exact List.getElem_mem hj
        · rw [List.mem_singleton.mp hm]
          exact od.2
    · have := sum_set D.notes (zs.idxOf z) (D.notes.getD (zs.idxOf z) [] ++ [(y, n)]) hj
      rw [List.length_append] at this
      have e1 : [(y, n)].length = 1 := rfl
      have := hm ⟨z, y, n, rfl⟩
      show ((D.notes.set _ _).map List.length).sum ≤ 60
      omega
theorem G12.up {zs : List Str} {D : Md} {c k : Nat} (h : G12 zs D c) (l : c ≤ k) : G12 zs D k := ⟨h.gd, fun g hg => Int.le_trans (h.gc g hg) (Int.mul_le_mul_of_nonneg_right (by omega) (by decide)), h.lg, h.ln⟩
theorem step_done {zs : List Str} {D : Md} {d : Deed} : stepM (bkOf zs D) d = bkOf zs (doneD zs D d) := by cases d <;> rfl
/-- what stands -/
def BtN (p : Addr) (m : MdA) (H H' : Hp) : Prop := ∀ c o, c ≠ p → ¬ m.Has c → (∀ ps, o ≠ .tbl ps) → H c = some o → H' c = some o
structure R12 (K : PySem.W.Frag) (C : Addr) (T : List (Addr × Str)) (p : Addr) (m : MdA) (zs : List Str) (H0 : Hp) (b : Addr) (D : Md) (c : Nat) (H : Hp) : Prop where
  pot : Pot H p
  mod : ModelAt K H zs m D
  bk : BookAt K C H b (bkOf zs D)
  nz : NamesOk zs
  g : G12 zs D c
  np : ¬ m.Has p
  t : Tabs T H
  bt : BtN p m H0 H
  kt : KT H0 H
section
variable {K : PySem.W.Frag} {C p b : Addr} {T : List (Addr × Str)} {H0 H H' : Hp} {m : MdA} {zs : List Str} {D : Md} {c : Nat}
theorem R12.same (h : R12 K C T p m zs H0 b D c H) (s : Same H H') : R12 K C T p m zs H0 b D c H' := ⟨h.pot.same s, model_same h.mod s, book_same h.bk s, h.nz, h.g, h.np, h.t.ext s, fun x o n1 n2 n3 e => s _ _ (h.bt x o n1 n2 n3 e), h.kt.trans (kt_same s)⟩
theorem tabs_but12 {G G' : Hp} (t : Tabs T G) (b : But p G G') (hp : Pot G p) : Tabs T G' := fun x hx => by
  obtain ⟨ps, h1, h2, h3⟩ := t x hx
  obtain ⟨u, v, ho, _⟩ := hp
  refine ⟨ps, b _ _ (fun z => ?_) h1, h2, fun pos cv hc => ?_⟩
  · rw [z, ho] at h1
    cases h1
  · obtain ⟨c, e1, e2⟩ := h3 pos cv hc
    refine ⟨c, e1, b _ _ (fun z => ?_) e2⟩
    rw [z, ho] at e2
    unfold CodeO at e2
    cases e2
theorem tabs_foot {G G' : Hp} (t : Tabs T G) (b : ButF m G G') (hM : ModelAt K G zs m D) : Tabs T G' := fun x hx => by
  obtain ⟨ps, h1, h2, h3⟩ := t x hx
  have foot : ∀ {c : Addr}, m.Foot c → (∃ kvs, G c = some (.dK kvs)) ∨ ∃ xs, G c = some (.lst xs) := fun {c} f => by
    rcases f with f | f
    · exact .inl ⟨_, by rw [f]; exact hM.hg⟩
    · obtain ⟨i, hi, e'⟩ := List.getElem_of_mem f
      have hn : i < D.notes.length := by
        rw [hM.ln, ← hM.lr]
        exact hi
      obtain ⟨xs, e1, _⟩ := hM.rows i c _ (by rw [List.getElem?_eq_getElem hi, e']) (List.getElem?_eq_getElem hn)
      exact .inr ⟨xs, e1⟩
  refine ⟨ps, b _ _ (fun f => ?_) h1, h2, fun pos cv hc => ?_⟩
  · rcases foot f with ⟨_, e⟩ | ⟨_, e⟩ <;> rw [e] at h1 <;> cases h1
  · obtain ⟨c, e1, e2⟩ := h3 pos cv hc
    refine ⟨c, e1, b _ _ (fun f => ?_) e2⟩
    unfold CodeO at e2
    rcases foot f with ⟨_, e⟩ | ⟨_, e⟩ <;> rw [e] at e2 <;> cases e2
theorem foot_has12 {x : Addr} (f : m.Foot x) : m.Has x := f.elim (fun e => .inr (.inr (.inl e))) (fun e => .inr (.inr (.inr (.inr (.inr e)))))
theorem mod_some12 {G : Hp} (h : ModelAt K G zs m D) {x : Addr} (hx : m.Has x) : ∃ o, G x = some o := by
  rcases hx with rfl | rfl | rfl | rfl | rfl | f
  · exact ⟨_, h.hm⟩
  · exact ⟨_, h.ho⟩
  · exact ⟨_, h.hg⟩
  · exact ⟨_, h.hf⟩
  · exact ⟨_, h.hn⟩
  · obtain ⟨i, hi, e'⟩ := List.getElem_of_mem f
    have hn : i < D.notes.length := by
      rw [h.ln, ← h.lr]
      exact hi
    obtain ⟨xs, e1, _⟩ := h.rows i x _ (by rw [List.getElem?_eq_getElem hi, e']) (List.getElem?_eq_getElem hn)
    exact ⟨_, e1⟩
theorem R12.draw (h : R12 K C T p m zs H0 b D c H) (hp : Pot H' p) (s : But p H H') : R12 K C T p m zs H0 b D c H' := ⟨hp, model_but h.mod s h.pot h.np, h.bk.keep (s.kpP h.pot), h.nz, h.g, h.np, tabs_but12 h.t s h.pot, fun x o n1 n2 n3 e => s _ _ n1 (h.bt x o n1 n2 n3 e), h.kt.trans (fun x o e t => s x o (fun z => by
  obtain ⟨u, v, ho, _⟩ := h.pot
  rw [z, ho] at e
  cases e
  exact t) e)⟩
theorem R12.ext (h : R12 K C T p m zs H0 b D c H) (s : ExtN H H') (t : Tabs T H') : R12 K C T p m zs H0 b D c H' := by
  have ne : ∀ {x : Addr} {o : HO}, H x = some o → (∀ ps, o ≠ .tbl ps) → H' x = some o := fun e n => s _ _ e n
  obtain ⟨u, v, ho, r⟩ := h.pot
  have hM := h.mod
  refine ⟨⟨u, v, ne ho (by intro ps z; cases z), r⟩, { hM with hm := ne hM.hm (by intro ps z; cases z), ho := ne hM.ho (by intro ps z; cases z), hg := ne hM.hg (by intro ps z; cases z), hf := ne hM.hf (by intro ps z; cases z), hn := ne hM.hn (by intro ps z; cases z), rows := fun i r l e1 e2 => ?_ }, book_ext34 h.bk s, h.nz, h.g, h.np, t, fun x o n1 n2 n3 e => ne (h.bt x o n1 n2 n3 e) n3, h.kt.trans (ext_kt s)⟩
  obtain ⟨xs, e3, d3⟩ := hM.rows i r l e1 e2
  exact ⟨xs, ne e3 (by intro ps z; cases z), DtAll.keepT (ext_kt s) _ (tup_notes l) d3⟩
end
section
variable {P : Program} {w : World} {K : PySem.W.Frag} {mg : Str → Option Value} {base : Heap}
/-! ### _law_right -/
abbrev sLRt : Stmt := topS 42
abbrev nLRt : List Str := ["_law_pot_here", "_law_book", "_law_model_here", "_law_names_here", "_law_deed", "_law_thing", "_law_told_here", "_law_wanted_here"]
theorem scLRt : FnScope nLRt ["_law_pot_here", "_law_book", "_law_model_here"] (defScope sLRt) := ⟨rfl, rfl, rfl, by decide +kernel, rfl, by decide +kernel, by decide +kernel⟩
def spLRt12 (K : PySem.W.Frag) (C : Addr) (T : List (Addr × Str)) : Sp := fun vs H Q _ => ∃ (p b : Addr) (m : MdA) (zs : List Str) (D : Md) (c : Nat), vs = [.ref p, .ref b, .ref m.m] ∧ R12 K C T p m zs H b D c H ∧ c ≤ 10 ∧ ∀ H', BtN p m H H' → Tabs T H' → Q (.bl true) H'
set_option maxHeartbeats 4000000 in
theorem ok_lrt12 {f fT f1 f2 f3 f4 f5 C : Addr} {fd fdT fd1 fd2 fd3 fd4 fd5 : FuncData} {T : List (Addr × Str)} (F : Fun K "_law_right" "_law_right" sLRt f fd) (T' : ClsF K C) (TE : ClsE K C) (gC : mg "Book" = some (.ref C)) (B : Blt mg) (TK : HasTake P w K mg base fT fdT)
    (DS : Has P w K mg base 3 "_law_deeds" ["_law_pot_here", "_law_names_here", "_law_many", "_law_size"] (spLDs K) f1 fd1) (SO : Has P w K mg base 5 "_law_spoilt" ["_law_pot_here", "_law_names_here", "_law_deed"] (spLSo K) f2 fd2)
    (AS : HasG P w K mg base 10 "_law_asked" ["_law_book", "_law_model_here", "_law_deed"] (spLAs K C T) f3 fd3) (AL : HasG P w K mg base 6 "_law_alike" ["_law_model_here", "_law_book"] (spLAl K C) f4 fd4) (DN : Has P w K mg base 1 "_law_done" ["_law_model_here", "_law_deed"] (spLDn K) f5 fd5) :
    FnG P w K mg base CX0 11 f fd ["_law_pot_here", "_law_book", "_law_model_here"] (spLRt12 K C T) := by
  refine okG0 F scLRt (fun vs H Q E h => ?_) (fun cdv Ar outer s H vs Q E hr hgd h => ?_)
  · obtain ⟨_, _, _, _, _, _, rfl, _⟩ := h
    rfl
  · obtain ⟨p, b, m, zs, D, c, rfl, st, c10, q⟩ := h
    have hu := hu_of hr
    have hr1 := hr.mono (show 1 ≤ 10 by decide)
    have hr3 := hr.mono (show 3 ≤ 10 by decide)
    have hr5 := hr.mono (show 5 ≤ 10 by decide)
    have hr6 := hr.mono (show 6 ≤ 10 by decide)
    refine ⟨_, (pss_cons (ps_set (i := 3) scLRt.nd rfl (.inl rfl) (pe_dget hu (pv 2) pe_str (fun _ _ => rfl))) (pss_cons (ps_for PassesOwn.never rfl (pi_list (pe_call DS.ok hr3 (by rfl) DS.g DS.kp DS.b .nil pass0 (pa_cons (pv 0) (pa_cons (pv 3) (pa_cons (pe_call TK.ok hr1 (by rfl) TK.g TK.kp TK.b .nil pass0 (pa_cons (pv 0) (pa_cons pe_int pa_nil))) (pa_cons pe_int pa_nil)))))) (pg_name (i := 4) scLRt.nd rfl (.inl rfl)) (pss_cons (ps_set (i := 5) scLRt.nd rfl (.inl rfl) (pe_call SO.ok hr5 (by rfl) SO.g SO.kp SO.b .nil pass0 (pa_cons (pv 0) (pa_cons (pv 3) (pa_cons (pv 4) pa_nil))))) (pss_cons (ps_asg (pe_callG AS.ok hr hgd (by rfl) AS.g AS.kp AS.b .nil pass0 (pa_cons (pv 1) (pa_cons (pv 2) (pa_cons (pv 5) pa_nil)))) (pg_tup rfl (pgs_cons (pg_name (i := 6) scLRt.nd rfl (.inl rfl)) (pgs_cons (pg_name (i := 7) scLRt.nd rfl (.inl rfl)) pgs_nil)))) (pss_cons (ps_if (pt_not (pt_val (pe_callG AL.ok hr6 hgd (by rfl) AL.g AL.kp AL.b .nil pass0 (pa_cons (pv 2) (pa_cons (pv 1) pa_nil))))) (pss_one (ps_ret pe_bl)) pss_nil) (pss_cons (ps_if (PW.pt (pw_or (PW.pt (pw_and (pt_cmpR op_notN (pv 7) pe_non (nomark _)) (pw_and1 (pt_cmpR (op_neD hr.units) (pv 6) (pv 7) (nomark _))))) (pw_or1 (PW.pt (pw_and (pt_cmpR op_isN (pv 7) pe_non (nomark _)) (pw_and1 (pt_not (pt_val (pe_callB call_isi (by rfl) B.isi (by decide +kernel) (pa_cons (pv 6) (pa_cons (pe_glob (v := .ref C) (by rfl) gC rfl) pa_nil))))))))))) (pss_one (ps_ret pe_bl)) pss_nil) (pss_one (ps_if (pt_cmpR op_isN (pv 7) pe_non (nomark _)) (pss_cons (ps_set (i := 1) scLRt.nd rfl (.inl rfl) (pv 6)) (pss_one (ps_expr (pe_call DN.ok hr1 (by rfl) DN.g DN.kp DN.b .nil pass0 (pa_cons (pv 2) (pa_cons (pv 4) pa_nil)))))) pss_nil))))))) (pss_one (ps_ret (pe_callG AL.ok hr6 hgd (by rfl) AL.g AL.kp AL.b .nil pass0 (pa_cons (pv 2) (pa_cons (pv 1) pa_nil))))))), ?_⟩
    have nz := st.nz
    have n0 := nz.n0
    have n1 := nz.n1
    have kt : PySem.W.kitOne K (.ref C) (.ref C) = some true := by
      unfold PySem.W.kitOne
      rw [if_pos (by simp)]
    have lop : m.lo ≠ p := fun z => st.np (z ▸ .inr (.inl rfl))
    refine ⟨.ref m.m, rfl, m.m, .ref m.lo, rfl, st.mod.g0, ?_⟩
    refine ⟨.ref p, rfl, .ref m.lo, rfl, .ref p, rfl, p, 13, rfl, st.pot, litM _ (by decide) (by decide), fun u H1 u0 u1 hp1 b1 => ?_⟩
    have st1 := st.draw hp1 b1
    obtain ⟨un, rfl⟩ : ∃ un : Nat, u = (un : Nat) := ⟨u.toNat, by omega⟩
    refine ⟨p, m.lo, zs, un, 1, rfl, .inr rfl, st1.pot, lop, st1.mod.ho, n0, by omega, by omega, fun dl xs ds H2 ndl dlp hdl dd lds ods hp2 b2 => ?_⟩
    have st2 := st1.draw hp2 b2
    have ndm : ¬ m.Has dl := fun h => by
      obtain ⟨o, e⟩ := mod_some12 st1.mod h
      rw [e] at ndl
      cases ndl
    have lx : xs.length = ds.length := by
      rw [dd.len]
      unfold deedsD
      rw [List.length_map]
    refine ⟨dl, rfl, ⟨_, .inl (.inl hdl)⟩, ?_⟩
    refine for_it (walk_list (K := K) (a := dl) (xs := xs)) (fun i σ H' => ∃ b D y4 y5 y6 y7, σ = [some (.ref p), some (.ref b), some (.ref m.m), some (.ref m.lo), y4, y5, y6, y7] ∧ R12 K C T p m zs H b D (10 + i) H' ∧ H' dl = some (.lst xs) ∧ KT H2 H') ⟨_, _, _, _, _, _, rfl, ⟨st2.pot, st2.mod, st2.bk, st2.nz, st2.g.up (by omega), st2.np, st2.t, st2.bt, st2.kt⟩, hdl, fun _ _ e _ => e⟩ (fun i σ H' _ hP => ?_) (fun i x σ H3' H3 hi hP hY => ?_) (fun σ H3 hP => ?_)
    · obtain ⟨_, _, _, _, _, _, _, _, h, _⟩ := hP
      exact .inl (.inl h)
    · obtain ⟨rfl, hx⟩ := hY
      obtain ⟨b, D, y4, y5, y6, y7, rfl, st3, hdl3, kt3⟩ := hP
      have hid : i < ds.length := by omega
      have od := ods _ (List.getElem_mem hid)
      obtain ⟨v', gx, dx0⟩ := dd.get (n := i) (d := deedD ds[i]) (map_get (List.getElem?_eq_getElem hid))
      rw [hx] at gx
      cases gx
      have dx3 : Dt K H3 x (deedD ds[i]) := Dt.keepT kt3 _ (tup_deed _) dx0
      generalize ds[i] = d at od dx0 dx3
      refine ⟨.ref p, rfl, .ref m.lo, rfl, x, rfl, p, m.lo, zs, x, d, rfl, st3.pot, lop, st3.mod.ho, nz, dx3, od, fun r ys H4 hp4 b4 nr hr4 spt => ?_⟩
      have st4 := st3.draw hp4 b4
      have hdl4 := b4 _ _ dlp hdl3
      have ktb : ∀ {G G' : Hp}, Pot G p → But p G G' → KT G G' := fun hp b c o e t => b c o (fun z => by
        obtain ⟨u, v, ho, _⟩ := hp
        rw [z, ho] at e
        cases e
        exact t) e
      have kt4 := kt3.trans (ktb st3.pot b4)
      obtain ⟨v, u, a, dv, du, da, isg, prt, hv, hu1, ha, shv, shu, sha, sv, su, av, au, isd⟩ := spt.ex
      refine ⟨.ref b, rfl, .ref m.m, rfl, .ref r, rfl, b, r, m, zs, D, v, u, a, dv, du, da, ys, isg, rfl, hr4, prt, st4.mod, st4.bk, nz, st4.g.gd, st4.g.lg, st4.g.ln, hv, hu1, ha, shv, shu, sha, sv, su, av, au, st4.t, fun Tt H5 tv wv e5 t5 hTt alt => ?_⟩
      have st5 := st4.ext e5 t5
      have hdl5 := e5 _ _ hdl4 (by intro ps z; cases z)
      have kt5 := kt4.trans (ext_kt e5)
      refine ⟨Tt, _, rfl, .inl (.inl hTt), rfl, _, _, rfl, _, _, rfl, rfl, ?_⟩
      refine ⟨.ref m.m, rfl, .ref b, rfl, m, D, zs, b, 60, rfl, st5.mod, st5.bk, nz, st5.g.gd, fun H6 s6 => ⟨_, rfl, iteF ?_⟩⟩
      have st6 := st5.same s6
      have hdl6 := s6 _ _ hdl5
      have kt6 := kt5.trans (kt_same s6)
      rcases alt with ⟨d', b', rfl, rfl, did, hm, hb'⟩ | ⟨r1, r2, l, rfl, rfl, al, h1, h2⟩
      · have ed := isd d' did
        subst ed
        have hb6 := book_same hb' s6
        rw [step_done] at hb6
        obtain ⟨dx, tn, on, wg, ws, wd, e, _⟩ := hb6.ex
        refine ⟨.non, rfl, rfl, _, rfl, iteF ?_⟩
        refine ⟨.non, rfl, rfl, _, rfl, iteT ⟨.ref b', rfl, .ref b', .ref C, .ref C, .ref C, true, rfl, .own C, .base (.ins e T'.cl TE.ha TE.hn TE.htk TE.hm), kt, _, rfl, iteF ?_⟩⟩
        refine ⟨.non, rfl, rfl, _, rfl, iteT ⟨.ref b', rfl, ?_⟩⟩
        refine ⟨.ref m.m, rfl, x, rfl, m, D, zs, x, d', rfl, st6.mod, Dt.keepT (kt6) _ (tup_deed _) dx0, od, by omega, st6.g.gd.rows, fun H7 bf7 hM7 => ?_⟩
        have g7 := st6.g.done od (by omega) fun ⟨z, y, n, ez⟩ => by
          subst ez
          cases did with
          | put _ _ _ _ _ _ => exact hm rfl
        refine ⟨_, _, _, _, _, _, rfl, ⟨?_, hM7, hb6.keep (bf7.kp st6.mod), nz, g7.up (by omega), st6.np, tabs_foot st6.t bf7 st6.mod, fun c o n1 n2 n3 e => bf7 c o (fun f => n2 (foot_has12 f)) (st6.bt c o n1 n2 n3 e), st6.kt.trans (bf7.kt st6.mod)⟩, bf7 _ _ (fun f => ndm (foot_has12 f)) hdl6, kt6.trans (bf7.kt st6.mod)⟩
        obtain ⟨px, py, pe, pr⟩ := st6.pot
        exact ⟨px, py, bf7 _ _ (fun f => st6.np (foot_has12 f)) pe, pr⟩
      · have h16 := s6 _ _ h1
        have h26 := s6 _ _ h2
        refine ⟨.ref r2, rfl, rfl, _, rfl, iteT ⟨.ref r1, rfl, .ref r2, rfl, _, _, strs_dp12 h16, strs_dp12 h26, shaped12 al, shaped12 al, _, rfl, ?_⟩⟩
        rw [list_self12]
        refine iteF ⟨.ref r2, rfl, rfl, _, rfl, iteF ?_⟩
        refine iteF ⟨.ref r2, rfl, rfl, _, rfl, iteF ?_⟩
        exact ⟨_, _, _, _, _, _, rfl, ⟨st6.pot, st6.mod, st6.bk, nz, st6.g.up (by omega), st6.np, st6.t, st6.bt, st6.kt⟩, hdl6, kt6⟩
    · obtain ⟨b, D, y4, y5, y6, y7, rfl, st3, hdl3, kt3⟩ := hP
      refine ⟨.ref m.m, rfl, .ref b, rfl, m, D, zs, b, 60, rfl, st3.mod, st3.bk, nz, st3.g.gd, fun H6 s6 => ?_⟩
      exact q H6 (st3.same s6).bt (st3.same s6).t
end
end Rc

namespace Rc
open PySem PySem.Spec PyProof.Rows L2 RZ LamX
/-! ### a heap behind another, with tables of code -/
structure Wd (T : List (Addr × Str)) (H G : Hp) : Prop where
  e : ExtN H G
  t : Tabs T G
/-- new, or a table -/
def Nw (H : Hp) (p : Addr) : Prop := H p = none ∨ ∃ ps, H p = some (.tbl ps)
section
variable {T : List (Addr × Str)} {H G G' : Hp} {p : Addr}
theorem Nw.ne (n : Nw H p) {c : Addr} {o : HO} (h : H c = some o) (t : ∀ ps, o ≠ .tbl ps) : c ≠ p := fun z => by
  rcases n with n | ⟨ps, n⟩
  · rw [z, n] at h
    cases h
  · rw [z, n] at h
    exact t ps (Option.some.inj h).symm
theorem Wd.same (w : Wd T H G) (s : Same G G') : Wd T H G' := ⟨w.e.trans (ExtN.of s), w.t.ext s⟩
theorem Wd.ext (w : Wd T H G) (s : ExtN G G') (t : Tabs T G') : Wd T H G' := ⟨w.e.trans s, t⟩
theorem Wd.nw (w : Wd T H G) (n : G p = none) : Nw H p := ExtN.free w.e n
theorem Wd.nwN (w : Wd T H G) (n : Nw G p) : Nw H p := by
  cases z : H p with
  | none => exact .inl z
  | some o =>
    by_cases t : ∃ ps, o = .tbl ps
    · obtain ⟨ps, rfl⟩ := t
      exact .inr ⟨ps, z⟩
    · have := w.e p o z fun ps y => t ⟨ps, y⟩
      exact absurd rfl (n.ne this fun ps y => t ⟨ps, y⟩)
theorem tabs_but (t : Tabs T G) (b : But p G G') (hp : ∃ o, G p = some o ∧ (∀ ps, o ≠ .tbl ps) ∧ ∀ c q, o ≠ CodeO c q) : Tabs T G' := fun x hx => by
  obtain ⟨ps, h1, h2, h3⟩ := t x hx
  obtain ⟨o, ho, n1, n2⟩ := hp
  refine ⟨ps, b _ _ (fun z => ?_) h1, h2, fun pos cv hc => ?_⟩
  · rw [z, ho] at h1
    exact n1 ps (Option.some.inj h1)
  · obtain ⟨c, e1, e2⟩ := h3 pos cv hc
    refine ⟨c, e1, b _ _ (fun z => ?_) e2⟩
    rw [z, ho] at e2
    exact n2 _ _ (Option.some.inj e2)
theorem lst_code {xs : List V} (c : Addr) (q : Str) : HO.lst xs ≠ CodeO c q := fun z => by
  unfold CodeO at z
  cases z
theorem dK_code {xs : List (Key × V)} (c : Addr) (q : Str) : HO.dK xs ≠ CodeO c q := fun z => by
  unfold CodeO at z
  cases z
theorem Wd.but (w : Wd T H G) (b : But p G G') (hp : Pot G p) (n : Nw H p) : Wd T H G' := by
  obtain ⟨x, y, e, _⟩ := hp
  exact ⟨fun c o h t => b c o (n.ne h t) (w.e c o h t), tabs_but w.t b ⟨_, e, (by intro ps z; cases z), lst_code⟩⟩
theorem Wd.butD (w : Wd T H G) {m : List (Key × V)} (b : But p G G') (hp : G p = some (.dK m)) (n : Nw H p) : Wd T H G' :=
  ⟨fun c o h t => b c o (n.ne h t) (w.e c o h t), tabs_but w.t b ⟨_, hp, (by intro ps z; cases z), dK_code⟩⟩
theorem Pot.ext {H H' : Hp} (h : Pot H p) (e : ExtN H H') : Pot H' p := by
  obtain ⟨x, y, h1, h2⟩ := h
  exact ⟨x, y, e _ _ h1 (by intro ps z; cases z), h2⟩
theorem sql_ext {K : PySem.W.Frag} {H H' : Hp} {a : Addr} {xs : List V} (h : SqL K H a xs) (e : ExtN H H') : SqL K H' a xs := by
  rcases h with (h | ⟨o, h⟩) | h
  · exact .inl (.inl (e _ _ h (by intro ps z; cases z)))
  · exact .inl (.inr ⟨o, e _ _ h (by intro ps z; cases z)⟩)
  · exact .inr h
end
theorem model_ext {K : PySem.W.Frag} {H H' : Hp} {zs : List Str} {a : MdA} {D : Md} (h : ModelAt K H zs a D) (s : ExtN H H') : ModelAt K H' zs a D :=
  { h with
    hm := s _ _ h.hm (by intro ps z; cases z)
    ho := s _ _ h.ho (by intro ps z; cases z)
    hg := s _ _ h.hg (by intro ps z; cases z)
    hf := s _ _ h.hf (by intro ps z; cases z)
    hn := s _ _ h.hn (by intro ps z; cases z)
    rows := fun i r l a1 a2 => by
      obtain ⟨xs, x1, x2⟩ := h.rows i r l a1 a2
      exact ⟨xs, s _ _ x1 (by intro ps z; cases z), DtAll.keepT (ext_kt s) _ (tup_notes _) x2⟩ }
theorem md_lens' (zs : List Str) (ds : List Deed) : (mdAt zs ds).given.length = zs.length ∧ (mdAt zs ds).notes.length = zs.length := by
  have h : ∀ (ds : List Deed) (D : Md), (ds.foldl (doneD zs) D).given.length = D.given.length ∧ (ds.foldl (doneD zs) D).notes.length = D.notes.length := fun ds => by
    induction ds with
    | nil => exact fun D => ⟨rfl, rfl⟩
    | cons d r ih =>
      intro D
      obtain ⟨a, b⟩ := ih (doneD zs D d)
      obtain ⟨c, e⟩ := done_lens zs D d
      exact ⟨a.trans c, b.trans e⟩
  obtain ⟨a, b⟩ := h ds (newMd zs.length)
  exact ⟨a.trans List.length_replicate, b.trans List.length_replicate⟩
/-- a law that reaches tables of code -/
def spLawT (K : PySem.W.Frag) (T : List (Addr × Str)) : Sp := fun vs H Q _ => ∃ (a : Addr) (ns : List Int), vs = [.ref a] ∧ SqL K H a (ns.map V.int) ∧ ns.length ≤ 63 ∧ Tabs T H ∧ ∀ H', Q (.bl true) H'
end Rc

namespace Rc
open PySem PySem.Spec PyProof.Rows L2 RZ LamX
def isPut : Deed → Bool
  | .put .. => true
  | .give .. => false
def isGive : Deed → Bool
  | .put .. => false
  | .give .. => true
theorem G12.put {zs : List Str} {D : Md} {c : Nat} (h : G12 zs D c) {z y : Str} {n : Int} (od : (Deed.put z y n).Ok zs) (hm : (D.notes.map List.length).sum < 60) : G12 zs (doneD zs D (.put z y n)) c ∧ ((doneD zs D (.put z y n)).notes.map List.length).sum ≤ (D.notes.map List.length).sum + 1 := by
  have hj : zs.idxOf z < D.notes.length := by
    rw [h.ln]
    exact List.idxOf_lt_length_of_mem od.1
  have e := sum_set D.notes (zs.idxOf z) (D.notes.getD (zs.idxOf z) [] ++ [(y, n)]) hj
  rw [List.length_append] at e
  have e1 : [(y, n)].length = 1 := rfl
  have le : ((doneD zs D (.put z y n)).notes.map List.length).sum ≤ (D.notes.map List.length).sum + 1 := by
    show ((D.notes.set _ _).map List.length).sum ≤ _
    omega
  refine ⟨⟨⟨h.gd.zf, fun l hl m hm => ?_, h.gd.gv, by omega, h.gd.k1⟩, h.gc, h.lg, by show (D.notes.set _ _).length = _; rw [List.length_set]; exact h.ln⟩, le⟩
  rcases List.mem_or_eq_of_mem_set hl with hl | hl
  · exact h.gd.nt l hl m hm
  · rw [hl] at hm
    rcases List.mem_append.mp hm with hm | hm
    · refine h.gd.nt (D.notes.getD (zs.idxOf z) []) ?_ m hm
      rw [List.getD_eq_getElem?_getD, List.getElem?_eq_getElem hj]
      exact List.getElem_mem hj
    · rw [List.mem_singleton.mp hm]
      exact od.2
theorem fold_good {zs : List Str} : ∀ (ds : List Deed) (D : Md) (c k : Nat), G12 zs D c → (D.notes.map List.length).sum ≤ k → (∀ d ∈ ds, d.Ok zs) → k + ds.countP isPut ≤ 60 → c + ds.countP isGive ≤ 60 →
    G12 zs (ds.foldl (doneD zs) D) (c + ds.countP isGive) ∧ ((ds.foldl (doneD zs) D).notes.map List.length).sum ≤ k + ds.countP isPut
  | [], _, _, _, g, h, _, _, _ => ⟨g, h⟩
  | .give z n :: r, D, c, k, g, h, od, hk, hc => by
    have e1 : (Deed.give z n :: r).countP isPut = r.countP isPut := List.countP_cons_of_neg (by simp [isPut])
    have e2 : (Deed.give z n :: r).countP isGive = r.countP isGive + 1 := List.countP_cons_of_pos (by rfl)
    rw [e1] at hk ⊢
    rw [e2] at hc ⊢
    have g1 := g.done (d := .give z n) (od _ List.mem_cons_self) (by omega) fun ⟨_, _, _, e⟩ => by cases e
    obtain ⟨a, b⟩ := fold_good r (doneD zs D (.give z n)) (c + 1) k g1 h (fun d hd => od d (List.mem_cons_of_mem _ hd)) hk (by omega)
    exact ⟨by rw [show c + (r.countP isGive + 1) = c + 1 + r.countP isGive by omega]; exact a, b⟩
  | .put z y n :: r, D, c, k, g, h, od, hk, hc => by
    have e1 : (Deed.put z y n :: r).countP isPut = r.countP isPut + 1 := List.countP_cons_of_pos (by rfl)
    have e2 : (Deed.put z y n :: r).countP isGive = r.countP isGive := List.countP_cons_of_neg (by simp [isGive])
    rw [e1] at hk ⊢
    rw [e2] at hc ⊢
    obtain ⟨g1, l1⟩ := g.put (od _ List.mem_cons_self) (by omega)
    obtain ⟨a, b⟩ := fold_good r (doneD zs D (.put z y n)) c (k + 1) g1 (by omega) (fun d hd => od d (List.mem_cons_of_mem _ hd)) (by omega) hc
    exact ⟨a, by rw [show k + (r.countP isPut + 1) = k + 1 + r.countP isPut by omega]; exact b⟩
theorem G12.new {zs : List Str} : G12 zs (newMd zs.length) 0 := by
  have h := Gd.new (zs := zs)
  refine ⟨⟨h.zf, h.nt, fun g hg => ?_, by have := h.my; omega, by omega⟩, fun g hg => (h.gv g hg).2, List.length_replicate, List.length_replicate⟩
  obtain ⟨a, b⟩ := h.gv g hg
  exact ⟨a, Int.le_trans b (Int.mul_le_mul_of_nonneg_right (by omega) (by decide))⟩
theorem notes0 (n : Nat) : ((newMd n).notes.map List.length).sum = 0 := by
  have := (Gd.new (zs := List.replicate n Str.empty)).my
  rw [List.length_replicate] at this
  omega
section
variable {P : Program} {w : World} {K : PySem.W.Frag} {mg : Str → Option Value} {base : Heap}
/-! ### _law_booked -/
abbrev sLBk : Stmt := topS 34
theorem scLBk : FnScope ["_law_book", "_law_deeds_here", "_law_deed"] ["_law_book", "_law_deeds_here"] (defScope sLBk) := ⟨rfl, rfl, rfl, by decide +kernel, rfl, by decide +kernel, by decide +kernel⟩
def spLBk12 (K : PySem.W.Frag) (C : Addr) : Sp := fun vs H Q _ => ∃ (b dl : Addr) (xs : List V) (ds : List Deed) (zs : List Str), vs = [.ref b, .ref dl] ∧ BookAt K C H b (bkOf zs (newMd zs.length)) ∧ NamesOk zs ∧ H dl = some (.lst xs) ∧ DtAll K H xs (deedsD ds) ∧ (∀ d ∈ ds, d.Ok zs) ∧ ds.countP isPut ≤ 60 ∧ ds.countP isGive ≤ 60 ∧
  ∀ b' H', Same H H' → BookAt K C H' b' (bkOf zs (ds.foldl (doneD zs) (newMd zs.length))) → Q (.ref b') H'
theorem ok_lbk12 {f f1 f2 C : Addr} {fd fd1 fd2 : FuncData} (F : Fun K "_law_booked" "_law_booked" sLBk f fd) (T : ClsF K C) (GV : HasM P w K mg base C 6 "give" ["self", "who", "amount"] (spGive K C) f1 fd1) (PU : HasM P w K mg base C 6 "put" ["self", "who", "to", "amount"] (spPut K C) f2 fd2) :
    FnOk P w K mg base CX0 7 f fd ["_law_book", "_law_deeds_here"] (spLBk12 K C) := by
  refine F.ok scLBk (fun vs H Q E h => ?_) (fun cdv Ar outer s H vs Q E hr h => ?_)
  · obtain ⟨_, _, _, _, _, rfl, _⟩ := h
    rfl
  · obtain ⟨b, dl, xs, ds, zs, rfl, hb, nz, hl, hd, od, hP60, hG60, q⟩ := h
    refine ⟨_, pss_cons (ps_for PassesOwn.never rfl (pi_list (pv 1)) (pg_name (i := 2) scLBk.nd rfl (.inl rfl))
      (pss_one (ps_set (i := 0) scLBk.nd rfl (.inl rfl) (pe_ifExp (pt_cmpR op_eq (pe_ix ix_tupD (pv 2) pe_int (fun _ _ => rfl)) pe_str (nomark _))
        (pe_meth (pv 0) T.cl GV.m GV.ok hr GV.b .nil pass0 (pa_cons (pe_ix ix_tupD (pv 2) pe_int (fun _ _ => rfl)) (pa_cons (pe_ix ix_tupD (pv 2) pe_int (fun _ _ => rfl)) pa_nil)))
        (pe_meth (pv 0) T.cl PU.m PU.ok hr PU.b .nil pass0 (pa_cons (pe_ix ix_tupD (pv 2) pe_int (fun _ _ => rfl)) (pa_cons (pe_ix ix_tupD (pv 2) pe_int (fun _ _ => rfl)) (pa_cons (pe_ix ix_tupD (pv 2) pe_int (fun _ _ => rfl)) pa_nil))))))))
      (pss_one (ps_ret (pv 0))), ?_⟩
    have lx : xs.length = ds.length := by
      rw [hd.len]
      unfold deedsD
      rw [List.length_map]
    refine ⟨.ref dl, rfl, dl, rfl, ⟨_, .inl (.inl hl)⟩, ?_⟩
    refine for_it (walk_list (K := K) (a := dl) (xs := xs)) (fun i σ H' => ∃ b' y2, σ = [some (.ref b'), some (.ref dl), y2] ∧ Same H H' ∧ BookAt K C H' b' (bkOf zs ((ds.take i).foldl (doneD zs) (newMd zs.length)))) ⟨b, _, rfl, Same.refl _, hb⟩ (fun i σ H' _ hP => ?_) (fun i x σ H1' H1 hi hP hY => ?_) (fun σ H' hP => ?_)
    · obtain ⟨_, _, _, s1, _⟩ := hP
      exact .inl (.inl (s1 _ _ hl))
    · obtain ⟨rfl, hx⟩ := hY
      obtain ⟨b', y2, rfl, s1, hb1⟩ := hP
      have hid : i < ds.length := by omega
      have hsub := List.take_sublist (i + 1) ds
      have c1 := hsub.countP_le (p := isPut)
      have c2 := hsub.countP_le (p := isGive)
      have tk := take_succ hid
      have ek1 : (ds.take (i + 1)).countP isPut = (ds.take i).countP isPut + [ds[i]].countP isPut := by rw [tk, List.countP_append]
      have ek2 : (ds.take (i + 1)).countP isGive = (ds.take i).countP isGive + [ds[i]].countP isGive := by rw [tk, List.countP_append]
      obtain ⟨g1, m1⟩ := fold_good (ds.take i) (newMd zs.length) 0 0 G12.new (by rw [notes0]; omega) (fun d hd => od d (List.mem_of_mem_take hd)) (by omega) (by omega)
      have okM := g1.gd.ok nz g1.lg g1.ln
      have oki := od _ (List.getElem_mem hid)
      obtain ⟨v', gx, d1⟩ := (DtAll.same s1 _ hd).get (n := i) (d := deedD ds[i]) (map_get (List.getElem?_eq_getElem hid))
      rw [hx] at gx
      cases gx
      have ef : (ds.take (i + 1)).foldl (doneD zs) (newMd zs.length) = doneD zs ((ds.take i).foldl (doneD zs) (newMd zs.length)) ds[i] := by
        rw [tk, List.foldl_append]
        rfl
      rw [ef]
      obtain ⟨dx, tn, on, wg, ws, wd, e, _⟩ := hb1.ex
      cases hdd : ds[i] with
      | give z n =>
        rw [hdd] at d1 oki
        refine ⟨x, rfl, _, 0, .str "give", d1, rfl, rfl, fun v0 d0 => ?_⟩
        cases d0
        refine ⟨rfl, _, rfl, ?_⟩
        rw [decide_eq_true rfl]
        refine iteT ⟨.ref b', rfl, b', dx, _, rfl, e, bf_no (NoF.mk' (by decide +kernel)), x, rfl, _, 1, .str z, d1, rfl, rfl, fun v1 d1' => ?_⟩
        cases d1'
        refine ⟨x, rfl, _, 2, .int n, d1, rfl, rfl, fun v2 d2 => ?_⟩
        cases d2
        refine ⟨b', _, z, zs.idxOf z, n, rfl, hb1, okM, idx_get oki.1, oki.2.1, fun b2 H2 s2 _ hb2 => ⟨b2, _, rfl, s1.trans s2, ?_⟩⟩
        exact hb2
      | put z y n =>
        rw [hdd] at d1 oki ek1
        refine ⟨x, rfl, _, 0, .str "put", d1, rfl, rfl, fun v0 d0 => ?_⟩
        cases d0
        refine ⟨rfl, _, rfl, ?_⟩
        rw [decide_eq_false give_ne_put]
        refine iteF ⟨.ref b', rfl, b', dx, _, rfl, e, bf_no (NoF.mk' (by decide +kernel)), x, rfl, _, 1, .str z, d1, rfl, rfl, fun v1 d1' => ?_⟩
        cases d1'
        refine ⟨x, rfl, _, 2, .str y, d1, rfl, rfl, fun v2 d2 => ?_⟩
        cases d2
        refine ⟨x, rfl, _, 3, .int n, d1, rfl, rfl, fun v3 d3 => ?_⟩
        cases d3
        have e60 : [Deed.put z y n].countP isPut = 1 := rfl
        refine ⟨b', _, z, y, zs.idxOf z, zs.idxOf y, n, rfl, hb1, okM, idx_get oki.1, idx_get oki.2.1, oki.2.2.1, ?_, fun b2 H2 s2 _ hb2 => ⟨b2, _, rfl, s1.trans s2, ?_⟩⟩
        · show (((ds.take i).foldl (doneD zs) (newMd zs.length)).notes.map List.length).sum < 60
          omega
        · exact hb2
    · obtain ⟨b', y2, rfl, s1, hb1⟩ := hP
      rw [lx, List.take_length] at hb1
      exact ⟨.ref b', rfl, q b' H' s1 hb1⟩
/-! ### law -/
abbrev sLaw : Stmt := topS 43
abbrev nLaw : List Str := ["_law_script", "_law_k", "_law_pot_here", "_law_kind", "_law_names_here", "_law_model_here", "_law_many", "_law_deeds_here", "_law_j", "_law_deed"]
theorem scLaw : FnScope nLaw ["_law_script"] (defScope sLaw) := ⟨rfl, rfl, rfl, by decide +kernel, rfl, by decide +kernel, by decide +kernel⟩
set_option maxHeartbeats 4000000 in
theorem ok_law {f fP fT fA f1 f2 f3 f4 f5 f6 fI C : Addr} {fd fdP fdT fdA fd1 fd2 fd3 fd4 fd5 fd6 fdI : FuncData} {T : List (Addr × Str)} (F : Fun K "law" "law" sLaw f fd) (B : Blt mg) (B2 : Blt2 mg) (B3 : Blt3 mg) (LP : Has P w K mg base 3 "_law_pot" ["_law_script", "_law_k"] (spPot K) fP fdP) (TK : HasTake P w K mg base fT fdT) (AM : HasAmong P w K mg base fA fdA)
    (LN : Has P w K mg base 3 "_law_names" ["_law_pot_here", "_law_many"] spLNms f1 fd1) (MD : Has P w K mg base 1 "_law_model" ["_law_names_here"] (spLMd K) f2 fd2) (AMT : Has P w K mg base 2 "_law_amount" ["_law_pot_here", "_law_size"] spLAm f3 fd3) (DN : Has P w K mg base 1 "_law_done" ["_law_model_here", "_law_deed"] (spLDn K) f4 fd4)
    (BK : Has P w K mg base 7 "_law_booked" ["_law_book", "_law_deeds_here"] (spLBk12 K C) f5 fd5) (RT : HasG P w K mg base 11 "_law_right" ["_law_pot_here", "_law_book", "_law_model_here"] (spLRt12 K C T) f6 fd6)
    (M : Mk K C fI) (gC : mg "Book" = some (.ref C)) (GI : FnOk P w K mg base CX0 3 fI fdI ["self", "persons"] (spInit K C)) (bI : Binds K fdI ["self", "persons"] []) : FnG P w K mg base CX0 12 f fd ["_law_script"] (spLawT K T) := by
  refine okG0 F scLaw (fun vs H Q E h => ?_) (fun cdv A outer s H vs Q E hr hg h => ?_)
  · obtain ⟨a, d, rfl, _⟩ := h
    rfl
  · obtain ⟨a, ns, rfl, hS, hlen, tT, q⟩ := h
    have hr1 := hr.mono (show 1 ≤ 11 by decide)
    have hr2 := hr.mono (show 2 ≤ 11 by decide)
    have hr3 := hr.mono (show 3 ≤ 11 by decide)
    have hr4 := hr.mono (show 4 ≤ 11 by decide)
    have hr7 := hr.mono (show 7 ≤ 11 by decide)
    refine ⟨_, (pss_cons (ps_for PassesOwn.never rfl (pi_range1 (by rfl) B2.range (pa_cons (pe_callB (call_max2 rfl) (by rfl) B2.max (by decide +kernel) (pa_cons pe_int (pa_cons (pe_callB (call_min2 rfl) (by rfl) B2.min (by decide +kernel) (pa_cons (pe_callB call_len_seq (by rfl) B.len PySem.boot_len (pa_cons (pv 0) pa_nil)) (pa_cons pe_int pa_nil))) pa_nil))) pa_nil)) (pg_name (i := 1) scLaw.nd rfl (.inl rfl)) (pss_cons (ps_set (i := 2) scLaw.nd rfl (.inr rfl) (pe_call LP.ok hr3 (by rfl) LP.g LP.kp LP.b .nil pass0 (pa_cons (pv 0) (pa_cons (pv 1) pa_nil)))) (pss_cons (ps_set (i := 3) scLaw.nd rfl (.inl rfl) (pe_call TK.ok hr1 (by rfl) TK.g TK.kp TK.b .nil pass0 (pa_cons (pv 2) (pa_cons pe_int pa_nil)))) (pss_cons (ps_set (i := 4) scLaw.nd rfl (.inr rfl) (pe_call LN.ok hr3 (by rfl) LN.g LN.kp LN.b .nil pass0 (pa_cons (pv 2) (pa_cons (pe_op op_add pe_int (pe_call TK.ok hr1 (by rfl) TK.g TK.kp TK.b .nil pass0 (pa_cons (pv 2) (pa_cons (pe_ix ix_list (pe_lst (pa_cons pe_int (pa_cons pe_int pa_nil))) (pe_call TK.ok hr1 (by rfl) TK.g TK.kp TK.b .nil pass0 (pa_cons (pv 2) (pa_cons pe_int pa_nil))) (fun _ _ => rfl)) pa_nil)))) pa_nil)))) (pss_cons (ps_set (i := 5) scLaw.nd rfl (.inl rfl) (pe_call MD.ok hr1 (by rfl) MD.g MD.kp MD.b .nil pass0 (pa_cons (pv 4) pa_nil))) (pss_cons (ps_set (i := 6) scLaw.nd rfl (.inl rfl) (pe_ix ix_list (pe_lst (pa_cons (pe_call TK.ok hr1 (by rfl) TK.g TK.kp TK.b .nil pass0 (pa_cons (pv 2) (pa_cons pe_int pa_nil))) (pa_cons pe_int (pa_cons pe_int (pa_cons pe_int (pa_cons pe_int pa_nil)))))) (pv 3) (fun _ _ => rfl))) (pss_cons (ps_setLc (i := 7) (own := [("_law_j", 8)]) (g := gName 8) (tt := tYes) rfl scLaw.nd rfl rfl (sw_true rfl rfl rfl (by decide +kernel)) (pi_range1 (by rfl) B2.range (pa_cons (pv 6) pa_nil)) (blkOk_by (N := nLaw) (sc := defScope sLaw) (own := [("_law_j", 8)]) (by decide +kernel)) (fun _ _ _ _ _ => (pg_name (i := 8) scLaw.nd rfl (.inl rfl) (hf := .inr rfl))) (fun _ _ _ _ _ => pts_nil) (fun _ _ _ _ _ => (pe_tup (pa_cons pe_str (pa_cons (pe_call AM.ok hr2 (by rfl) AM.g AM.kp AM.b .nil pass0 (pa_cons (pv 2) (pa_cons (pv 4) pa_nil))) (pa_cons (pe_call AM.ok hr2 (by rfl) AM.g AM.kp AM.b .nil pass0 (pa_cons (pv 2) (pa_cons (pv 4) pa_nil))) (pa_cons (pe_call AMT.ok hr2 (by rfl) AMT.g AMT.kp AMT.b .nil pass0 (pa_cons (pv 2) (pa_cons pe_int pa_nil))) pa_nil))))))) (pss_cons (ps_set (i := 7) scLaw.nd rfl (.inl rfl) (pe_op op_cat (pv 7) (pe_lc (own := [("_law_j", 8)]) (g := gName 8) (tt := tYes) rfl scLaw.nd (pi_range1 (by rfl) B2.range (pa_cons (pe_call TK.ok hr1 (by rfl) TK.g TK.kp TK.b .nil pass0 (pa_cons (pv 2) (pa_cons pe_int pa_nil))) pa_nil)) (blkOk_by (N := nLaw) (sc := defScope sLaw) (own := [("_law_j", 8)]) (by decide +kernel)) (fun _ _ _ _ _ => (pg_name (i := 8) scLaw.nd rfl (.inl rfl) (hf := .inr rfl))) (fun _ _ _ _ _ => pts_nil) (fun _ _ _ _ _ => (pe_tup (pa_cons pe_str (pa_cons (pe_call AM.ok hr2 (by rfl) AM.g AM.kp AM.b .nil pass0 (pa_cons (pv 2) (pa_cons (pv 4) pa_nil))) (pa_cons (pe_call AMT.ok hr2 (by rfl) AMT.g AMT.kp AMT.b .nil pass0 (pa_cons (pv 2) (pa_cons pe_int pa_nil))) pa_nil)))))))) (pss_cons (ps_for PassesOwn.never rfl (pi_list (pv 7)) (pg_name (i := 9) scLaw.nd rfl (.inl rfl)) (pss_one (ps_expr (pe_call DN.ok hr1 (by rfl) DN.g DN.kp DN.b .nil pass0 (pa_cons (pv 5) (pa_cons (pv 9) pa_nil)))))) (pss_one (ps_if (pt_not (pt_val (pe_callG RT.ok hr hg (by rfl) RT.g RT.kp RT.b .nil pass0 (pa_cons (pv 2) (pa_cons (pe_call BK.ok hr7 (by rfl) BK.g BK.kp BK.b .nil pass0 (pa_cons (pe_make M GI hr4 (by rfl) gC bI .nil pass0 (pa_cons (pe_callTy (call_listS rfl) (by rfl) B3.list (by decide +kernel) (pa_cons (pv 4) pa_nil)) pa_nil)) (pa_cons (pv 7) pa_nil))) (pa_cons (pv 5) pa_nil)))))) (pss_one (ps_ret pe_bl)) pss_nil))))))))))) (pss_one (ps_ret pe_bl))), ?_⟩
    refine ⟨.ref a, rfl, a, _, rfl, .inl hS, _, _, rfl, _, _, rfl, ?_⟩
    have nb : ∃ n : Nat, n ≤ 63 ∧ (if (if (4 : Int) < ((ns.map V.int).length : Int) then (4 : Int) else ((ns.map V.int).length : Int)) > 1 then (if (4 : Int) < ((ns.map V.int).length : Int) then (4 : Int) else ((ns.map V.int).length : Int)) else 1) = (n : Int) := by
      rw [List.length_map]
      refine ⟨(if (if (4 : Int) < (ns.length : Int) then (4 : Int) else (ns.length : Int)) > 1 then (if (4 : Int) < (ns.length : Int) then (4 : Int) else (ns.length : Int)) else 1).toNat, ?_, ?_⟩ <;> (split <;> split <;> omega)
    obtain ⟨n, hn, en⟩ := nb
    refine ⟨_, congrArg (fun z => [V.int z]) en, by omega, by omega, ?_⟩
    refine for_it walk_range (fun i σ H' => ∃ y1 y2 y3 y4 y5 y6 y7 y9, σ = [some (.ref a), y1, y2, y3, y4, y5, y6, y7, none, y9] ∧ Wd T H H') ⟨_, _, _, _, _, _, _, _, rfl, ExtN.refl _, tT⟩ (fun _ _ _ _ _ => trivial) (fun i x σ H1' H1 hi hP hY => ?_) (fun σ H1 hP => ?_)
    · obtain ⟨rfl, rfl⟩ := hY
      obtain ⟨y1, y2, y3, y4, y5, y6, y7, y9, rfl, w1⟩ := hP
      have hi' : i < n := by simpa using hi
      refine ⟨.ref a, rfl, .int (0 + i), rfl, a, ns, _, rfl, sql_ext hS w1.e, by omega, by omega, fun p o np hp => ?_⟩
      have nw := w1.nw np
      have wG := w1.same (same_upd (o := o) np)
      generalize upd H1 p o = H2 at hp wG
      refine ⟨.ref p, rfl, p, 5, rfl, hp, litM _ (by decide) (by decide), fun kd H3 k0 k1 hp3 b3 => ?_⟩
      have w3 := wG.but b3 hp nw
      refine ⟨.ref p, rfl, .ref p, rfl, by show 2 ≤ sizeLine; decide, fun l nl => ?_⟩
      have lp := hp3.ne nl
      have sl := same_upd (o := .lst [V.int 3, .int 12]) nl
      have hl : upd H3 l (.lst [V.int 3, .int 12]) l = some (.lst [V.int 3, .int 12]) := upd_same
      have hp4 := hp3.same sl
      have w4 := w3.same sl
      generalize upd H3 l (.lst [V.int 3, .int 12]) = H4 at sl hl hp4 w4
      refine ⟨.ref p, rfl, p, 2, rfl, hp4, litM _ (by decide) (by decide), fun u H5 u0 u1 hp5 b5 => ?_⟩
      have w5 := w4.but b5 hp4 nw
      obtain ⟨v, ev, mv⟩ := pick (xs := [V.int 3, V.int 12]) u0 u1
      refine ⟨l, _, _, v, rfl, rfl, .inl (.inl (b5 _ _ lp hl)), ev, ?_⟩
      have hv : ∃ mm : Int, v = .int mm ∧ 1 ≤ mm ∧ mm ≤ 12 := by
        simp only [List.mem_cons, List.not_mem_nil, or_false] at mv
        rcases mv with rfl | rfl
        · exact ⟨3, rfl, by decide, by decide⟩
        · exact ⟨12, rfl, by decide, by decide⟩
      obtain ⟨mm, rfl, mm1, mm2⟩ := hv
      refine ⟨p, mm, rfl, hp5, litM _ (by omega) (by omega), fun t H6 t0 t1 hp6 b6 => ⟨1, t, rfl, rfl, ?_⟩⟩
      have w6 := w5.but b6 hp5 nw
      obtain ⟨mn, emn⟩ : ∃ mn : Nat, 1 + t = (mn : Nat) := ⟨(1 + t).toNat, by rw [Int.toNat_of_nonneg (by omega)]⟩
      refine ⟨p, mn, congrArg (fun z => [V.ref p, V.int z]) emn, hp6, by omega, fun r zs H7 nr rp hr7 lzs nd nm hp7 b7 => ?_⟩
      have nz : NamesOk zs := ⟨by omega, by omega, nd, nm⟩
      have w7 := w6.but b7 hp6 nw
      refine ⟨.ref r, rfl, r, zs, rfl, hr7, nd, by omega, fun m H8 s8 na hM8 => ?_⟩
      have hp8 := hp7.same s8
      have w8 := w7.same s8
      have hr8 := s8 _ _ hr7
      have nap : ¬ m.Has p := fun h => by
        obtain ⟨px, py, pe, _⟩ := hp7
        have := na p h
        rw [pe] at this
        cases this
      have nar : ¬ m.Has r := fun h => by
        have := na r h
        rw [hr7] at this
        cases this
      have nwm : ∀ c, m.Has c → Nw H c := fun c hc => w7.nw (na c hc)
      refine ⟨.ref p, rfl, p, 13, rfl, hp8, litM _ (by decide) (by decide), fun t2 H9 t20 t21 hp9 b9 => ?_⟩
      have w9 := w8.but b9 hp8 nw
      have hM9 := model_but hM8 b9 hp8 nap
      have hr9 := b9 _ _ rp hr8
      refine ⟨by show 5 ≤ sizeLine; decide, fun l2 nl2 => ?_⟩
      have s10 := same_upd (o := .lst [V.int t2, .int 5, .int 2, .int 59, .int 60]) nl2
      have hl2 : upd H9 l2 (.lst [V.int t2, .int 5, .int 2, .int 59, .int 60]) l2 = some (.lst [V.int t2, .int 5, .int 2, .int 59, .int 60]) := upd_same
      have hp10 := hp9.same s10
      have w10 := w9.same s10
      have hM10 := model_same hM9 s10
      have hr10 := s10 _ _ hr9
      generalize upd H9 l2 (.lst [V.int t2, .int 5, .int 2, .int 59, .int 60]) = H10 at s10 hl2 hp10 w10 hM10 hr10
      obtain ⟨v2, ev2, mv2⟩ := pick (xs := [V.int t2, V.int 5, V.int 2, V.int 59, V.int 60]) k0 k1
      refine ⟨.int kd, rfl, l2, _, kd, v2, rfl, rfl, .inl (.inl hl2), ev2, ?_⟩
      have hv2 : ∃ my : Nat, v2 = .int (my : Nat) ∧ my ≤ 60 := by
        simp only [List.mem_cons, List.not_mem_nil, or_false] at mv2
        rcases mv2 with rfl | rfl | rfl | rfl | rfl
        · exact ⟨t2.toNat, by rw [Int.toNat_of_nonneg (by omega)], by omega⟩
        · exact ⟨5, rfl, by decide⟩
        · exact ⟨2, rfl, by decide⟩
        · exact ⟨59, rfl, by decide⟩
        · exact ⟨60, rfl, by decide⟩
      obtain ⟨my, rfl, my60⟩ := hv2
      have lzm : (zs.map V.str).length = zs.length := List.length_map ..
      -- notes put
      refine ⟨.int (my : Nat), rfl, (my : Int), rfl, by omega, by omega, fun L nL => ?_⟩
      have Lp := hp10.ne nL
      have ktb : ∀ {G G' : Hp}, Pot G p → But p G G' → KT G G' := fun hp b c o e t => b c o (fun z => by
        obtain ⟨u, v, ho, _⟩ := hp
        rw [z, ho] at e
        cases e
        exact t) e
      refine lc_it walk_range (fun j H' => ∃ xs ds, Pot H' p ∧ But p H10 H' ∧ H' L = some (.lst xs) ∧ DtAll K H' xs (deedsD ds) ∧ ds.length = j ∧ (∀ d ∈ ds, d.Ok zs) ∧ ds.countP isPut ≤ j ∧ ds.countP isGive = 0) ⟨[], [], hp10.same (same_upd nL), same_but (same_upd nL), upd_same, .nil, rfl, (fun d hd => by cases hd), Nat.zero_le _, rfl⟩ (fun _ _ _ _ => trivial) (fun j x Ha' Ha hj hP hY => ?_) (fun Ha hP => ?_)
      · obtain ⟨rfl, rfl⟩ := hY
        obtain ⟨xs, ds, hpa, ba, hLa, dda, lda, oda, c1, c2⟩ := hP
        have hj' : j < my := by simpa using hj
        have hra := ba _ _ rp hr10
        refine ⟨rfl, .ref p, rfl, .ref r, rfl, p, _, rfl, hpa, .inr ⟨r, _, rfl, rp, hra, by omega, by omega, fun w1' Hb hw1 hpb bb => ?_⟩⟩
        obtain ⟨z, hz, rfl⟩ := List.mem_map.mp hw1
        refine ⟨.ref p, rfl, .ref r, rfl, p, _, rfl, hpb, .inr ⟨r, _, rfl, rp, bb _ _ rp hra, by omega, by omega, fun w2' Hc hw2 hpc bc => ?_⟩⟩
        obtain ⟨y, hy, rfl⟩ := List.mem_map.mp hw2
        refine ⟨.ref p, rfl, p, 1, rfl, .inr rfl, hpc, fun nn Hd am hpd bd => ⟨by show 4 ≤ sizeLine; decide, fun t nt => ?_⟩⟩
        have st := same_upd (o := .tup [.str "put", .str z, .str y, .int nn]) nt
        have bad := bb.trans (bc.trans bd)
        have hLd := st _ _ (bad _ _ Lp hLa)
        have tL : t ≠ L := (ne_of_none (bad _ _ Lp hLa) nt).symm
        have lxs : xs.length = j := by
          rw [dda.len]
          unfold deedsD
          rw [List.length_map, lda]
        refine ⟨xs, hLd, small1000 (by omega), xs ++ [.ref t], ds ++ [.put z y nn], ?_, fun c o nc e => ?_, upd_same, ?_, by rw [List.length_append, lda]; rfl, fun d hd => ?_, by rw [List.countP_append]; show _ + 1 ≤ _; omega, by rw [List.countP_append, c2]; rfl⟩
        · obtain ⟨px, py, pe, pr⟩ := hpd.same st
          exact ⟨px, py, (upd_ne Lp.symm).trans pe, pr⟩
        · rw [upd_ne (ne_of_none e nL)]
          exact st _ _ (bad _ _ nc (ba _ _ nc e))
        · unfold deedsD at dda ⊢
          rw [List.map_append]
          have k2 : KT Ha (upd (upd Hd t (.tup [.str "put", .str z, .str y, .int nn])) L (.lst (xs ++ [.ref t]))) := ((ktb hpa bad).trans (kt_same st)).trans (kt_upd hLd fun z => z)
          refine (DtAll.keepT k2 _ (tup_deeds ds) dda).append (.cons (.tup (.inl (.inl ?_)) (.cons (.str _) (.cons (.str _) (.cons (.str _) (.cons (.int _) .nil))))) .nil)
          rw [upd_ne tL, upd_same]
        · rcases List.mem_append.mp hd with h | h
          · exact oda d h
          · rw [List.mem_singleton.mp h]
            exact ⟨hz, hy, am.1, am.2⟩
      obtain ⟨xs, ds, hpa, ba, hLa, dda, lda, oda, c1, c2⟩ := hP
      have wa := w10.but ba hp10 nw
      have hMa := model_but hM10 ba hp10 nap
      have hra := ba _ _ rp hr10
      -- cash given
      refine ⟨.ref L, rfl, .ref p, rfl, p, 4, rfl, hpa, litM _ (by decide) (by decide), fun u2 Hb u20 u21 hpb bb => ?_⟩
      have wb := wa.but bb hpa nw
      have hMb := model_but hMa bb hpa nap
      have hrb := bb _ _ rp hra
      have hLb := bb _ _ Lp hLa
      have ddb := DtAll.keepT (ktb hpa bb) _ (tup_deeds ds) dda
      refine ⟨u2, rfl, by omega, by omega, fun L2 nL2 => ?_⟩
      have L2p := hpb.ne nL2
      refine lc_it walk_range (fun j H' => ∃ xs2 ds2, Pot H' p ∧ But p Hb H' ∧ H' L2 = some (.lst xs2) ∧ DtAll K H' xs2 (deedsD ds2) ∧ ds2.length = j ∧ (∀ d ∈ ds2, d.Ok zs) ∧ ds2.countP isPut = 0) ⟨[], [], hpb.same (same_upd nL2), same_but (same_upd nL2), upd_same, .nil, rfl, (fun d hd => by cases hd), rfl⟩ (fun _ _ _ _ => trivial) (fun j x Hc' Hc hj hP hY => ?_) (fun Hc hP => ?_)
      · obtain ⟨rfl, rfl⟩ := hY
        obtain ⟨xs2, ds2, hpc, bc, hLc, ddc, ldc, odc, c3⟩ := hP
        have hj' : j < 4 := by
          have : j < u2.toNat := by simpa using hj
          omega
        have hrc := bc _ _ rp hrb
        refine ⟨rfl, .ref p, rfl, .ref r, rfl, p, _, rfl, hpc, .inr ⟨r, _, rfl, rp, hrc, by omega, by omega, fun w1' Hd hw1 hpd bd => ?_⟩⟩
        obtain ⟨z, hz, rfl⟩ := List.mem_map.mp hw1
        refine ⟨.ref p, rfl, p, 1, rfl, .inr rfl, hpd, fun nn He am hpe be => ⟨by show 3 ≤ sizeLine; decide, fun t nt => ?_⟩⟩
        have st := same_upd (o := .tup [.str "give", .str z, .int nn]) nt
        have bad := bd.trans be
        have hLd := st _ _ (bad _ _ L2p hLc)
        have tL : t ≠ L2 := (ne_of_none (bad _ _ L2p hLc) nt).symm
        have lxs : xs2.length = j := by
          rw [ddc.len]
          unfold deedsD
          rw [List.length_map, ldc]
        refine ⟨xs2, hLd, small1000 (by omega), xs2 ++ [.ref t], ds2 ++ [.give z nn], ?_, fun c o nc e => ?_, upd_same, ?_, by rw [List.length_append, ldc]; rfl, fun d hd => ?_, by rw [List.countP_append, c3]; rfl⟩
        · obtain ⟨px, py, pe, pr⟩ := hpe.same st
          exact ⟨px, py, (upd_ne L2p.symm).trans pe, pr⟩
        · rw [upd_ne (ne_of_none e nL2)]
          exact st _ _ (bad _ _ nc (bc _ _ nc e))
        · unfold deedsD at ddc ⊢
          rw [List.map_append]
          have k2 : KT Hc (upd (upd He t (.tup [.str "give", .str z, .int nn])) L2 (.lst (xs2 ++ [.ref t]))) := ((ktb hpc bad).trans (kt_same st)).trans (kt_upd hLd fun z => z)
          refine (DtAll.keepT k2 _ (tup_deeds ds2) ddc).append (.cons (.tup (.inl (.inl ?_)) (.cons (.str _) (.cons (.str _) (.cons (.int _) .nil)))) .nil)
          rw [upd_ne tL, upd_same]
        · rcases List.mem_append.mp hd with h | h
          · exact odc d h
          · rw [List.mem_singleton.mp h]
            exact ⟨hz, am.1, am.2⟩
      obtain ⟨xs2, ds2, hpc, bc, hLc, ddc, ldc, odc, c3⟩ := hP
      have wc := wb.but bc hpb nw
      have hMc := model_but hMb bc hpb nap
      have hrc := bc _ _ rp hrb
      have hL1c := bc _ _ Lp hLb
      have dd1c := DtAll.keepT (ktb hpb bc) _ (tup_deeds ds) ddb
      have lxs : xs.length = ds.length := by
        rw [dda.len]
        unfold deedsD
        rw [List.length_map]
      have lxs2 : xs2.length = ds2.length := by
        rw [ddc.len]
        unfold deedsD
        rw [List.length_map]
      have ldc2 : ds2.length ≤ 4 := by
        rw [ldc]
        simp
        omega
      refine ⟨L, L2, _, _, rfl, rfl, hL1c, hLc, small_line (by omega), fun L3 nL3 => ?_⟩
      have sd := same_upd (o := .lst (xs ++ xs2)) nL3
      have hL3 : upd Hc L3 (.lst (xs ++ xs2)) L3 = some (.lst (xs ++ xs2)) := upd_same
      have hpd := hpc.same sd
      have wd := wc.same sd
      have hMd := model_same hMc sd
      have hrd := sd _ _ hrc
      have L3m : ¬ m.Has L3 := fun h => by
        obtain ⟨o, e⟩ := mod_some12 hMc h
        rw [e] at nL3
        cases nL3
      obtain ⟨es, ees⟩ : ∃ es, es = ds ++ ds2 := ⟨_, rfl⟩
      have dde : DtAll K (upd Hc L3 (.lst (xs ++ xs2))) (xs ++ xs2) (deedsD es) := by
        rw [ees]
        unfold deedsD at dd1c ddc ⊢
        rw [List.map_append]
        exact DtAll.same sd _ (dd1c.append ddc)
      have ode : ∀ d ∈ es, d.Ok zs := fun d hd => by
        rw [ees] at hd
        rcases List.mem_append.mp hd with h | h
        · exact oda d h
        · exact odc d h
      have cp : es.countP isPut ≤ 60 := by
        rw [ees, List.countP_append, c3]
        omega
      have cg : es.countP isGive ≤ 4 := by
        rw [ees, List.countP_append, c2]
        have := List.countP_le_length (p := isGive) (l := ds2)
        omega
      have lxe : (xs ++ xs2).length = es.length := by
        rw [dde.len]
        unfold deedsD
        rw [List.length_map]
      generalize xs ++ xs2 = xe at hL3 dde sd hpd wd hMd hrd lxe
      generalize upd Hc L3 (.lst xe) = Hd at hL3 dde sd hpd wd hMd hrd
      clear sd dd1c ddc hL1c hLc
      refine ⟨.ref L3, rfl, L3, rfl, ⟨_, .inl (.inl hL3)⟩, ?_⟩
      refine for_it (walk_list (K := K) (a := L3) (xs := xe)) (fun j σ H' => ∃ y9, σ = [some (.ref a), some (.int (0 + i)), some (.ref p), some (.int kd), some (.ref r), some (.ref m.m), some (.int (my : Nat)), some (.ref L3), none, y9] ∧ ButF m Hd H' ∧ ModelAt K H' zs m ((es.take j).foldl (doneD zs) (newMd zs.length))) ⟨_, rfl, (fun _ _ _ e => e), hMd⟩ (fun j σ H' _ hP => ?_) (fun j y σ He' He hj hP hY => ?_) (fun σ He hP => ?_)
      · obtain ⟨_, _, bf, _⟩ := hP
        exact .inl (.inl (bf _ _ (fun f => L3m (foot_has12 f)) hL3))
      · obtain ⟨rfl, hx⟩ := hY
        obtain ⟨y9, rfl, bf, hMe⟩ := hP
        have hje : j < es.length := by omega
        obtain ⟨v', gx, dx0⟩ := dde.get (n := j) (d := deedD es[j]) (map_get (List.getElem?_eq_getElem hje))
        rw [hx] at gx
        cases gx
        have dx := Dt.keepT (bf.kt hMd) _ (tup_deed _) dx0
        have hsub := List.take_sublist j es
        obtain ⟨g1, _⟩ := fold_good (es.take j) (newMd zs.length) 0 0 G12.new (by rw [notes0]; omega) (fun d hd => ode d (List.mem_of_mem_take hd)) (by have := hsub.countP_le (p := isPut); omega) (by have := hsub.countP_le (p := isGive); omega)
        refine ⟨.ref m.m, rfl, y, rfl, m, _, zs, y, es[j], rfl, hMe, dx, ode _ (List.getElem_mem hje), by omega, g1.gd.rows, fun Hf bff hMf => ⟨_, rfl, fun b o nn e => bff b o nn (bf b o nn e), ?_⟩⟩
        rw [take_succ hje, List.foldl_append]
        exact hMf
      obtain ⟨y9, rfl, bf, hMe⟩ := hP
      rw [lxe, List.take_length] at hMe
      obtain ⟨g1, _⟩ := fold_good es (newMd zs.length) 0 0 G12.new (by rw [notes0]; omega) ode (by omega) (by omega)
      have we : Wd T H He := ⟨fun c o e t => bf c o (fun f => (nwm c (foot_has12 f)).ne e t rfl) (wd.e c o e t), tabs_foot wd.t bf hMd⟩
      have hL3e := bf _ _ (fun f => L3m (foot_has12 f)) hL3
      have hre := bf _ _ (fun f => nar (foot_has12 f)) hrd
      have dde2 := DtAll.keepT (bf.kt hMd) _ (tup_deeds es) dde
      have hpe : Pot He p := by
        obtain ⟨px, py, pe, pr⟩ := hpd
        exact ⟨px, py, bf _ _ (fun f => nap (foot_has12 f)) pe, pr⟩
      refine ⟨.ref p, rfl, .ref r, rfl, r, _, rfl, .inl (.inl (.inl hre)), fun r2 nr2 => ?_⟩
      have sf := same_upd (o := .lst (zs.map V.str)) nr2
      have hr2 : upd He r2 (.lst (zs.map V.str)) r2 = some (.lst (zs.map V.str)) := upd_same
      generalize upd He r2 (.lst (zs.map V.str)) = Hf at sf hr2
      refine fun xb dy nx ndy nxy => ?_
      have s9 : Same Hf (upd (upd Hf dy (.own xb)) xb (.ins C dy [])) := fun c o e => by
        rw [upd_ne (ne_of_none e nx), upd_ne (ne_of_none e ndy)]
        exact e
      refine ⟨xb, dy, r2, zs, rfl, upd_same, s9 _ _ hr2, nz, fun Hg b10 bk => ⟨rfl, ?_⟩⟩
      have sfg : Same Hf Hg := fun c o e => b10 c o (ne_of_none e nx) (s9 c o e)
      have seg := sf.trans sfg
      have b0 : BookAt K C Hg xb (bkOf zs (newMd zs.length)) := bk
      refine ⟨.ref L3, rfl, xb, L3, xe, es, zs, rfl, b0, nz, seg _ _ hL3e, DtAll.same seg _ dde2, ode, cp, by omega, fun b' Hh sh hb' => ?_⟩
      have seh := seg.trans sh
      have wh := we.same seh
      refine ⟨.ref m.m, rfl, p, b', m, zs, _, _, rfl, ⟨hpe.same seh, model_same hMe seh, hb', nz, g1, nap, wh.t, (fun _ _ _ _ _ e => e), (fun _ _ e _ => e)⟩, by omega, fun Hi bti ti => ⟨_, rfl, iteF ⟨_, _, _, _, _, _, _, _, rfl, ⟨fun c o e t => bti c o (fun z => nw.ne e t z) (fun h => (nwm c h).ne e t rfl) t (wh.e c o e t), ti⟩⟩⟩⟩
    · exact q _
end
end Rc

namespace Rc
open PySem PySem.Spec PyProof.Rows L2
theorem fnOr {P : Program} {w : World} {K : PySem.W.Frag} {mg : Str → Option Value} {base : Heap} {CX : CXT} {k : Nat} {f : Addr} {fd : FuncData} {ps : List Str} {sp sp' : Sp} (F : FnOk P w K mg base CX k f fd ps sp) (G : FnOk P w K mg base CX k f fd ps sp') :
    FnOk P w K mg base CX k f fd ps (fun vs H Q E => sp vs H Q E ∨ sp' vs H Q E) :=
  ⟨fun vs H Q E h => h.elim (F.len vs H Q E) (G.len vs H Q E), fun A outer s H args us vs Q E hr he hb hv hs => hs.elim (F.run A outer s H args us vs Q E hr he hb hv) (G.run A outer s H args us vs Q E hr he hb hv)⟩
end Rc

namespace Rc
open PySem PySem.Spec PyProof.Rows L2
theorem all1 {p : Str → Prop} {a : Str} (h : p a) : ∀ f ∈ [a], p f := fun f hf => by rw [List.mem_singleton.mp hf]; exact h
theorem all2 {p : Str → Prop} {a b : Str} (h : p a) (h' : p b) : ∀ f ∈ [a, b], p f := fun f hf => by
  rcases List.mem_cons.mp hf with e | e
  · rw [e]; exact h
  · rw [List.mem_singleton.mp e]; exact h'
/-- the top's facts of an own exception class -/
theorem mkCx {P : Program} {K : PySem.W.Frag} {h : Heap} {mg : Str → Option Value} {nm : Str} {st : Stmt} {fs : List Str} {B newId initId : String} {bmB : List Value} {C : Addr} (X : K.In h) (G : h.Ns mainGlobals mg)
    {fI : Addr} {oc : Value} {od : Option Addr} {qual : Str} {doc pm : Value} {an : Option Addr} {cda : Addr} {ct : Value} {cc : Addr} {osl : Array (Option Value)} {cl : Value} {cld : Option Addr} {csl : Array (Option Value)} {ccl : Value} {cdd : Option Addr} {vs : Array Value} {ccs : Array (Option Value)} {file : Str} {tf : Tok}
    (a : PySem.W.nsIn K mainGlobals nm = some (some (.ref C))) (a1 : PySem.W.excInitIn K C bmB newId = true) (a2 : PySem.W.excOver K C bmB = true) (a3 : PySem.W.hasDictIn K C = true)
    (a4 : PySem.W.findIn K (.ref C) "__setattr__" = some (some (.builtin "object.__setattr__"))) (a5 : PySem.W.findIn K (.ref C) "__getattribute__" = some (some (.builtin "BaseException.__getattribute__"))) (a6 : PySem.W.findIn K (.ref C) "__getattr__" = some none)
    (a7 : ∀ f ∈ fs, PySem.W.findIn K (.ref C) f = some none) (a8 : PySem.W.keepIn K (.ref C) = true) (a9 : PySem.W.subIn K (.ref C) (.type "BaseException") = some true) (b1 : PySem.W.typeIn K (.ref C) = some (.type "type")) (b2 : PySem.W.subIn K (.ref C) (.type B) = some true)
    (b3 : PySem.W.mroIn K C (.ref C) = some true) (b4 : PySem.W.nsIn K cStatics "thirdparty.any" = some none) (b5 : PySem.W.ks_superIn K C C "__init__" = some (some (.builtin initId))) (b6 : PySem.W.nsIn K mainGlobals "super" = some none) (b7 : (P.main.scope.names.lookup ("super" : Str)).isSome = false)
    (i1 : PySem.W.findIn K (.ref C) "__init__" = some (some (.ref fI))) (i2 : PySem.W.typeIn K (.ref fI) = some (.type "function"))
    (i3 : K.lookup fI = some ⟨oc, od, .func (PySem.W.ksFn "__init__" qual (defArgs st) (defBody st) (defScope st) .none .none doc pm an (.ref cda) ct cc), osl⟩) (i4 : PySem.W.codeIn K (.ref cda) qual = true)
    (i5 : K.lookup cc = some ⟨cl, cld, .cell (some (.ref C)), csl⟩) (i6 : K.lookup cda = some ⟨ccl, cdd, .fields vs, ccs⟩) (i7 : vs[2]? = some (.str file tf)) (i8 : ((P.main.file : Str) == file) = true) : EX.Cx' P K mg nm st fs B newId initId bmB C :=
  ⟨PySem.W.mg_of X G a, a1, a2, a3, a4, a5, a6, a7, a8, a9, b1, b2, b3, b4, b5, PySem.W.mg_none_of X G b6, b7, fI, oc, od, qual, doc, pm, an, cda, ct, cc, osl, i1, i2, i3, i4, ⟨_, _, _, i5⟩, _, _, _, _, _, _, i6, i7, i8⟩
theorem mkClsB {K : PySem.W.Frag} {h : Heap} {mg : Str → Option Value} {CB CN : Addr} (X : K.In h) (G : h.Ns mainGlobals mg) (a : PySem.W.nsIn K mainGlobals "BookError" = some (some (.ref CB))) (a1 : PySem.W.subIn K (.ref CB) (.type "BaseException") = some true) (a2 : PySem.W.hasDictIn K CB = true)
    (a3 : PySem.W.typeIn K (.ref CB) = some (.type "type")) (a4 : PySem.W.subIn K (.ref CN) (.ref CB) = some false) (a5 : PySem.W.subIn K (.ref CN) (.ref CN) = some true) (a6 : PySem.W.kitOne K (.ref CN) (.ref CB) = some false) (a7 : PySem.W.kitOne K (.ref CN) (.type "LookupError") = some true)
    (a8 : PySem.W.nsIn K mainGlobals "LookupError" = some none) (a9 : PySem.W.findIn K (.ref CN) "__class__" = some (some (.builtin "object.__class__"))) (b1 : PySem.W.specialIn K (.builtin "object.__class__") "__get__" = some (some (.builtin "getset_descriptor.__get__")))
    (b2 : PySem.W.takesIn K (.builtin "object.__class__") = some true) (b3 : PySem.W.mroIn K CN (.type "object") = some true) : ClsB K mg CB CN :=
  ⟨PySem.W.mg_of X G a, a1, a2, a3, a4, a5, a6, a7, PySem.W.mg_none_of X G a8, a9, b1, b2, b3⟩
end Rc

namespace Rc
open PySem PySem.Spec PyProof.Rows L2 RZ
theorem mkClsE {K : PySem.W.Frag} {C : Addr} (a : PySem.W.findIn K (.ref C) "__class__" = some (some (.builtin "object.__class__"))) (n : PySem.W.specialIn K (.builtin "object.__class__") "__get__" = some (some (.builtin "getset_descriptor.__get__")))
    (t : PySem.W.takesIn K (.builtin "object.__class__") = some true) (m : PySem.W.mroIn K C (.type "object") = some true) (e : PySem.W.findIn K (.ref C) "__ne__" = some (some (.builtin "object.__ne__"))) : ClsE K C := ⟨a, n, t, m, e⟩
end Rc

namespace Rc
open PySem PySem.Spec PyProof.Rows L2 RZ
theorem FnOk.up {P : Program} {w : World} {K : PySem.W.Frag} {mg : Str → Option Value} {base : Heap} {CX : CXT} {k : Nat} {f : Addr} {fd : FuncData} {ps : List Str} {sp : Sp} (F : FnOk P w K mg base CX0 k f fd ps sp) : FnOk P w K mg base CX k f fd ps sp :=
  ⟨F.len, fun A outer s H args us vs Q E hr he hb hv hs => PySem.codeAny_mono (F.run A outer s H args us vs Q E hr he hb hv hs) fun r s' h => by
    cases r with
    | ok c => cases c <;> exact h
    | error e => exact h.elim⟩
theorem mkC12 {P : Program} {K : PySem.W.Frag} {mg : Str → Option Value} {xN xA xF CB : Addr} (pN : ClsN P K mg xN) (pA : ClsP K mg "NoAmount" xA CB) (pF : ClsFu P K mg xF) (nn : PySem.W.subIn K (.ref xN) (.ref xN) = some true) (ff : PySem.W.subIn K (.ref xF) (.ref xF) = some true)
    (an : PySem.W.subIn K (.ref xA) (.ref xN) = some false) (fn : PySem.W.subIn K (.ref xF) (.ref xN) = some false) (fa : PySem.W.subIn K (.ref xF) (.ref xA) = some false) : ∃ (Z : Xs) (CB : Addr), C12 P K mg Z CB :=
  ⟨⟨xN, xN, xA, xN, xN, xF⟩, CB, ⟨pN, pA, pF, nn, ff, an, fn, fa⟩⟩
end Rc

namespace Rc
open PySem PySem.Spec PyProof.Rows L2
/-- a def of the text, by its name -/
def DefOf {K : PySem.W.Frag} {h : Heap} (_ : K.In h) (mg : Str → Option Value) (nm : Str) (st : Stmt) : Prop := ∃ f fd, Fun K nm nm st f fd ∧ mg nm = some (.ref f)
theorem mkDef {K : PySem.W.Frag} {h : Heap} {mg : Str → Option Value} (X : K.In h) (G : h.Ns mainGlobals mg) {nm : Str} {st : Stmt} {f : Addr} {oc : Value} {od an : Option Addr} {osl : Array (Option Value)} {kV doc pm cdv ct : Value}
    (a : PySem.W.nsIn K mainGlobals nm = some (some (.ref f)))
    (l : K.lookup f = some ⟨oc, od, .func (PySem.W.fnOf nm nm (defArgs st) (defBody st) (defScope st) .none kV doc pm an cdv ct), osl⟩)
    (c : PySem.W.codeIn K cdv nm = true) (k : PySem.W.keepIn K (.ref f) = true) : DefOf X mg nm st := ⟨f, _, fun_mk l c k, PySem.W.mg_of X G a⟩
/-- a method of the class C -/
def MethOf (K : PySem.W.Frag) (C : Addr) (nm qual : Str) (st : Stmt) : Prop := ∃ f fd, Fun K nm qual st f fd ∧ Meth K C nm f
theorem mkMeth {K : PySem.W.Frag} {C : Addr} {nm qual : Str} {st : Stmt} {f : Addr} {oc : Value} {od an : Option Addr} {osl : Array (Option Value)} {kV doc pm cdv ct : Value}
    (a : PySem.W.findIn K (.ref C) nm = some (some (.ref f))) (i : PySem.W.isFn K (.ref f) = true)
    (l : K.lookup f = some ⟨oc, od, .func (PySem.W.fnOf nm qual (defArgs st) (defBody st) (defScope st) .none kV doc pm an cdv ct), osl⟩)
    (c : PySem.W.codeIn K cdv qual = true) (k : PySem.W.keepIn K (.ref f) = true) : MethOf K C nm qual st := ⟨f, _, fun_mk l c k, a, i, k⟩
structure TopB (K : PySem.W.Frag) (mg : Str → Option Value) (C : Addr) : Prop where
  T : ClsF K C
  g : mg "Book" = some (.ref C)
  makes : PySem.W.makesIn K C = true
  kp : PySem.W.keepIn K (.ref C) = true
theorem mkTop {K : PySem.W.Frag} {h : Heap} {mg : Str → Option Value} {C : Addr} (X : K.In h) (G : h.Ns mainGlobals mg) (a : PySem.W.nsIn K mainGlobals "Book" = some (some (.ref C)))
    (pg : PySem.W.plainGet K C Str.empty = true) (hd : PySem.W.hasDictIn K C = true) (po : PySem.W.plainOver K C = true) (sa : PySem.W.findIn K (.ref C) "__setattr__" = some (some (.builtin "object.__setattr__"))) (mk : PySem.W.makesIn K C = true) (kc : PySem.W.keepIn K (.ref C) = true)
    (n1 : PySem.W.findIn K (.ref C) "names" = some none) (n2 : PySem.W.findIn K (.ref C) "gifts" = some none) (n3 : PySem.W.findIn K (.ref C) "stacks" = some none) (n4 : PySem.W.findIn K (.ref C) "drops" = some none) : TopB K mg C :=
  ⟨⟨⟨pg, hd, po, sa⟩, n1, n2, n3, n4⟩, PySem.W.mg_of X G a, mk, kc⟩
def ConOf (mg : Str → Option Value) (nm : Str) (v : V) : Prop := ∃ u, mg nm = some u ∧ RelV v u
theorem con_of {K : PySem.W.Frag} {h : Heap} {mg : Str → Option Value} (X : K.In h) (G : h.Ns mainGlobals mg) {nm : Str} {v : V} {u : Value} (a : PySem.W.nsIn K mainGlobals nm = some (some u)) (r : RelV v u) : ConOf mg nm v := ⟨u, PySem.W.mg_of X G a, r⟩
section
variable {K : PySem.W.Frag} {nm q x y z u4 : Str} {st : Stmt} {f : Addr} {fd : FuncData}
theorem bind1 (F : Fun K nm q st f fd)
    (h : ∀ (kV doc pm : Value) (an : Option Addr) (cdv ct v : Value), bindArgs (PySem.W.fnOf nm q (defArgs st) (defBody st) (defScope st) .none kV doc pm an cdv ct) ⟨[v], []⟩ = pure [(x, v)]) : Binds K fd [x] [] :=
  F.binds (ps := [x]) fun kV doc pm an cdv ct us hl => match us, hl with | [v], _ => h kV doc pm an cdv ct v
theorem bind2 (F : Fun K nm q st f fd)
    (h : ∀ (kV doc pm : Value) (an : Option Addr) (cdv ct u v : Value), bindArgs (PySem.W.fnOf nm q (defArgs st) (defBody st) (defScope st) .none kV doc pm an cdv ct) ⟨[u, v], []⟩ = pure [(x, u), (y, v)]) : Binds K fd [x, y] [] :=
  F.binds (ps := [x, y]) fun kV doc pm an cdv ct us hl => match us, hl with | [u, v], _ => h kV doc pm an cdv ct u v
theorem bind3 (F : Fun K nm q st f fd)
    (h : ∀ (kV doc pm : Value) (an : Option Addr) (cdv ct u v w : Value), bindArgs (PySem.W.fnOf nm q (defArgs st) (defBody st) (defScope st) .none kV doc pm an cdv ct) ⟨[u, v, w], []⟩ = pure [(x, u), (y, v), (z, w)]) : Binds K fd [x, y, z] [] :=
  F.binds (ps := [x, y, z]) fun kV doc pm an cdv ct us hl => match us, hl with | [u, v, w], _ => h kV doc pm an cdv ct u v w
theorem bind4 (F : Fun K nm q st f fd)
    (h : ∀ (kV doc pm : Value) (an : Option Addr) (cdv ct u v w t : Value), bindArgs (PySem.W.fnOf nm q (defArgs st) (defBody st) (defScope st) .none kV doc pm an cdv ct) ⟨[u, v, w, t], []⟩ = pure [(x, u), (y, v), (z, w), (u4, t)]) : Binds K fd [x, y, z, u4] [] :=
  F.binds (ps := [x, y, z, u4]) fun kV doc pm an cdv ct us hl => match us, hl with | [u, v, w, t], _ => h kV doc pm an cdv ct u v w t
end
section
variable {P : Program} {w : World} {K : PySem.W.Frag} {mg : Str → Option Value} {base : Heap} {C f : Addr} {fd : FuncData} {k : Nat} {nm : Str} {ps : List Str} {sp : Sp} {st : Stmt}
end
end Rc

namespace Rc
open PySem PySem.Spec PyProof.Rows L2 RZ
theorem bind5 {K : PySem.W.Frag} {nm q a1 a2 a3 a4 a5 : Str} {st : Stmt} {f : Addr} {fd : FuncData} (F : Fun K nm q st f fd)
    (h : ∀ (kV doc pm : Value) (an : Option Addr) (cdv ct u v w t s : Value), bindArgs (PySem.W.fnOf nm q (defArgs st) (defBody st) (defScope st) .none kV doc pm an cdv ct) ⟨[u, v, w, t, s], []⟩ = pure [(a1, u), (a2, v), (a3, w), (a4, t), (a5, s)]) : Binds K fd [a1, a2, a3, a4, a5] [] :=
  F.binds (ps := [a1, a2, a3, a4, a5]) fun kV doc pm an cdv ct us hl => match us, hl with | [u, v, w, t, s], _ => h kV doc pm an cdv ct u v w t s
end Rc

namespace Rc
open PySem PySem.Spec PyProof.Rows L2 RZ LamX
/-- a def whose code object stands at c -/
def DefOfC {K : PySem.W.Frag} {h : Heap} (_ : K.In h) (mg : Str → Option Value) (nm : Str) (st : Stmt) (c : Addr) : Prop := ∃ f fd, Fun K nm nm st f fd ∧ mg nm = some (.ref f) ∧ fd.code = .ref c
theorem mkDefC {K : PySem.W.Frag} {h : Heap} {mg : Str → Option Value} (X : K.In h) (G : h.Ns mainGlobals mg) {nm : Str} {st : Stmt} {f c : Addr} {oc : Value} {od an : Option Addr} {osl : Array (Option Value)} {kV doc pm ct : Value}
    (a : PySem.W.nsIn K mainGlobals nm = some (some (.ref f)))
    (l : K.lookup f = some ⟨oc, od, .func (PySem.W.fnOf nm nm (defArgs st) (defBody st) (defScope st) .none kV doc pm an (.ref c) ct), osl⟩)
    (cd : PySem.W.codeIn K (.ref c) nm = true) (k : PySem.W.keepIn K (.ref f) = true) : DefOfC X mg nm st c := ⟨f, _, fun_mk l cd k, PySem.W.mg_of X G a, rfl⟩
/-- what is asked of the table of code -/
theorem law_tab {l : PySem.W.OpenLaw} {w : World} {K : PySem.W.Frag} {CX : CXT} {k : Nat} {mg : Str → Option Value} {fa : Addr} {h : Heap} {c PT : Addr} {fd : FuncData} {q : Str} (X : K.In h) (hT : h.get? PT = some { cls := .none, data := .fields #[] }) (nT : K.lookup PT = none) (CH : PySem.W.codeHdIn K c PT = true)
    (hb : ∀ (s : Shared) (u : Value), BindsTo s fd ⟨[u], []⟩ [("_law_script", u)]) (F : ∀ base : Heap, K.In base → base.Ns mainGlobals mg → TabB base mg c PT → FnG l.prog w K mg base CX k fa fd ["_law_script"] (spLawT K [(PT, q)])) : LawAtG l w K CX k 63 "_law_script" mg fa h := by
  refine ⟨fd, [(c, PT)], spLawT K [(PT, q)], fun p hp => ?_, hb, fun H a ns hl hH hS => ⟨a, ns, rfl, hS, hl, fun p hp => ?_, fun _ => rfl⟩, fun base b1 b2 b3 => F base b1 b2 (b3 (c, PT) List.mem_cons_self)⟩
  · rw [List.mem_singleton.mp hp]
    exact ⟨hT, nT, PySem.W.codeHd_of_K X CH⟩
  · rw [List.mem_singleton.mp hp]
    exact TabS.nil (hH (c, PT) List.mem_cons_self)
end Rc

namespace Rc
open PySem PySem.W PySem.Calls PyProof.Rows
abbrev RR : PySem.W.OpenRow := PySem.W.OpenLaw.row PySem.Challenge.rw_ringclear_k12_refused_in_order
def qv : Program := PySem.W.view RR.prog [43]
def ln0 : List PySem.Str := ["_wall", "BookError", "NoBook", "NoAmount", "NoSuch", "Full", "LETTERS", "LONGEST", "is_name", "is_whole", "is_amount", "MOST", "MOST_PERSONS", "check_persons", "check_amount", "split_notes", "with_changed", "Book", "_law_pot", "_law_take", "_law_name", "_law_names", "_law_among", "_law_amount", "_law_model", "_law_parted", "_law_left", "_law_cash", "_law_deeds", "_law_done"]
def ln1 : List PySem.Str := ["_law_booked", "_law_alike", "_law_no_name", "_law_no_amount", "_law_told", "_law_wanted", "_law_asked", "_law_spoilt", "_law_right"]
def looseN : List PySem.Str := ln0 ++ ln1
/-- what the hook of the objects and the tables sees, off the tree -/
def obK (as ts : List Addr) : PySem.W.SharedT → List (Option Obj) × List (Option Obj) := fun s => (as.map (HandSHeadRun.getT s), ts.map (HandSHeadRun.getT s))
theorem obK_ok {K : Params → PySem.W.Frag} {as ts : List Addr} {e : ∀ P, as = (K P).map (·.1)} (s : PySem.W.SharedT) : obK as ts s = (PySem.W.kmHook K as e ts).obs s.abs := by
  have h : ∀ l : List Addr, l.map (HandSHeadRun.getT s) = l.map s.abs.heap.get? := fun l => List.map_congr_left fun a _ => HandSHeadRun.getT_eq s a
  show (as.map (HandSHeadRun.getT s), ts.map (HandSHeadRun.getT s)) = (as.map s.abs.heap.get?, ts.map s.abs.heap.get?)
  rw [h as, h ts]
def dL : DefRec := HandSHeadRun.topDef RR.prog 43
theorem hx1 : PySem.W.opening RR.prog = PySem.W.plainProg RR.prog.main.scope.names := by kernel_rfl
theorem hx2 : ∀ s, fenceModules? RR.prog s = some s := fun s => by kernel_rfl
theorem hx3 : defOf qv RR.name = some (dL, []) := by kernel_rfl
theorem hx4 : RR.prog.theDef RR.name = some (dL.params, dL.body, dL.scope) := by kernel_rfl
theorem hx5 : PySem.W.kwWritten? dL.params.kwonlyargs dL.params.kw_defaults = some [] := by kernel_rfl
theorem hx6 : (!RR.writes || RR.records.isEmpty) = true := by kernel_rfl
theorem hx7 : (PySem.W.chainsOk qv && PySem.W.opensWell RR.prog && (PySem.W.frees RR.toRowW && RR.within.isEmpty)) = true := by kernel_rfl
theorem hx8 : RR.prog.bare := ⟨by kernel_rfl, by kernel_rfl, by kernel_rfl, by kernel_rfl, by kernel_rfl, by decide +kernel⟩
theorem dL_name : dL.name = "law" := by kernel_rfl
theorem dL_defs : dL.params.defaults = [] := by kernel_rfl
end Rc

set_option pp.maxSteps 300
set_option pp.deepTerms false
open PySem PySem.W PyProof.Rows
local macro_rules | `(tactic| o_head ($f:ident $K $as $e $ts)) => `(tactic| (refine HandSHeadRun.head_any (r := PySem.W.OpenLaw.row PySem.Challenge.rw_ringclear_k12_refused_in_order) (q := Rc.qv) (H := PySem.W.kmHook $K $as ?he $ts) (ob := Rc.obK $as $ts) (M := 20000) (loose := Rc.looseN) (kwd := []) (d := Rc.dL) Rc.obK_ok Rc.hx1 Rc.hx2 ?hrun Rc.hx3 Rc.hx4 Rc.hx5 Rc.hx6 ?hsaid Rc.hx7 Rc.hx8 ?hw ?hc; (case he => intro P; kernel_rfl)))
set_option maxHeartbeats 0 in
theorem Rc.hdA (hr : ∀ K as e ts w, HandSHeadRun.RunEq (PySem.W.OpenLaw.row PySem.Challenge.rw_ringclear_k12_refused_in_order) Rc.qv (PySem.W.kmHook K as e ts) (Rc.obK as ts) 20000 Rc.looseN w) (hc : ∀ K as e ts, WalkO Rc.qv Rc.looseN (XL Rc.qv []) (PySem.W.kmHook K as e ts).says (PySem.W.OpenLaw.row PySem.Challenge.rw_ringclear_k12_refused_in_order).toRowW Rc.dL [] fun f vs => call f vs) : PySem.Challenge.rw_ringclear_k12_refused_in_order.Holds := by
  w_on; o_law; km_head
  (case hsaid => assumption)
  (case hrun => exact fun w => hr _ _ _ _ w)
  (case hw => w_witness2)
  exact hc _ _ _ _
namespace Rc
def asK0 : List Addr := [2, 3, 15, 17, 18, 20, 21, 22, 29, 30, 31, 32, 35, 38, 43, 44, 46, 47, 49, 50, 51, 52, 53, 56, 63, 64, 65, 68, 71, 76, 77, 79, 80, 82, 83, 84, 85, 86, 87, 90]
def asK1 : List Addr := [93, 98, 99, 101, 102, 104, 105, 106, 107, 108, 109, 112, 115, 116, 117, 119, 120, 122, 123, 124, 126, 127, 129, 130, 131, 133, 134, 136, 137, 138, 140, 141, 143, 144, 145, 147, 148, 150, 151, 152]
def asK2 : List Addr := [154, 155, 157, 158, 166, 168, 169, 171, 172, 173, 175, 176, 178, 179, 180, 182, 183, 185, 186, 187, 189, 190, 192, 193, 194, 196, 197, 199, 200, 201, 203, 204, 206, 207, 208, 210, 211, 213, 214, 215]
def asK3 : List Addr := [217, 218, 220, 221, 222, 224, 225, 227, 228, 229, 231, 232, 234, 235, 236, 239, 240, 241, 243, 244, 246, 247, 248, 251, 252, 253, 255, 256, 258, 259, 260, 262, 263, 265, 266, 267, 269, 270, 272, 273]
def asK4 : List Addr := [274, 276, 277, 279, 280, 281, 284, 285, 286, 288, 289, 291, 292, 293, 295, 296, 298, 299, 300, 301, 302, 303, 304, 307, 309, 310, 312, 313, 314, 316, 317, 319, 320, 321, 324, 325, 326, 328, 329, 331]
def asK5 : List Addr := [332, 333, 335, 336, 338, 339, 340, 342, 343, 345, 346, 347, 350, 351, 352, 354, 355, 357, 358, 359, 361, 362, 364, 365, 366, 369, 370, 371, 373, 374, 376, 377, 378, 380, 381, 383, 384, 385, 387, 388]
def asK6 : List Addr := [390, 391, 392, 394, 395, 397, 398, 399, 402, 403, 404, 406, 407, 409, 410, 411, 413, 414, 416, 417, 418, 420, 421, 423, 424, 425, 428, 429, 430, 432, 433, 435, 436, 437, 439, 440, 442, 443, 444, 447]
def asK7 : List Addr := [448]
def asK : List Addr := asK0 ++ (asK1 ++ (asK2 ++ (asK3 ++ (asK4 ++ (asK5 ++ (asK6 ++ (asK7)))))))
abbrev tsK : List Addr := [426]
theorem eK : ∀ P, asK = (hdA.heap_39 P).map (·.1) := fun P => by kernel_rfl
set_option maxHeartbeats 0 in
theorem run1 (w : PySem.World) : HandSHeadRun.RunEq (PySem.W.OpenLaw.row PySem.Challenge.rw_ringclear_k12_refused_in_order) qv (PySem.W.kmHook hdA.heap_39 asK eK tsK) (obK asK tsK) 20000 looseN (w.withFollow "special-get-raises" false) := by
  intro os
  kernel_rfl
set_option maxHeartbeats 0 in
theorem run2 (w : PySem.World) : HandSHeadRun.RunEq (PySem.W.OpenLaw.row PySem.Challenge.rw_ringclear_k12_refused_in_order) qv (PySem.W.kmHook hdA.heap_39 asK eK tsK) (obK asK tsK) 20000 looseN (w.withFollow "special-get-raises" true) := by
  intro os
  kernel_rfl
end Rc

namespace Rc
open PySem PySem.Spec PyProof.Rows L2 LamX
set_option maxHeartbeats 0 in
theorem all_mk {l : PySem.W.OpenLaw} {w : World} {K : PySem.W.Frag} {h : Heap} {mg : Str → Option Value} {fa C c PT : Addr} (X : K.In h)
    (hfa : mg "law" = some (.ref fa))
    (hT : h.get? PT = some { cls := .none, data := .fields #[] })
    (nT : K.lookup PT = none)
    (TC : TopB K mg C)
    (d_is_name : DefOf X mg "is_name" (topS 10))
    (d_is_whole : DefOf X mg "is_whole" (topS 11))
    (d_is_amount : DefOf X mg "is_amount" (topS 12))
    (d_check_persons : DefOf X mg "check_persons" (topS 16))
    (d_check_amount : DefOf X mg "check_amount" (topS 17))
    (d_split_notes : DefOf X mg "split_notes" (topS 18))
    (d_with_changed : DefOf X mg "with_changed" (topS 19))
    (d_l_pot : DefOf X mg "_law_pot" (topS 22))
    (d_l_take : DefOf X mg "_law_take" (topS 23))
    (d_l_name : DefOf X mg "_law_name" (topS 24))
    (d_l_names : DefOf X mg "_law_names" (topS 25))
    (d_l_among : DefOf X mg "_law_among" (topS 26))
    (d_l_amount : DefOf X mg "_law_amount" (topS 27))
    (d_l_model : DefOf X mg "_law_model" (topS 28))
    (d_l_parted : DefOf X mg "_law_parted" (topS 29))
    (d_l_left : DefOf X mg "_law_left" (topS 30))
    (d_l_cash : DefOf X mg "_law_cash" (topS 31))
    (d_l_deeds : DefOf X mg "_law_deeds" (topS 32))
    (d_l_done : DefOf X mg "_law_done" (topS 33))
    (d_l_booked : DefOf X mg "_law_booked" (topS 34))
    (d_l_alike : DefOf X mg "_law_alike" (topS 35))
    (d_l_no_name : DefOf X mg "_law_no_name" (topS 36))
    (d_l_no_amount : DefOf X mg "_law_no_amount" (topS 37))
    (d_l_told : DefOf X mg "_law_told" (topS 38))
    (d_l_wanted : DefOf X mg "_law_wanted" (topS 39))
    (d_l_spoilt : DefOf X mg "_law_spoilt" (topS 41))
    (d_l_right : DefOf X mg "_law_right" (topS 42))
    (d_law : DefOf X mg "law" (topS 43))
    (m_init : MethOf K C "__init__" "Book.__init__" (inBook 0))
    (m_with_these : MethOf K C "with_these" "Book.with_these" (inBook 1))
    (m_has : MethOf K C "has" "Book.has" (inBook 4))
    (m_place_of : MethOf K C "place_of" "Book.place_of" (inBook 2))
    (m_persons : MethOf K C "persons" "Book.persons" (inBook 3))
    (m_given : MethOf K C "given" "Book.given" (inBook 5))
    (m_fallen : MethOf K C "fallen" "Book.fallen" (inBook 6))
    (m_notes : MethOf K C "notes" "Book.notes" (inBook 7))
    (m_pile : MethOf K C "pile" "Book.pile" (inBook 8))
    (m_fallen_to : MethOf K C "fallen_to" "Book.fallen_to" (inBook 10))
    (m_cash : MethOf K C "cash" "Book.cash" (inBook 11))
    (m_put : MethOf K C "put" "Book.put" (inBook 12))
    (m_give : MethOf K C "give" "Book.give" (inBook 13))
    (dcp : DefOfC X mg "_law_asked" (topS 40) c)
    (CH : PySem.W.codeHdIn K c PT = true)
    (c_LETTERS : ConOf mg "LETTERS" (.str "abcdefghijklmnopqrstuvwxyz"))
    (c_LONGEST : ConOf mg "LONGEST" (.int 8))
    (c_MOST : ConOf mg "MOST" (.int 60))
    (c_MOST_PERSONS : ConOf mg "MOST_PERSONS" (.int 12))
    (B : Blt mg)
    (B2 : Blt2 mg)
    (B3 : Blt3 mg)
    (xC12 : ∃ (Z : Xs) (CB : Addr), C12 l.prog K mg Z CB)
    (TE : ClsE K C) :
    LawAtG l w K CX0 12 63 "_law_script" mg fa h := by
  obtain ⟨f_is_name, fd_is_name, F_is_name, g_is_name⟩ := d_is_name
  obtain ⟨f_is_whole, fd_is_whole, F_is_whole, g_is_whole⟩ := d_is_whole
  obtain ⟨f_is_amount, fd_is_amount, F_is_amount, g_is_amount⟩ := d_is_amount
  obtain ⟨f_check_persons, fd_check_persons, F_check_persons, g_check_persons⟩ := d_check_persons
  obtain ⟨f_check_amount, fd_check_amount, F_check_amount, g_check_amount⟩ := d_check_amount
  obtain ⟨f_split_notes, fd_split_notes, F_split_notes, g_split_notes⟩ := d_split_notes
  obtain ⟨f_with_changed, fd_with_changed, F_with_changed, g_with_changed⟩ := d_with_changed
  obtain ⟨f_l_pot, fd_l_pot, F_l_pot, g_l_pot⟩ := d_l_pot
  obtain ⟨f_l_take, fd_l_take, F_l_take, g_l_take⟩ := d_l_take
  obtain ⟨f_l_name, fd_l_name, F_l_name, g_l_name⟩ := d_l_name
  obtain ⟨f_l_names, fd_l_names, F_l_names, g_l_names⟩ := d_l_names
  obtain ⟨f_l_among, fd_l_among, F_l_among, g_l_among⟩ := d_l_among
  obtain ⟨f_l_amount, fd_l_amount, F_l_amount, g_l_amount⟩ := d_l_amount
  obtain ⟨f_l_model, fd_l_model, F_l_model, g_l_model⟩ := d_l_model
  obtain ⟨f_l_parted, fd_l_parted, F_l_parted, g_l_parted⟩ := d_l_parted
  obtain ⟨f_l_left, fd_l_left, F_l_left, g_l_left⟩ := d_l_left
  obtain ⟨f_l_cash, fd_l_cash, F_l_cash, g_l_cash⟩ := d_l_cash
  obtain ⟨f_l_deeds, fd_l_deeds, F_l_deeds, g_l_deeds⟩ := d_l_deeds
  obtain ⟨f_l_done, fd_l_done, F_l_done, g_l_done⟩ := d_l_done
  obtain ⟨f_l_booked, fd_l_booked, F_l_booked, g_l_booked⟩ := d_l_booked
  obtain ⟨f_l_alike, fd_l_alike, F_l_alike, g_l_alike⟩ := d_l_alike
  obtain ⟨f_l_no_name, fd_l_no_name, F_l_no_name, g_l_no_name⟩ := d_l_no_name
  obtain ⟨f_l_no_amount, fd_l_no_amount, F_l_no_amount, g_l_no_amount⟩ := d_l_no_amount
  obtain ⟨f_l_told, fd_l_told, F_l_told, g_l_told⟩ := d_l_told
  obtain ⟨f_l_wanted, fd_l_wanted, F_l_wanted, g_l_wanted⟩ := d_l_wanted
  obtain ⟨f_l_spoilt, fd_l_spoilt, F_l_spoilt, g_l_spoilt⟩ := d_l_spoilt
  obtain ⟨f_l_right, fd_l_right, F_l_right, g_l_right⟩ := d_l_right
  obtain ⟨f_law, fd_law, F_law, g_law⟩ := d_law
  obtain ⟨f_init, fd_init, F_init, M_init⟩ := m_init
  obtain ⟨f_with_these, fd_with_these, F_with_these, M_with_these⟩ := m_with_these
  obtain ⟨f_has, fd_has, F_has, M_has⟩ := m_has
  obtain ⟨f_place_of, fd_place_of, F_place_of, M_place_of⟩ := m_place_of
  obtain ⟨f_persons, fd_persons, F_persons, M_persons⟩ := m_persons
  obtain ⟨f_given, fd_given, F_given, M_given⟩ := m_given
  obtain ⟨f_fallen, fd_fallen, F_fallen, M_fallen⟩ := m_fallen
  obtain ⟨f_notes, fd_notes, F_notes, M_notes⟩ := m_notes
  obtain ⟨f_pile, fd_pile, F_pile, M_pile⟩ := m_pile
  obtain ⟨f_fallen_to, fd_fallen_to, F_fallen_to, M_fallen_to⟩ := m_fallen_to
  obtain ⟨f_cash, fd_cash, F_cash, M_cash⟩ := m_cash
  obtain ⟨f_put, fd_put, F_put, M_put⟩ := m_put
  obtain ⟨f_give, fd_give, F_give, M_give⟩ := m_give
  obtain ⟨f_l_asked, fd_l_asked, F_l_asked, g_l_asked, e_l_asked⟩ := dcp
  obtain ⟨u_LETTERS, g_LETTERS, t_LETTERS, rfl⟩ := c_LETTERS
  obtain ⟨u_LONGEST, g_LONGEST, t_LONGEST, rfl⟩ := c_LONGEST
  obtain ⟨u_MOST, g_MOST, t_MOST, rfl⟩ := c_MOST
  obtain ⟨u_MOST_PERSONS, g_MOST_PERSONS, t_MOST_PERSONS, rfl⟩ := c_MOST_PERSONS
  obtain ⟨XX, CB12, CC12⟩ := xC12
  have e := hfa.symm.trans g_law
  cases e
  refine law_tab (fd := fd_law) (q := qLam12) X hT nT CH (fun s v => ?_) (fun base _ _ TB0 => ?_)
  · obtain ⟨oc, od, kV, doc, pm, an, cdv, ct, osl, rfl, lk, hcd⟩ := F_law.ex
    exact .of_eq rfl
  · have T := TC.T
    have NM : Has l.prog w K mg base 1 "is_name" ["thing"] (spBool K nameD) f_is_name fd_is_name := ⟨ok_name F_is_name B ⟨t_LETTERS, g_LETTERS⟩ ⟨t_LONGEST, g_LONGEST⟩, g_is_name, F_is_name.kp, (bind1 F_is_name fun _ _ _ _ _ _ _ => rfl)⟩
    have WH : Has l.prog w K mg base 1 "is_whole" ["thing"] (spBool K wholeD) f_is_whole fd_is_whole := ⟨ok_whole F_is_whole B, g_is_whole, F_is_whole.kp, (bind1 F_is_whole fun _ _ _ _ _ _ _ => rfl)⟩
    have AMT : Has l.prog w K mg base 2 "is_amount" ["thing"] (spBool K amountD) f_is_amount fd_is_amount := ⟨ok_amount F_is_amount F_is_whole (bind1 F_is_whole fun _ _ _ _ _ _ _ => rfl) g_is_whole B, g_is_amount, F_is_amount.kp, (bind1 F_is_amount fun _ _ _ _ _ _ _ => rfl)⟩
    have CKP : Has l.prog w K mg base 2 "check_persons" ["persons"] (spCheckP K) f_check_persons fd_check_persons := ⟨ok_checkP F_check_persons B B3 ⟨t_MOST_PERSONS, g_MOST_PERSONS⟩ NM, g_check_persons, F_check_persons.kp, (bind1 F_check_persons fun _ _ _ _ _ _ _ => rfl)⟩
    have CKA : Has l.prog w K mg base 3 "check_amount" ["amount"] (spCheckA K) f_check_amount fd_check_amount := ⟨ok_checkA F_check_amount AMT, g_check_amount, F_check_amount.kp, (bind1 F_check_amount fun _ _ _ _ _ _ _ => rfl)⟩
    have CHG : Has l.prog w K mg base 1 "with_changed" ["row", "place", "thing"] (spChg K) f_with_changed fd_with_changed := ⟨ok_chg F_with_changed, g_with_changed, F_with_changed.kp, (bind3 F_with_changed fun _ _ _ _ _ _ _ _ _ => rfl)⟩
    have SPL : Has l.prog w K mg base 1 "split_notes" ["notes", "fallen"] (spSplit K) f_split_notes fd_split_notes := ⟨ok_split F_split_notes B2, g_split_notes, F_split_notes.kp, (bind2 F_split_notes fun _ _ _ _ _ _ _ _ => rfl)⟩
    have GI : FnOk l.prog w K mg base CX0 3 f_init fd_init ["self", "persons"] (spInit K C) := ok_init F_init T B B3 CKP
    have bI : Binds K fd_init ["self", "persons"] [] := (bind2 F_init fun _ _ _ _ _ _ _ _ => rfl)
    have MK : Mk K C f_init := ⟨TC.makes, M_init.at_, M_init.fn, TC.kp⟩
    have WT : HasM l.prog w K mg base C 5 "with_these" ["self", "gifts", "stacks", "drops"] (spWith K C) f_with_these fd_with_these := ⟨ok_with F_with_these T B3 MK TC.g GI bI, M_with_these, (bind4 F_with_these fun _ _ _ _ _ _ _ _ _ _ => rfl)⟩
    have HS : HasM l.prog w K mg base C 2 "has" ["self", "who"] (spHas K C) f_has fd_has := ⟨ok_has F_has T NM, M_has, (bind2 F_has fun _ _ _ _ _ _ _ _ => rfl)⟩
    have PL : HasM l.prog w K mg base C 3 "place_of" ["self", "who"] (spPlace K C) f_place_of fd_place_of := ⟨ok_place F_place_of T HS, M_place_of, (bind2 F_place_of fun _ _ _ _ _ _ _ _ => rfl)⟩
    have PS : HasM l.prog w K mg base C 1 "persons" ["self"] (spPersons K C) f_persons fd_persons := ⟨ok_persons F_persons T B3, M_persons, (bind1 F_persons fun _ _ _ _ _ _ _ => rfl)⟩
    have GV : HasM l.prog w K mg base C 4 "given" ["self", "who"] (spNum K C Bk.gifts) f_given fd_given := ⟨ok_given F_given T PL, M_given, (bind2 F_given fun _ _ _ _ _ _ _ _ => rfl)⟩
    have FL : HasM l.prog w K mg base C 4 "fallen" ["self", "who"] (spNum K C Bk.drops) f_fallen fd_fallen := ⟨ok_fallen F_fallen T PL, M_fallen, (bind2 F_fallen fun _ _ _ _ _ _ _ _ => rfl)⟩
    have NT : HasM l.prog w K mg base C 4 "notes" ["self", "who"] (spRow K C fun l _ => l) f_notes fd_notes := ⟨ok_notes F_notes T B3 PL, M_notes, (bind2 F_notes fun _ _ _ _ _ _ _ _ => rfl)⟩
    have PI : HasM l.prog w K mg base C 5 "pile" ["self", "who"] (spRow K C leftN) f_pile fd_pile := ⟨ok_pile F_pile T SPL NT FL, M_pile, (bind2 F_pile fun _ _ _ _ _ _ _ _ => rfl)⟩
    have FT : HasM l.prog w K mg base C 4 "fallen_to" ["self", "who"] (spCalc K C fun M _ z => fallTo M z) f_fallen_to fd_fallen_to := ⟨ok_fallTo F_fallen_to T B3 PL SPL, M_fallen_to, (bind2 F_fallen_to fun _ _ _ _ _ _ _ _ => rfl)⟩
    have CS : HasM l.prog w K mg base C 5 "cash" ["self", "who"] (spCalc K C cashM) f_cash fd_cash := ⟨ok_cash F_cash T GV FT FL, M_cash, (bind2 F_cash fun _ _ _ _ _ _ _ _ => rfl)⟩
    have PU : HasM l.prog w K mg base C 6 "put" ["self", "who", "to", "amount"] (spPut K C) f_put fd_put := ⟨ok_put F_put T B B3 ⟨t_MOST, g_MOST⟩ PL CKA CHG WT, M_put, (bind4 F_put fun _ _ _ _ _ _ _ _ _ _ => rfl)⟩
    have GE : HasM l.prog w K mg base C 6 "give" ["self", "who", "amount"] (spGive K C) f_give fd_give := ⟨ok_give F_give T PL CKA CHG WT, M_give, (bind3 F_give fun _ _ _ _ _ _ _ _ _ => rfl)⟩
    have TK : HasTake l.prog w K mg base f_l_take fd_l_take := ⟨ok_take F_l_take B2, g_l_take, F_l_take.kp, (bind2 F_l_take fun _ _ _ _ _ _ _ _ => rfl)⟩
    have AM : HasAmong l.prog w K mg base f_l_among fd_l_among := ⟨ok_among F_l_among B TK, g_l_among, F_l_among.kp, (bind2 F_l_among fun _ _ _ _ _ _ _ _ => rfl)⟩
    have LP : Has l.prog w K mg base 3 "_law_pot" ["_law_script", "_law_k"] (spPot K) f_l_pot fd_l_pot := ⟨ok_pot F_l_pot B B2, g_l_pot, F_l_pot.kp, (bind2 F_l_pot fun _ _ _ _ _ _ _ _ => rfl)⟩
    have LNM : Has l.prog w K mg base 2 "_law_name" ["_law_pot_here", "_law_used"] spLNm f_l_name fd_l_name := ⟨ok_lnm F_l_name B B2 TK, g_l_name, F_l_name.kp, (bind2 F_l_name fun _ _ _ _ _ _ _ _ => rfl)⟩
    have LNS : Has l.prog w K mg base 3 "_law_names" ["_law_pot_here", "_law_many"] spLNms f_l_names fd_l_names := ⟨ok_lnms F_l_names B2 LNM, g_l_names, F_l_names.kp, (bind2 F_l_names fun _ _ _ _ _ _ _ _ => rfl)⟩
    have LAM : Has l.prog w K mg base 2 "_law_amount" ["_law_pot_here", "_law_size"] spLAm f_l_amount fd_l_amount := ⟨ok_lam F_l_amount TK, g_l_amount, F_l_amount.kp, (bind2 F_l_amount fun _ _ _ _ _ _ _ _ => rfl)⟩
    have LMD : Has l.prog w K mg base 1 "_law_model" ["_law_names_here"] (spLMd K) f_l_model fd_l_model := ⟨ok_lmd F_l_model B3, g_l_model, F_l_model.kp, (bind1 F_l_model fun _ _ _ _ _ _ _ => rfl)⟩
    have LPT : Has l.prog w K mg base 1 "_law_parted" ["_law_model_here", "_law_who"] (spLPt K) f_l_parted fd_l_parted := ⟨ok_lpt F_l_parted B B2, g_l_parted, F_l_parted.kp, (bind2 F_l_parted fun _ _ _ _ _ _ _ _ => rfl)⟩
    have LLF : Has l.prog w K mg base 2 "_law_left" ["_law_model_here", "_law_who"] (spLLf K) f_l_left fd_l_left := ⟨ok_llf F_l_left LPT, g_l_left, F_l_left.kp, (bind2 F_l_left fun _ _ _ _ _ _ _ _ => rfl)⟩
    have LCS : Has l.prog w K mg base 2 "_law_cash" ["_law_model_here", "_law_who"] (spLCs K) f_l_cash fd_l_cash := ⟨ok_lcs F_l_cash B3 LPT, g_l_cash, F_l_cash.kp, (bind2 F_l_cash fun _ _ _ _ _ _ _ _ => rfl)⟩
    have LDS : Has l.prog w K mg base 3 "_law_deeds" ["_law_pot_here", "_law_names_here", "_law_many", "_law_size"] (spLDs K) f_l_deeds fd_l_deeds := ⟨ok_lds F_l_deeds B2 TK AM LAM, g_l_deeds, F_l_deeds.kp, (bind4 F_l_deeds fun _ _ _ _ _ _ _ _ _ _ => rfl)⟩
    have LDN : Has l.prog w K mg base 1 "_law_done" ["_law_model_here", "_law_deed"] (spLDn K) f_l_done fd_l_done := ⟨ok_ldn F_l_done, g_l_done, F_l_done.kp, (bind2 F_l_done fun _ _ _ _ _ _ _ _ => rfl)⟩
    have LBK : Has l.prog w K mg base 7 "_law_booked" ["_law_book", "_law_deeds_here"] (spLBk12 K C) f_l_booked fd_l_booked := ⟨ok_lbk12 F_l_booked T GE PU, g_l_booked, F_l_booked.kp, (bind2 F_l_booked fun _ _ _ _ _ _ _ _ => rfl)⟩
    have LAL : HasG l.prog w K mg base 6 "_law_alike" ["_law_model_here", "_law_book"] (spLAl K C) f_l_alike fd_l_alike := ⟨ok_lal F_l_alike T B2 PS GV FL CS NT PI LCS LLF, g_l_alike, F_l_alike.kp, (bind2 F_l_alike fun _ _ _ _ _ _ _ _ => rfl)⟩
    have PLN : HasMX l.prog w K mg base C 3 "place_of" ["self", "who"] (spNo K C XX.N) f_place_of fd_place_of := ⟨no_place F_place_of T CC12.N HS, M_place_of, (bind2 F_place_of fun _ _ _ _ _ _ _ _ => rfl)⟩
    have CAN : HasX l.prog w K mg base 3 "check_amount" ["amount"] (spCAX K XX.A) f_check_amount fd_check_amount := ⟨no_checkA F_check_amount CC12.A AMT, g_check_amount, F_check_amount.kp, (bind1 F_check_amount fun _ _ _ _ _ _ _ => rfl)⟩
    have PUR : HasMX l.prog w K mg base C 6 "put" ["self", "who", "to", "amount"] (spPuR K C XX) f_put fd_put := ⟨no_puR F_put T B B3 ⟨t_MOST, g_MOST⟩ CC12.F PL PLN.ok CKA CAN.ok, M_put, (bind4 F_put fun _ _ _ _ _ _ _ _ _ _ => rfl)⟩
    have GER : HasMX l.prog w K mg base C 6 "give" ["self", "who", "amount"] (spGiR K C XX) f_give fd_give := ⟨no_giR F_give T PL PLN.ok CKA CAN.ok, M_give, (bind3 F_give fun _ _ _ _ _ _ _ _ _ => rfl)⟩
    have LNN : Has l.prog w K mg base 4 "_law_no_name" ["_law_pot_here", "_law_names_here"] (spLNn K) f_l_no_name fd_l_no_name := ⟨ok_lnn F_l_no_name B TK LNS, g_l_no_name, F_l_no_name.kp, (bind2 F_l_no_name fun _ _ _ _ _ _ _ _ => rfl)⟩
    have LNO : Has l.prog w K mg base 2 "_law_no_amount" ["_law_pot_here"] (spLNo12 K) f_l_no_amount fd_l_no_amount := ⟨ok_lnm12 F_l_no_amount TK, g_l_no_amount, F_l_no_amount.kp, (bind1 F_l_no_amount fun _ _ _ _ _ _ _ => rfl)⟩
    have LWA : HasG l.prog w K mg base 1 "_law_wanted" ["_law_model_here", "_law_who", "_law_to", "_law_amount_here", "_law_is_full"] (spLWa K) f_l_wanted fd_l_wanted := ⟨ok_lwa F_l_wanted B B2, g_l_wanted, F_l_wanted.kp, (bind5 F_l_wanted fun _ _ _ _ _ _ _ _ _ _ _ => rfl)⟩
    have LSO : Has l.prog w K mg base 5 "_law_spoilt" ["_law_pot_here", "_law_names_here", "_law_deed"] (spLSo K) f_l_spoilt fd_l_spoilt := ⟨ok_lso F_l_spoilt B B2 B3 TK LNN LNO, g_l_spoilt, F_l_spoilt.kp, (bind3 F_l_spoilt fun _ _ _ _ _ _ _ _ _ => rfl)⟩
    have LAS : HasG l.prog w K mg base 10 "_law_asked" ["_law_book", "_law_model_here", "_law_deed"] (spLAs K C [(PT, qLam12)]) f_l_asked fd_l_asked := ⟨ok_las F_l_asked e_l_asked TB0 List.mem_cons_self (fun p hp _ => by rw [List.mem_singleton.mp hp]) F_l_told g_l_told (bind1 F_l_told fun _ _ _ _ _ _ _ => rfl) CC12 T B B2 B3 LWA PU (fnOr (FnOk.up PU.ok) PUR.ok) GE (fnOr (FnOk.up GE.ok) GER.ok), g_l_asked, F_l_asked.kp, (bind3 F_l_asked fun _ _ _ _ _ _ _ _ _ => rfl)⟩
    have LRT : HasG l.prog w K mg base 11 "_law_right" ["_law_pot_here", "_law_book", "_law_model_here"] (spLRt12 K C [(PT, qLam12)]) f_l_right fd_l_right := ⟨ok_lrt12 F_l_right T TE TC.g B TK LDS LSO LAS LAL LDN, g_l_right, F_l_right.kp, (bind3 F_l_right fun _ _ _ _ _ _ _ _ _ => rfl)⟩
    exact ok_law F_law B B2 B3 LP TK AM LNS LMD LAM LDN LBK LRT MK TC.g GI bI
end Rc

open PySem PySem.W PyProof.Rows
set_option maxHeartbeats 0 in
theorem PySem.Challenge.cw_ringclear_k12_refused_in_order_holds : PySem.Challenge.rw_ringclear_k12_refused_in_order.Holds := by
  w_on; o_law
  refine HandSHeadRun.head_any (r := PySem.W.OpenLaw.row PySem.Challenge.rw_ringclear_k12_refused_in_order) (q := Rc.qv) (H := PySem.W.kmHook Rc.hdA.heap_39 Rc.asK Rc.eK Rc.tsK) (ob := Rc.obK Rc.asK Rc.tsK) (M := 20000) (loose := Rc.looseN) (kwd := []) (d := Rc.dL) Rc.obK_ok Rc.hx1 Rc.hx2 ?hrun Rc.hx3 Rc.hx4 Rc.hx5 Rc.hx6 ?hsaid Rc.hx7 Rc.hx8 ?hw ?hc
  (case hrun => exact fun w => PySem.W.byRow2 "special-get-raises" (P := HandSHeadRun.RunEq _ _ _ _ _ _) Rc.run1 Rc.run2 w)
  (case hsaid => assumption)
  (case hw => w_witness2)
  k_fill
  refine Rc.walk_ofGT (l := PySem.Challenge.rw_ringclear_k12_refused_in_order) (n := 63) (k := 12) (x := "_law_script") (CX := fun _ => L2.CX0) rfl (by decide) Rc.dL_defs ⟨rfl, by decide, by decide⟩ (fun w h Y => PySem.W.km_in_of Y) ?F (fun _ _ _ _ _ h => h)
  case F =>
    intro w mg fa h Y KX G hmg
    rw [Rc.dL_name] at hmg
    have hT := PySem.W.km_tabs_of Y _ List.mem_cons_self
    refine' Rc.all_mk KX hmg hT ?nT ?TC ?d_is_name ?d_is_whole ?d_is_amount ?d_check_persons ?d_check_amount ?d_split_notes ?d_with_changed ?d_l_pot ?d_l_take ?d_l_name ?d_l_names ?d_l_among ?d_l_amount ?d_l_model ?d_l_parted ?d_l_left ?d_l_cash ?d_l_deeds ?d_l_done ?d_l_booked ?d_l_alike ?d_l_no_name ?d_l_no_amount ?d_l_told ?d_l_wanted ?d_l_spoilt ?d_l_right ?d_law ?m_init ?m_with_these ?m_has ?m_place_of ?m_persons ?m_given ?m_fallen ?m_notes ?m_pile ?m_fallen_to ?m_cash ?m_put ?m_give ?dcp ?CH ?c_LETTERS ?c_LONGEST ?c_MOST ?c_MOST_PERSONS ?B ?B2 ?B3 ?xC12 ?TE
    case TC => (refine' Rc.mkTop KX G ?tcA ?tcPg ?tcHd ?tcPo ?tcSa ?tcMk ?tcKc ?tcN1 ?tcN2 ?tcN3 ?tcN4; (case tcA => k_is); (case tcPg => k_is); (case tcHd => k_is); (case tcPo => k_is); (case tcSa => k_is); (case tcMk => k_is); (case tcKc => k_is); (case tcN1 => k_is); (case tcN2 => k_is); (case tcN3 => k_is); (case tcN4 => k_is))
    case dcp => (refine' Rc.mkDefC KX G ?a_dcp ?l_dcp ?c_dcp ?k_dcp; (case a_dcp => k_is); (case l_dcp => k_is); (case c_dcp => k_is); (case k_dcp => k_is))
    case CH => kernel_rfl
    case nT => kernel_rfl
    case c_LETTERS => (refine' Rc.con_of KX G ?ca_LETTERS ?cr_LETTERS; (case ca_LETTERS => k_is); (case cr_LETTERS => exact ⟨_, rfl⟩))
    case c_LONGEST => (refine' Rc.con_of KX G ?ca_LONGEST ?cr_LONGEST; (case ca_LONGEST => k_is); (case cr_LONGEST => exact ⟨_, rfl⟩))
    case c_MOST => (refine' Rc.con_of KX G ?ca_MOST ?cr_MOST; (case ca_MOST => k_is); (case cr_MOST => exact ⟨_, rfl⟩))
    case c_MOST_PERSONS => (refine' Rc.con_of KX G ?ca_MOST_PERSONS ?cr_MOST_PERSONS; (case ca_MOST_PERSONS => k_is); (case cr_MOST_PERSONS => exact ⟨_, rfl⟩))
    case B => (refine' ⟨PySem.W.mg_none_of KX G ?Bz0, PySem.W.mg_none_of KX G ?Bz1, PySem.W.mg_none_of KX G ?Bz2, PySem.W.mg_none_of KX G ?Bz3, PySem.W.mg_none_of KX G ?Bz4, PySem.W.mg_none_of KX G ?Bz5⟩; (case Bz0 => k_is); (case Bz1 => k_is); (case Bz2 => k_is); (case Bz3 => k_is); (case Bz4 => k_is); (case Bz5 => k_is))
    case B2 => (refine' ⟨PySem.W.mg_none_of KX G ?B2z0, PySem.W.mg_none_of KX G ?B2z1, PySem.W.mg_none_of KX G ?B2z2, PySem.W.mg_none_of KX G ?B2z3, PySem.W.mg_none_of KX G ?B2z4, PySem.W.mg_none_of KX G ?B2z5⟩; (case B2z0 => k_is); (case B2z1 => k_is); (case B2z2 => k_is); (case B2z3 => k_is); (case B2z4 => k_is); (case B2z5 => k_is))
    case B3 => (refine' ⟨PySem.W.mg_none_of KX G ?B3z0, PySem.W.mg_none_of KX G ?B3z1, PySem.W.mg_none_of KX G ?B3z2, PySem.W.mg_none_of KX G ?B3z3, PySem.W.mg_none_of KX G ?B3z4, PySem.W.mg_none_of KX G ?B3z5⟩; (case B3z0 => k_is); (case B3z1 => k_is); (case B3z2 => k_is); (case B3z3 => k_is); (case B3z4 => k_is); (case B3z5 => k_is))
    case d_is_name => (refine' Rc.mkDef KX G ?a_d_is_name ?l_d_is_name ?c_d_is_name ?k_d_is_name; (case a_d_is_name => k_is); (case l_d_is_name => k_is); (case c_d_is_name => k_is); (case k_d_is_name => k_is))
    case d_is_whole => (refine' Rc.mkDef KX G ?a_d_is_whole ?l_d_is_whole ?c_d_is_whole ?k_d_is_whole; (case a_d_is_whole => k_is); (case l_d_is_whole => k_is); (case c_d_is_whole => k_is); (case k_d_is_whole => k_is))
    case d_is_amount => (refine' Rc.mkDef KX G ?a_d_is_amount ?l_d_is_amount ?c_d_is_amount ?k_d_is_amount; (case a_d_is_amount => k_is); (case l_d_is_amount => k_is); (case c_d_is_amount => k_is); (case k_d_is_amount => k_is))
    case d_check_persons => (refine' Rc.mkDef KX G ?a_d_check_persons ?l_d_check_persons ?c_d_check_persons ?k_d_check_persons; (case a_d_check_persons => k_is); (case l_d_check_persons => k_is); (case c_d_check_persons => k_is); (case k_d_check_persons => k_is))
    case d_check_amount => (refine' Rc.mkDef KX G ?a_d_check_amount ?l_d_check_amount ?c_d_check_amount ?k_d_check_amount; (case a_d_check_amount => k_is); (case l_d_check_amount => k_is); (case c_d_check_amount => k_is); (case k_d_check_amount => k_is))
    case d_split_notes => (refine' Rc.mkDef KX G ?a_d_split_notes ?l_d_split_notes ?c_d_split_notes ?k_d_split_notes; (case a_d_split_notes => k_is); (case l_d_split_notes => k_is); (case c_d_split_notes => k_is); (case k_d_split_notes => k_is))
    case d_with_changed => (refine' Rc.mkDef KX G ?a_d_with_changed ?l_d_with_changed ?c_d_with_changed ?k_d_with_changed; (case a_d_with_changed => k_is); (case l_d_with_changed => k_is); (case c_d_with_changed => k_is); (case k_d_with_changed => k_is))
    case d_l_pot => (refine' Rc.mkDef KX G ?a_d_l_pot ?l_d_l_pot ?c_d_l_pot ?k_d_l_pot; (case a_d_l_pot => k_is); (case l_d_l_pot => k_is); (case c_d_l_pot => k_is); (case k_d_l_pot => k_is))
    case d_l_take => (refine' Rc.mkDef KX G ?a_d_l_take ?l_d_l_take ?c_d_l_take ?k_d_l_take; (case a_d_l_take => k_is); (case l_d_l_take => k_is); (case c_d_l_take => k_is); (case k_d_l_take => k_is))
    case d_l_name => (refine' Rc.mkDef KX G ?a_d_l_name ?l_d_l_name ?c_d_l_name ?k_d_l_name; (case a_d_l_name => k_is); (case l_d_l_name => k_is); (case c_d_l_name => k_is); (case k_d_l_name => k_is))
    case d_l_names => (refine' Rc.mkDef KX G ?a_d_l_names ?l_d_l_names ?c_d_l_names ?k_d_l_names; (case a_d_l_names => k_is); (case l_d_l_names => k_is); (case c_d_l_names => k_is); (case k_d_l_names => k_is))
    case d_l_among => (refine' Rc.mkDef KX G ?a_d_l_among ?l_d_l_among ?c_d_l_among ?k_d_l_among; (case a_d_l_among => k_is); (case l_d_l_among => k_is); (case c_d_l_among => k_is); (case k_d_l_among => k_is))
    case d_l_amount => (refine' Rc.mkDef KX G ?a_d_l_amount ?l_d_l_amount ?c_d_l_amount ?k_d_l_amount; (case a_d_l_amount => k_is); (case l_d_l_amount => k_is); (case c_d_l_amount => k_is); (case k_d_l_amount => k_is))
    case d_l_model => (refine' Rc.mkDef KX G ?a_d_l_model ?l_d_l_model ?c_d_l_model ?k_d_l_model; (case a_d_l_model => k_is); (case l_d_l_model => k_is); (case c_d_l_model => k_is); (case k_d_l_model => k_is))
    case d_l_parted => (refine' Rc.mkDef KX G ?a_d_l_parted ?l_d_l_parted ?c_d_l_parted ?k_d_l_parted; (case a_d_l_parted => k_is); (case l_d_l_parted => k_is); (case c_d_l_parted => k_is); (case k_d_l_parted => k_is))
    case d_l_left => (refine' Rc.mkDef KX G ?a_d_l_left ?l_d_l_left ?c_d_l_left ?k_d_l_left; (case a_d_l_left => k_is); (case l_d_l_left => k_is); (case c_d_l_left => k_is); (case k_d_l_left => k_is))
    case d_l_cash => (refine' Rc.mkDef KX G ?a_d_l_cash ?l_d_l_cash ?c_d_l_cash ?k_d_l_cash; (case a_d_l_cash => k_is); (case l_d_l_cash => k_is); (case c_d_l_cash => k_is); (case k_d_l_cash => k_is))
    case d_l_deeds => (refine' Rc.mkDef KX G ?a_d_l_deeds ?l_d_l_deeds ?c_d_l_deeds ?k_d_l_deeds; (case a_d_l_deeds => k_is); (case l_d_l_deeds => k_is); (case c_d_l_deeds => k_is); (case k_d_l_deeds => k_is))
    case d_l_done => (refine' Rc.mkDef KX G ?a_d_l_done ?l_d_l_done ?c_d_l_done ?k_d_l_done; (case a_d_l_done => k_is); (case l_d_l_done => k_is); (case c_d_l_done => k_is); (case k_d_l_done => k_is))
    case d_l_booked => (refine' Rc.mkDef KX G ?a_d_l_booked ?l_d_l_booked ?c_d_l_booked ?k_d_l_booked; (case a_d_l_booked => k_is); (case l_d_l_booked => k_is); (case c_d_l_booked => k_is); (case k_d_l_booked => k_is))
    case d_l_alike => (refine' Rc.mkDef KX G ?a_d_l_alike ?l_d_l_alike ?c_d_l_alike ?k_d_l_alike; (case a_d_l_alike => k_is); (case l_d_l_alike => k_is); (case c_d_l_alike => k_is); (case k_d_l_alike => k_is))
    case d_l_no_name => (refine' Rc.mkDef KX G ?a_d_l_no_name ?l_d_l_no_name ?c_d_l_no_name ?k_d_l_no_name; (case a_d_l_no_name => k_is); (case l_d_l_no_name => k_is); (case c_d_l_no_name => k_is); (case k_d_l_no_name => k_is))
    case d_l_no_amount => (refine' Rc.mkDef KX G ?a_d_l_no_amount ?l_d_l_no_amount ?c_d_l_no_amount ?k_d_l_no_amount; (case a_d_l_no_amount => k_is); (case l_d_l_no_amount => k_is); (case c_d_l_no_amount => k_is); (case k_d_l_no_amount => k_is))
    case d_l_told => (refine' Rc.mkDef KX G ?a_d_l_told ?l_d_l_told ?c_d_l_told ?k_d_l_told; (case a_d_l_told => k_is); (case l_d_l_told => k_is); (case c_d_l_told => k_is); (case k_d_l_told => k_is))
    case d_l_wanted => (refine' Rc.mkDef KX G ?a_d_l_wanted ?l_d_l_wanted ?c_d_l_wanted ?k_d_l_wanted; (case a_d_l_wanted => k_is); (case l_d_l_wanted => k_is); (case c_d_l_wanted => k_is); (case k_d_l_wanted => k_is))
    case d_l_spoilt => (refine' Rc.mkDef KX G ?a_d_l_spoilt ?l_d_l_spoilt ?c_d_l_spoilt ?k_d_l_spoilt; (case a_d_l_spoilt => k_is); (case l_d_l_spoilt => k_is); (case c_d_l_spoilt => k_is); (case k_d_l_spoilt => k_is))
    case d_l_right => (refine' Rc.mkDef KX G ?a_d_l_right ?l_d_l_right ?c_d_l_right ?k_d_l_right; (case a_d_l_right => k_is); (case l_d_l_right => k_is); (case c_d_l_right => k_is); (case k_d_l_right => k_is))
    case d_law => (refine' Rc.mkDef KX G ?a_d_law ?l_d_law ?c_d_law ?k_d_law; (case a_d_law => k_is); (case l_d_law => k_is); (case c_d_law => k_is); (case k_d_law => k_is))
    case m_init => (refine' Rc.mkMeth ?a_m_init ?i_m_init ?l_m_init ?c_m_init ?k_m_init; (case a_m_init => k_is); (case i_m_init => k_is); (case l_m_init => k_is); (case c_m_init => k_is); (case k_m_init => k_is))
    case m_with_these => (refine' Rc.mkMeth ?a_m_with_these ?i_m_with_these ?l_m_with_these ?c_m_with_these ?k_m_with_these; (case a_m_with_these => k_is); (case i_m_with_these => k_is); (case l_m_with_these => k_is); (case c_m_with_these => k_is); (case k_m_with_these => k_is))
    case m_has => (refine' Rc.mkMeth ?a_m_has ?i_m_has ?l_m_has ?c_m_has ?k_m_has; (case a_m_has => k_is); (case i_m_has => k_is); (case l_m_has => k_is); (case c_m_has => k_is); (case k_m_has => k_is))
    case m_place_of => (refine' Rc.mkMeth ?a_m_place_of ?i_m_place_of ?l_m_place_of ?c_m_place_of ?k_m_place_of; (case a_m_place_of => k_is); (case i_m_place_of => k_is); (case l_m_place_of => k_is); (case c_m_place_of => k_is); (case k_m_place_of => k_is))
    case m_persons => (refine' Rc.mkMeth ?a_m_persons ?i_m_persons ?l_m_persons ?c_m_persons ?k_m_persons; (case a_m_persons => k_is); (case i_m_persons => k_is); (case l_m_persons => k_is); (case c_m_persons => k_is); (case k_m_persons => k_is))
    case m_given => (refine' Rc.mkMeth ?a_m_given ?i_m_given ?l_m_given ?c_m_given ?k_m_given; (case a_m_given => k_is); (case i_m_given => k_is); (case l_m_given => k_is); (case c_m_given => k_is); (case k_m_given => k_is))
    case m_fallen => (refine' Rc.mkMeth ?a_m_fallen ?i_m_fallen ?l_m_fallen ?c_m_fallen ?k_m_fallen; (case a_m_fallen => k_is); (case i_m_fallen => k_is); (case l_m_fallen => k_is); (case c_m_fallen => k_is); (case k_m_fallen => k_is))
    case m_notes => (refine' Rc.mkMeth ?a_m_notes ?i_m_notes ?l_m_notes ?c_m_notes ?k_m_notes; (case a_m_notes => k_is); (case i_m_notes => k_is); (case l_m_notes => k_is); (case c_m_notes => k_is); (case k_m_notes => k_is))
    case m_pile => (refine' Rc.mkMeth ?a_m_pile ?i_m_pile ?l_m_pile ?c_m_pile ?k_m_pile; (case a_m_pile => k_is); (case i_m_pile => k_is); (case l_m_pile => k_is); (case c_m_pile => k_is); (case k_m_pile => k_is))
    case m_fallen_to => (refine' Rc.mkMeth ?a_m_fallen_to ?i_m_fallen_to ?l_m_fallen_to ?c_m_fallen_to ?k_m_fallen_to; (case a_m_fallen_to => k_is); (case i_m_fallen_to => k_is); (case l_m_fallen_to => k_is); (case c_m_fallen_to => k_is); (case k_m_fallen_to => k_is))
    case m_cash => (refine' Rc.mkMeth ?a_m_cash ?i_m_cash ?l_m_cash ?c_m_cash ?k_m_cash; (case a_m_cash => k_is); (case i_m_cash => k_is); (case l_m_cash => k_is); (case c_m_cash => k_is); (case k_m_cash => k_is))
    case m_put => (refine' Rc.mkMeth ?a_m_put ?i_m_put ?l_m_put ?c_m_put ?k_m_put; (case a_m_put => k_is); (case i_m_put => k_is); (case l_m_put => k_is); (case c_m_put => k_is); (case k_m_put => k_is))
    case m_give => (refine' Rc.mkMeth ?a_m_give ?i_m_give ?l_m_give ?c_m_give ?k_m_give; (case a_m_give => k_is); (case i_m_give => k_is); (case l_m_give => k_is); (case c_m_give => k_is); (case k_m_give => k_is))
    case xC12 => (refine' Rc.mkC12 (Rc.mkCx KX G ?xsN_a ?xsN_a1 ?xsN_a2 ?xsN_a3 ?xsN_a4 ?xsN_a5 ?xsN_a6 ?xsN_a7 ?xsN_a8 ?xsN_a9 ?xsN_b1 ?xsN_b2 ?xsN_b3 ?xsN_b4 ?xsN_b5 ?xsN_b6 ?xsN_b7 ?xsN_i1 ?xsN_i2 ?xsN_i3 ?xsN_i4 ?xsN_i5 ?xsN_i6 ?xsN_i7 ?xsN_i8) (Rc.mkClsP KX G ?xsA_a ?xsA_a1 ?xsA_a2 ?xsA_a3 ?xsA_a4 ?xsA_a5 ?xsA_a6 ?xsA_a7 ?xsA_a8 ?xsA_a9 ?xsA_b1 ?xsA_b2 ?xsA_b3 ?xsA_b4 ?xsA_b5) (Rc.mkCx KX G ?xsF_a ?xsF_a1 ?xsF_a2 ?xsF_a3 ?xsF_a4 ?xsF_a5 ?xsF_a6 ?xsF_a7 ?xsF_a8 ?xsF_a9 ?xsF_b1 ?xsF_b2 ?xsF_b3 ?xsF_b4 ?xsF_b5 ?xsF_b6 ?xsF_b7 ?xsF_i1 ?xsF_i2 ?xsF_i3 ?xsF_i4 ?xsF_i5 ?xsF_i6 ?xsF_i7 ?xsF_i8) ?xsu_nn ?xsu_ff ?xsu_an ?xsu_fn ?xsu_fa; (case xsN_a => k_is); (case xsN_a1 => kx_is); (case xsN_a2 => kx_is); (case xsN_a3 => k_is); (case xsN_a4 => k_is); (case xsN_a5 => k_is); (case xsN_a6 => k_is); (case xsN_a7 => (refine' Rc.all1 ?xsN_a7f0; (case xsN_a7f0 => k_is))); (case xsN_a8 => k_is); (case xsN_a9 => k_is); (case xsN_b1 => k_is); (case xsN_b2 => k_is); (case xsN_b3 => k_is); (case xsN_b4 => k_is); (case xsN_b5 => ks_is); (case xsN_b6 => k_is); (case xsN_b7 => (first | rfl | decide +kernel)); (case xsN_i1 => k_is); (case xsN_i2 => k_is); (case xsN_i3 => k_is); (case xsN_i4 => k_is); (case xsN_i5 => k_is); (case xsN_i6 => k_is); (case xsN_i7 => rfl); (case xsN_i8 => (first | rfl | decide +kernel)); (case xsA_a => (first | k_is | kit_is)); (case xsA_a1 => k_exc); (case xsA_a2 => (first | k_is | kit_is)); (case xsA_a3 => (first | k_is | kit_is)); (case xsA_a4 => (first | k_is | kit_is)); (case xsA_a5 => (first | k_is | kit_is)); (case xsA_a6 => (first | k_is | kit_is)); (case xsA_a7 => (first | k_is | kit_is)); (case xsA_a8 => (first | k_is | kit_is)); (case xsA_a9 => (first | k_is | kit_is)); (case xsA_b1 => (first | k_is | kit_is)); (case xsA_b2 => (first | k_is | kit_is)); (case xsA_b3 => (first | k_is | kit_is)); (case xsA_b4 => (first | k_is | kit_is)); (case xsA_b5 => (first | k_is | kit_is)); (case xsF_a => k_is); (case xsF_a1 => kx_is); (case xsF_a2 => kx_is); (case xsF_a3 => k_is); (case xsF_a4 => k_is); (case xsF_a5 => k_is); (case xsF_a6 => k_is); (case xsF_a7 => (refine' Rc.all1 ?xsF_a7f0; (case xsF_a7f0 => k_is))); (case xsF_a8 => k_is); (case xsF_a9 => k_is); (case xsF_b1 => k_is); (case xsF_b2 => k_is); (case xsF_b3 => k_is); (case xsF_b4 => k_is); (case xsF_b5 => ks_is); (case xsF_b6 => k_is); (case xsF_b7 => (first | rfl | decide +kernel)); (case xsF_i1 => k_is); (case xsF_i2 => k_is); (case xsF_i3 => k_is); (case xsF_i4 => k_is); (case xsF_i5 => k_is); (case xsF_i6 => k_is); (case xsF_i7 => rfl); (case xsF_i8 => (first | rfl | decide +kernel)); (case xsu_nn => (first | k_is | kit_is)); (case xsu_ff => (first | k_is | kit_is)); (case xsu_an => (first | k_is | kit_is)); (case xsu_fn => (first | k_is | kit_is)); (case xsu_fa => (first | k_is | kit_is)))
    case TE => (refine' Rc.mkClsE ?xte_a ?xte_n ?xte_t ?xte_m ?xte_e; (case xte_a => k_is); (case xte_n => k_is); (case xte_t => k_is); (case xte_m => k_is); (case xte_e => k_is))

