import PyProof.Rows.All
import Wide.All
import OpenK.AllK
import Wide.FinOn
import HandS.ForMost
import HandS.IsInst
import HandS.WideBits
import PyProof.ReprRoads
import HandS.Walk
import HandS.TupAny
import HandS.TupMul
import HandS.Strs
import HandS.Zip
import HandS.Codes
import HandS.Exc
import HandS.ExcField
import HandS.ExcSuper
import KE.KExcInit
import KE.KExcSuper
import HandS.WordsExc
import HandS.ExcCtx
import HandS.Hot
import HandS.HotCalls
import HandS.SuiteRaise
import HandS.RaiseFrom
import HandS.ForExc
import HandS.More
import HandS.DictComp
import PyProof.InstNe
import HandS.ExcIs
import KE.KExcIs
import HandS.DictTup
import HandS.TupLen
import PyProof.EqKinds
import PyProof.DictWalks
import PyProof.WalkInts
import HandS.Text
import KE.GoesEnumKw
import HandS.OwnEq
import HandS.FStr
import HandS.Style
import KE.KExcLine
import PySem.Challenge.RW_ringclear_k25_not_covered
set_option Elab.async false
set_option linter.all false
set_option maxRecDepth 100000
namespace Rc
open PySem PySem.Spec PyProof.Rows L2

/-- a promise that is kept where no repr is under way -/
structure FnG (P : Program) (w : World) (K : PySem.W.Frag) (mg : Str → Option Value)
    (base : Heap) (CX : CXT) (k : Nat) (f : Addr) (fd : FuncData) (ps : List Str) (sp : Sp) : Prop where
  len : ∀ vs H Q E, sp vs H Q E → vs.length = ps.length
  go : ∀ (A : Around) (outer : List Env) (s : Shared) (H : Hp) (args : Args) (us : List Value)
    (vs : List V) (Q : VK) (E : XK), Room k A → A.guards = some [] →
    Env0 P w K mg base A outer s H → BindsTo s fd args (ps.zip us) → Vals vs us → sp vs H Q E →
    codeAny (model P w) A (.call (.ref f) args) (CR CX outer P w H s Q E) s

section
variable {P : Program} {w : World} {K : PySem.W.Frag} {mg : Str → Option Value} {base : Heap}

theorem FnG.of {CX : CXT} {k : Nat} {f : Addr} {fd : FuncData} {ps : List Str} {sp : Sp}
    (F : FnOk P w K mg base CX k f fd ps sp) : FnG P w K mg base CX k f fd ps sp :=
  ⟨F.len, fun A outer s H args us vs Q E hr _ e0 hb r h =>
    F.run A outer s H args us vs Q E hr e0 hb r h⟩

/-- a def by its body, no repr being under way -/
theorem okG {CX : CXT} {x qual : Str} {st : Stmt} {f : Addr} {fd : FuncData} {N ps : List Str} {k : Nat} {sp : Sp}
    (F : Fun K x qual st f fd) (S : FnScope N ps (defScope st))
    (len : ∀ vs H Q E, sp vs H Q E → vs.length = ps.length)
    (body : ∀ (cdv : Value) (A : Around) (outer : List Env) (s : Shared) (H : Hp) (vs : List V) (Q : VK) (E : XK),
      Room k (A.deeper (envOfC qual (defScope st) s.heap.objs.size f cdv)) → A.guards = some [] → sp vs H Q E →
      ∃ t, PSs (cxOf CX P w K mg base N qual (defScope st) f cdv A outer s H E) (defBody st) t ∧
        t { nx := fun _ H' => Q .non H', rt := Q } (start N vs) H) :
    FnG P w K mg base CX (k + 1) f fd ps sp := by
  obtain ⟨oc, od, kV, doc, pm, an, cdv, ct, osl, rfl, lk, hcd⟩ := F.ex
  refine ⟨len, fun A outer s H args us vs Q E hr hg e0 hb r hsp => ?_⟩
  have hl := len vs H Q E hsp
  have keep : ∀ b o, base.get? b = some o → s.heap.get? b = some o := fun b o e => (e0.bs b o e).1
  have KX : K.In s.heap := e0.mod.kin.keeps keep
  refine codeAny_call_function hr.depth (KX _ _ lk) rfl S.co S.gen rfl
    (PySem.W.codeRec_of KX hcd) (hb _ _ _ _ ?_)
  refine wpAny_newFunctionEnv_cells S.kind (fun y hy => ?_) fun env he s1 x => ?_
  · obtain ⟨n, v⟩ := y
    exact (S.par n (List.of_mem_zip hy).1).elim .inl fun q => .inr ⟨q, PySem.W.cellsFrom_some _ _ _ (.inl q)⟩
  · subst he
    refine ⟨(e0.mod.nolimit.keeps keep).keeps x.toInCall.keep, codeAny_func ?_⟩
    obtain ⟨t, ht, hq⟩ := body cdv A outer s H vs Q E (hr.deeper _) hg hsp
    have I := inv_start (CX := CX) (E := E) S hr.hd e0 hl r x
    refine wpAny_mono (ht.run [] s1 (start N vs) H _ I hq) (fun fl s' hs => ?_) fun _ _ z => z
    cases fl with
    | ret u =>
      obtain ⟨v, σ', H', J, rv, q⟩ := hs
      exact ⟨v, H', J.os, J.bare, J.base, J.hok, rv, q⟩
    | next =>
      obtain ⟨σ', H', J, q⟩ := hs
      exact ⟨.non, H', J.os, J.bare, J.base, J.hok, rfl, q⟩
    | brk =>
      obtain ⟨_, _, _, q⟩ := hs
      exact q.elim
    | cont =>
      obtain ⟨_, _, _, q⟩ := hs
      exact q.elim
/-- .. where nothing that is raised leaves it -/
theorem okG0 {x qual : Str} {st : Stmt} {f : Addr} {fd : FuncData} {N ps : List Str} {k : Nat} {sp : Sp}
    (F : Fun K x qual st f fd) (S : FnScope N ps (defScope st))
    (len : ∀ vs H Q E, sp vs H Q E → vs.length = ps.length)
    (body : ∀ (cdv : Value) (A : Around) (outer : List Env) (s : Shared) (H : Hp) (vs : List V) (Q : VK) (E : XK),
      Room k (A.deeper (envOfC qual (defScope st) s.heap.objs.size f cdv)) → A.guards = some [] → sp vs H Q E →
      ∃ t, PSs (cxOf CX0 P w K mg base N qual (defScope st) f cdv A outer s H E).nox (defBody st) t ∧
        t { nx := fun _ H' => Q .non H', rt := Q } (start N vs) H) :
    FnG P w K mg base CX0 (k + 1) f fd ps sp :=
  okG F S len fun cdv A outer s H vs Q E hr hg h =>
    let ⟨t, a, b⟩ := body cdv A outer s H vs Q E hr hg h
    ⟨t, a.nox, b⟩
end

section
variable {X : Cx} {CX : CXT} {k : Nat} {f : Addr} {fd : FuncData} {ps : List Str} {sp : Sp} {E : XK} {x : Str}
  {p pos : Pos} {e : Expr} {es : List Expr} {t : TA}

theorem runG {pins : List (Addr × Obj)} {σ : L2.St} {H : Hp} {s : Shared} {Q : VK} {us : List Value} {vs : List V} {ds : List Value} {dvs : List V}
    (F : FnG X.prog X.w X.K X.mg X.base CX k f fd ps sp) (hr : Room k X.A) (hg : X.A.guards = some [])
    (hb : Binds X.K fd ps ds) (hd : Vals dvs ds) (hx : Passes CX X E) (I : Inv X pins σ H s) (r : Vals vs us)
    (h : sp (vs ++ dvs) H Q E) :
    wpAny (model X.prog X.w) X.A (call (.ref f) us) (EP X pins σ Q) X.xe s := by
  have r2 : Vals (vs ++ dvs) (us ++ ds) := r.append hd
  have hl : (us ++ ds).length = ps.length := r2.length.symm.trans (F.len _ _ _ _ h)
  refine wpAny_call (codeAny_mono (F.go X.A X.stack s H ⟨us, []⟩ (us ++ ds) (vs ++ dvs) Q E hr hg
    I.env0 (hb s us I.kIn hl) r2 h) fun r s' hq => ?_)
  match r, hq with
  | .error e, hq => exact hx pins σ H s e s' I hq
  | .ok (.ret u), hq => exact I.after hq
  | .ok .next, hq => exact hq.elim
  | .ok .brk, hq => exact hq.elim
  | .ok .cont, hq => exact hq.elim

theorem pe_callG {ds : List Value} {dvs : List V} (F : FnG X.prog X.w X.K X.mg X.base CX k f fd ps sp) (hr : Room k X.A)
    (gd : X.A.guards = some []) (hg : Gl X x) (hm : X.mg x = some (.ref f)) (hk : PySem.W.keepIn X.K (.ref f) = true)
    (hb : Binds X.K fd ps ds) (hd : Vals dvs ds) (hx : Passes CX X E) (ha : PA X (e :: es) t)
    (hdb : (x == ("__debug__" : Str)) = false := by decide)
    (he : starEach (e :: es) X.env = (false, eval e X.env) :: starEach es X.env := by rfl)
    (hpl : (backTo pos (starEach es X.env)).any (·.1) = false := by rfl) :
    PE X (.Call (.Name x p) (e :: es) [] pos) (tCall sp dvs E t) := by
  refine ⟨fun pins s σ H Q I h => wpAny_Call_Name_kw (ld_glob I hg hm ?_ hdb)⟩
  refine PySem.W.callWith_K (h₀ := X.base) I.ok.mod.kin hk ?_ he hpl
  refine thn (ha.run pos pins s σ H _ I h) fun us s1 z => ?_
  obtain ⟨vs, H1, I1, r, q⟩ := z
  exact ⟨I1.kIn, runG F hr gd hb hd hx I1 r q⟩

/-- f(k = v, ..), no value by place -/
def tCallKw (sp : Sp) (E : XK) (n : Nat) (tk : TA) : TE := fun σ H Q => tk σ H fun zs H2 => zs.length = n ∧ sp zs H2 Q E
theorem pe_callKw {ks : List Str} {kws : List Keyword} {tk : TA} (F : FnOk X.prog X.w X.K X.mg X.base CX k f fd ps sp)
    (hr : Room k X.A) (hg : Gl X x) (hm : X.mg x = some (.ref f)) (hk : PySem.W.keepIn X.K (.ref f) = true)
    (hb : ∀ (s : Shared) (ws : List Value), ws.length = ks.length → BindsTo s fd ⟨[], ks.zip ws⟩ (ps.zip ws)) (hx : Passes CX X E)
    (hkw : PK X kws tk) (hall : (backToKw pos (keywordEach kws X.env)).all (·.1.isSome) = true := by rfl)
    (hks : (backToKw pos (keywordEach kws X.env)).filterMap (·.1) = ks := by rfl)
    (hdb : (x == ("__debug__" : Str)) = false := by decide)
    (hpl : ((backTo pos (starEach [] X.env)).any (·.1) || (backToKw pos (keywordEach kws X.env)).any (·.1.isNone)) = false := by rfl) :
    PE X (.Call (.Name x p) [] kws pos) (tCallKw sp E ks.length tk) := by
  refine ⟨fun pins s σ H Q I h => wpAny_Call_Name_kw (ld_glob I hg hm ?_ hdb)⟩
  refine PySem.W.callWith_KW0 (h₀ := X.base) I.ok.mod.kin hk hall ?_ hpl
  refine thn (hkw.run pos pins s σ H _ I h) fun ws s2 z => ?_
  obtain ⟨zs, H2, I2, rz, l, q⟩ := z
  refine ⟨I2.kIn, ?_⟩
  rw [hks]
  refine wpAny_call (codeAny_mono (F.run X.A X.stack s2 H2 ⟨[], ks.zip ws⟩ ws zs Q E hr I2.env0
    (hb s2 ws (rz.length.symm.trans l)) rz q) fun r s' hq => ?_)
  match r, hq with
  | .error e, hq => exact hx pins σ H2 s2 e s' I2 hq
  | .ok (.ret u), hq => exact I2.after hq
  | .ok .next, hq => exact hq.elim
  | .ok .brk, hq => exact hq.elim
  | .ok .cont, hq => exact hq.elim
end

/-! ### repr -/
/-- no object -/
inductive Flat : V → PyData → Prop
  | non : Flat .non .none
  | bl (b : Bool) : Flat (.bl b) (.bool b)
  | int (i : Int) : Flat (.int i) (.int i)
  | str (x : Str) : Flat (.str x) (.str x)
inductive Flats : List V → List PyData → Prop
  | nil : Flats [] []
  | cons {v : V} {vs : List V} {d : PyData} {ds : List PyData} : Flat v d → Flats vs ds → Flats (v :: vs) (d :: ds)
mutual
/-- data that stands in the heap: none, truths, ints, texts, lists, tuples, dicts with int and text keys -/
inductive Dt (K : PySem.W.Frag) (H : Hp) : V → PyData → Prop
  | non : Dt K H .non .none
  | bl (b : Bool) : Dt K H (.bl b) (.bool b)
  | int (i : Int) : Dt K H (.int i) (.int i)
  | str (x : Str) : Dt K H (.str x) (.str x)
  | lst {a : Addr} {xs : List V} {ds : List PyData} : SqL K H a xs → DtAll K H xs ds → Dt K H (.ref a) (.list ds)
  | tup {a : Addr} {xs : List V} {ds : List PyData} : SqT K H a xs → DtAll K H xs ds → Dt K H (.ref a) (.tuple ds)
  | dct {a : Addr} {kvs : List (Key × V)} {ps : List (PyData × PyData)} : H a = some (.dK kvs) →
      Flats (kvs.map fun p => kV p.1) (ps.map (·.1)) → Flats (kvs.map (·.2)) (ps.map (·.2)) →
      Dt K H (.ref a) (.dict ps)
inductive DtAll (K : PySem.W.Frag) (H : Hp) : List V → List PyData → Prop
  | nil : DtAll K H [] []
  | cons {v : V} {vs : List V} {d : PyData} {ds : List PyData} : Dt K H v d → DtAll K H vs ds → DtAll K H (v :: vs) (d :: ds)
end

theorem Flat.reads {h : Heap} {v : V} {d : PyData} {u : Value} (f : Flat v d) (r : RelV v u) : Reads h u d [] := by
  cases f with
  | non => cases r; exact .none
  | bl b => cases r; exact .bool b
  | int i => obtain ⟨t, rfl⟩ := r; exact .int i t
  | str x => obtain ⟨t, rfl⟩ := r; exact .str x t
theorem Flats.reads {h : Heap} : ∀ {vs : List V} {ds : List PyData} {us : List Value}, Flats vs ds → Vals vs us → ReadsAll h us ds []
  | _, _, _, .nil, .nil => .nil
  | _, _, _, .cons f fs, .cons r rs => .cons (f.reads r) (fs.reads rs)
theorem keys_rel {P : Program} {w : World} : ∀ {es : List DictEntry} {vs : List (Key × Value)} {kvs : List (Key × V)}, Pairs (mixKind P w) es vs → KV kvs vs →
    Vals (kvs.map fun p => kV p.1) (es.map (·.key)) ∧ Vals (kvs.map (·.2)) (es.map (·.val))
  | [], _, _, .nil, .nil => ⟨.nil, .nil⟩
  | e :: es, (k, x) :: vs, (k', y) :: kvs, .cons h1 h2 hp, .cons r rs => by
    obtain ⟨a, b⟩ := keys_rel hp rs
    obtain ⟨e1, e2⟩ := r
    have e1' : k' = k := e1
    subst e1'
    refine ⟨.cons ?_ a, .cons ?_ b⟩
    · rcases keyIs_shape h1 with ⟨i, t, q1, q2⟩ | ⟨z, t, q1, q2⟩
      · have q1' : k' = Sum.inl i := q1
        subst q1'
        exact ⟨t, q2⟩
      · have q1' : k' = Sum.inr z := q1
        subst q1'
        exact ⟨t, q2⟩
    · show L2.RelV y e.val
      rw [h2]
      exact e2
section
variable {X : Cx} {pins : List (Addr × Obj)} {σ : L2.St} {H : Hp} {s : Shared}
/-- a dict alone may hold a dict (itself) -/
def DictTop (d : PyData) : Prop := d.hasDict = false ∨ ∃ ps, d = .dict ps
mutual
theorem Dt.reads (I : Inv X pins σ H s) : ∀ (d : PyData) (v : V) (u : Value), Dt X.K H v d → RelV v u →
    ∃ as, Reads s.heap u d as ∧ ((∃ ps, d = .dict ps) → sysModules ∉ as)
  | .none, _, _, h, r => by
    cases h; cases r
    exact ⟨_, .none, fun z => by obtain ⟨_, z⟩ := z; cases z⟩
  | .bool b, _, _, h, r => by
    cases h; cases r
    exact ⟨_, .bool b, fun z => by obtain ⟨_, z⟩ := z; cases z⟩
  | .int i, _, _, h, r => by
    cases h
    obtain ⟨t, rfl⟩ := r
    exact ⟨_, .int i t, fun z => by obtain ⟨_, z⟩ := z; cases z⟩
  | .str x, _, _, h, r => by
    cases h
    obtain ⟨t, rfl⟩ := r
    exact ⟨_, .str x t, fun z => by obtain ⟨_, z⟩ := z; cases z⟩
  | .list ds, _, _, h, r => by
    cases h with
    | lst hs ha =>
      cases r
      obtain ⟨its, rv, ⟨o, n, ho, hc, _, hd⟩, _⟩ := I.list hs
      obtain ⟨as, q⟩ := Dt.readsAll I ds _ its ha rv
      exact ⟨_, .list ho hc hd q, fun z => by obtain ⟨_, z⟩ := z; cases z⟩
  | .tuple ds, _, _, h, r => by
    cases h with
    | tup hs ha =>
      cases r
      obtain ⟨its, rv, ⟨o, ho, hc, n, hd⟩, _⟩ := I.tuple hs
      obtain ⟨as, q⟩ := Dt.readsAll I ds _ its ha rv
      exact ⟨_, .tuple ho hc hd q, fun z => by obtain ⟨_, z⟩ := z; cases z⟩
  | .dict ps, _, _, h, r => by
    cases h with
    | dct e fk fv =>
      cases r
      obtain ⟨_, ns, vs, kv, o, es, ep, ho, hx, hd, _, hp, _⟩ := I.hok _ _ e
      obtain ⟨a, b⟩ := keys_rel hp kv
      refine ⟨_, .dict ho hx.1 hd (fk.reads a) (fv.reads b), fun _ z => ?_⟩
      have z' := List.mem_singleton.mp (by simpa using z)
      rw [← z'] at ns
      simp at ns
theorem Dt.readsAll (I : Inv X pins σ H s) : ∀ (ds : List PyData) (vs : List V) (us : List Value), DtAll X.K H vs ds → Vals vs us → ∃ as, ReadsAll s.heap us ds as
  | [], _, _, h, r => by
    cases h; cases r
    exact ⟨_, .nil⟩
  | d :: ds, _, _, h, r => by
    cases h with
    | cons h1 h2 =>
      cases r with
      | cons r1 r2 =>
        obtain ⟨as, q1, _⟩ := Dt.reads I d _ _ h1 r1
        obtain ⟨bs, q2⟩ := Dt.readsAll I ds _ _ h2 r2
        exact ⟨_, .cons q1 q2⟩
end
end
section
variable {X : Cx}
def rRepr (K : PySem.W.Frag) : List V → Hp → VK → Prop := fun xs H Q => ∃ v d, xs = [v] ∧ Dt K H v d ∧ d.showable = true ∧ DictTop d ∧ d.depth ≤ 20 ∧ ((∃ i, d = .int i) ∨ d.shown.length ≤ sizeLine) ∧ Q (.str d.shown) H
theorem notInt {d : PyData} {A : Prop} (h : (∃ i, d = .int i) ∨ A) (n : ∀ i, d ≠ .int i) : A := h.elim (fun z => let ⟨i, e⟩ := z; absurd e (n i)) id
theorem call_repr {k : Nat} (hr : Room k X.A) (hg : X.A.guards = some []) : CallR X (.builtin "repr") (rRepr X.K) := by
  intro pins s σ H xs us Q I r h
  obtain ⟨v, d, rfl, hd, hs, ht, hp, hz, q⟩ := h
  obtain ⟨u, rfl, ru⟩ := vals1 r
  obtain ⟨as, rd, nsm⟩ := Dt.reads I d v u hd ru
  have hu := hr.units
  have big : ∀ a, u = .ref a → d.shown.length ≤ sizeLine → wpAny (model X.prog X.w) X.A (call (.builtin "repr") [u]) (EP X pins σ Q) X.xe s := by
    rintro a rfl hz
    refine repr_of_reads' rd hs (fun hx => ?_) hg (by omega) (fun _ _ e => e) (fun h' t tk hk => ?_) hz
    · rcases ht with z | z
      · rw [z] at hx; cases hx
      · exact nsm z
    · exact ⟨.str _, H, I.kept hk, ⟨t, rfl⟩, q⟩
  cases hd with
  | non => cases ru; exact PySem.P.repr_of_none ⟨.str _, H, I.tok _, ⟨_, rfl⟩, q⟩
  | bl b => cases ru; exact PySem.P.repr_of_bool ⟨.str _, H, I.tok _, ⟨_, rfl⟩, q⟩
  | int i =>
    obtain ⟨t, rfl⟩ := ru
    exact PySem.P.repr_of_int (by simpa [PyData.showable] using hs) ⟨.str _, H, I.tok _, ⟨_, rfl⟩, by simpa [PyData.shown] using q⟩
  | str x =>
    obtain ⟨t, rfl⟩ := ru
    exact PySem.P.repr_of_str ⟨.str _, H, I.tok _, ⟨_, rfl⟩, by simpa [PyData.shown] using q⟩ (by simpa [PyData.shown] using notInt hz (fun _ z => nomatch z))
  | lst _ _ => exact big _ ru (notInt hz fun _ z => nomatch z)
  | tup _ _ => exact big _ ru (notInt hz fun _ z => nomatch z)
  | dct _ _ _ => exact big _ ru (notInt hz fun _ z => nomatch z)
end

/-! ### the law's own call -/
section
open PySem.W
/-- the abstract heap at the law's entry: the script alone, locked, or nothing where it is the module's own -/
def entryH (K : Frag) (a : Addr) (o : Obj) (xs : List V) : Hp := fun b => if b = a ∧ K.lookup a = none then some (.frz o (.lst xs)) else none
theorem entryH_at {K : Frag} {a b : Addr} {o : Obj} {xs : List V} {u : HO} (h : entryH K a o xs b = some u) : b = a ∧ K.lookup a = none ∧ u = .frz o (.lst xs) := by
  unfold entryH at h
  split at h
  · rename_i c
    exact ⟨c.1, c.2, (Option.some.inj h).symm⟩
  · cases h
theorem law_callG {P : Program} {w : World} {K : Frag} {mg mb : Str → Option Value} {CX : CXT} {k : Nat} {fa a : Addr} {fd : FuncData}
    {x : Str} {sp : Sp} {s₁ : Shared} {vs : List Value} {ns : List Int}
    (KX : K.In s₁.heap) (hns : s₁.heap.Ns mainGlobals mg) (hb : s₁.heap.Ns builtinsNs mb)
    (hbb : ∀ x : Str, x ≠ "__name__" → mb x = bootBuiltins x) (hlim : s₁.heap.NoLimit) (hg : s₁.gens = #[])
    (ha : s₁.heap.get? a = some { cls := .type "list", data := .seq vs.toArray }) (hi : IntsAre vs ns)
    (hl : ns.length ≤ sizeLine) (hr : Room k callerA)
    (F : ∀ base : Heap, K.In base → base.Ns mainGlobals mg → FnG P w K mg base CX k fa fd [x] sp)
    (hbind : ∀ (s : Shared) (u : Value), BindsTo s fd ⟨[u], []⟩ [(x, u)])
    (hsp : ∀ H : Hp, Only H → SqL K H a (ns.map V.int) → sp [.ref a] H (fun v _ => v = .bl true) fun _ _ _ => False)
    (hCX : ∀ H e s', CX [] H s₁ (fun _ _ _ => False) e s' → False) :
    codeAny (model P w) callerA (.call (.ref fa) ⟨[.ref a], []⟩)
      (fun r s' => r = .ok (.ret (.bool true)) ∧ OldK s₁.heap s'.heap ∧ s'.os = s₁.os ∧ AllBare s'.gens) s₁ := by
  have rv := vals_ints hi
  have lv := hi.length
  generalize hH : entryH K a { cls := .type "list", data := .seq vs.toArray } (ns.map V.int) = H
  have hat : ∀ {b : Addr} {u : HO}, H b = some u → b = a ∧ K.lookup a = none ∧ u = .frz { cls := .type "list", data := .seq vs.toArray } (.lst (ns.map V.int)) :=
    fun {b u} e => entryH_at (by rw [hH]; exact e)
  have only : Only H := fun b => by
    cases q : H b with
    | none => exact .inl rfl
    | some u =>
      obtain ⟨_, _, rfl⟩ := hat q
      exact .inr ⟨_, _, rfl⟩
  have sq : SqL K H a (ns.map V.int) := by
    cases hk : K.lookup a with
    | none =>
      refine .inl (.inr ⟨{ cls := .type "list", data := .seq vs.toArray }, ?_⟩)
      rw [← hH]
      exact if_pos ⟨rfl, hk⟩
    | some o =>
      have e := KX a o hk
      rw [ha] at e
      cases e
      exact .inr ⟨_, vs.toArray, _, hk, rfl, rfl, rfl, by rw [List.size_toArray, lv]; exact hl, by simpa using rv⟩
  have hok : HOk P w H s₁.heap := fun b u e => by
    obtain ⟨rfl, _, rfl⟩ := hat e
    exact ⟨ha, by rw [List.length_map]; exact hl, vs, _, rv, ha⟩
  have dictFree : ∀ {b : Addr} {o : Obj} {es : Array DictEntry} {ep : Nat}, s₁.heap.get? b = some o → o.data = .dict es ep → H b = none := fun {b o es ep} e d => by
    cases q : H b with
    | none => rfl
    | some u =>
      obtain ⟨rfl, _, _⟩ := hat q
      rw [ha] at e
      cases e
      cases d
  have nsK : ∀ {b : Addr} {m : Str → Option Value}, s₁.heap.Ns b m → (hidT s₁.heap H).Ns b m :=
    fun {b m} z => let ⟨o, es, ep, e, d, r⟩ := z; ⟨o, es, ep, hidT_get e (dictFree e d), d, r⟩
  have kb : K.In (hidT s₁.heap H) := fun b o e => hidT_get (KX b o e) (by
    cases q : H b with
    | none => rfl
    | some u =>
      obtain ⟨rfl, z, _⟩ := hat q
      rw [z] at e
      cases e)
  have md : Mod K mg (hidT s₁.heap H) := ⟨kb, nsK hns, ⟨mb, nsK hb, hbb⟩, let ⟨mc, h1, h2⟩ := hlim; ⟨mc, nsK h1, h2⟩⟩
  have e0 : Env0 P w K mg (hidT s₁.heap H) callerA [] s₁ H :=
    { frames := rfl, mod := md, bs := fun b o e => of_hidT e, bsz := Nat.le_of_eq (hidT_size _ _), funs := trivial, frf := fun b z => absurd (show b ∈ ([] : List Addr) from z) (by simp), hok := hok, bare := .of_eq hg }
  refine codeAny_mono ((F _ kb (nsK hns)).go callerA [] s₁ H ⟨[.ref a], []⟩ [.ref a] [.ref a] _ _ hr rfl e0 (hbind s₁ (.ref a)) (.cons rfl .nil) (hsp H only sq)) fun r s' h => ?_
  match r, h with
  | .error e, h => exact (hCX H e s' h).elim
  | .ok .next, h => exact h.elim
  | .ok .brk, h => exact h.elim
  | .ok .cont, h => exact h.elim
  | .ok (.ret u), h =>
    obtain ⟨v, H', os, bare, un, hok', r', q⟩ := h
    have q' : v = .bl true := q
    subst q'
    obtain rfl : u = Value.bool true := r'
    refine ⟨rfl, OldK.of_keep fun b o e => ?_, os, bare⟩
    cases z : H b with
    | none => exact un.keep b o e z (fun y => absurd (show b ∈ ([] : List Addr) from y) (by simp)) (by simp)
    | some u =>
      obtain ⟨rfl, _, rfl⟩ := hat z
      have z2 := un.frzs _ _ _ z
      have e2 := (hok' _ _ z2).1
      rw [ha] at e
      cases e
      exact e2
/-- as walk_of, no repr being under way -/
theorem walk_ofG {l : OpenLaw} {n k : Nat} {q : Program} {loose : List Str} {XP : (Str → Option Value) → Heap → Prop} {YP : World → Heap → Prop}
    {d : DefRec} {K : Params → Frag} {CX : World → CXT} {sp : World → Sp} {x : Str}
    (hn : l.most = some n) (hn2 : n ≤ sizeLine) (hdf : d.params.defaults = []) (hr : Room k callerA)
    (hY : ∀ (w : World) (h : Heap), YP w h → (K w.params).In h)
    (F : ∀ (w : World) (mg : Str → Option Value) (fa : Addr) (h : Heap), (K w.params).In h → h.Ns mainGlobals mg →
      mg d.name = some (.ref fa) → ∃ fd : FuncData, (∀ (s : Shared) (u : Value), BindsTo s fd ⟨[u], []⟩ [(x, u)]) ∧
        ∀ base : Heap, (K w.params).In base → base.Ns mainGlobals mg → FnG l.prog w (K w.params) mg base (CX w) k fa fd [x] (sp w))
    (hsp : ∀ (w : World) (H : Hp) (a : Addr) (ns : List Int), ns.length ≤ n → Only H → SqL (K w.params) H a (ns.map V.int) →
      sp w [.ref a] H (fun v _ => v = .bl true) fun _ _ _ => False)
    (hCX : ∀ (w : World) (H : Hp) (s : Shared) (e : Value) (s' : Shared), CX w [] H s (fun _ _ _ => False) e s' → False) :
    WalkO q loose XP YP l.row.toRowW d [] (fun f vs => PySem.call f vs) := by
  refine Att.attach_call hn hdf fun w s₀ s₁ mg mb fa o pm cd doc a vs ns G Y ho hd hcd hmg hobj hints hlen hg => ?_
  obtain ⟨fd, b1, b2⟩ := F w mg fa _ (hY w _ Y) G.T.g hmg
  exact law_callG (hY w _ Y) G.T.g G.T.b G.T.builtins G.T.nolimit hg hobj hints (Nat.le_trans hlen hn2) hr b2 b1
    (fun H hO hS => hsp w H a ns hlen hO hS) fun H e s' => hCX w H s₁ e s'
end
end Rc

set_option exponentiation.threshold 400
namespace Rc
open PySem PySem.Spec PyProof.Rows L2
/-! ### the mathematics -/
def abc : List Nat := (List.range 26).map (· + 97)
def nameT (z : Str) : Bool := decide (1 ≤ z.length) && decide (z.length ≤ 8) && z.cps.toList.all fun c => decide (c ∈ abc)
def nameD : PyData → Bool
  | .str z => nameT z
  | _ => false
def wholeD : PyData → Bool
  | .int _ => true
  | _ => false
def amountD : PyData → Bool
  | .int i => decide (1 ≤ i)
  | _ => false
def tyD : PyData → String
  | .none => "NoneType"
  | .bool _ => "bool"
  | .int _ => "int"
  | .str _ => "str"
  | .list _ => "list"
  | .tuple _ => "tuple"
  | .dict _ => "dict"
def strD : PyData → Bool
  | .str _ => true
  | _ => false
def boolD : PyData → Bool
  | .bool _ => true
  | _ => false
theorem Dt.ty {K : PySem.W.Frag} {H : Hp} {v : V} {d : PyData} (h : Dt K H v d) : TyX K H v (.type (tyD d)) := by
  cases h with
  | non => exact .base .non
  | bl b => exact .base (.bl b)
  | int i => exact .base (.int i)
  | str x => exact .base (.str x)
  | lst q _ =>
    rcases q with (q | ⟨o, q⟩) | ⟨o, its, n, hk, hc, _⟩
    · exact .base (.lst q)
    · exact .base (.frz q)
    · exact .kList hk hc
  | tup q _ =>
    rcases q with (q | ⟨o, q⟩) | ⟨o, its, n, hk, hc, _⟩
    · exact .base (.tup q)
    · exact .fTuple q
    · exact .kTuple hk hc
  | dct q _ _ => exact .base (.dK q)
theorem kit_str {K : PySem.W.Frag} (d : PyData) : PySem.W.kitOne K (.type (tyD d)) (.type "str") = some (strD d) :=
  match d with
  | PyData.none => kit_ty (a := "NoneType") (b := "str") (r := false) (by decide +kernel)
  | .bool _ => kit_ty (a := "bool") (b := "str") (r := false) (by decide +kernel)
  | .int _ => kit_ty (a := "int") (b := "str") (r := false) (by decide +kernel)
  | .str _ => kit_ty (a := "str") (b := "str") (r := true) (by decide +kernel)
  | .list _ => kit_ty (a := "list") (b := "str") (r := false) (by decide +kernel)
  | .tuple _ => kit_ty (a := "tuple") (b := "str") (r := false) (by decide +kernel)
  | .dict _ => kit_ty (a := "dict") (b := "str") (r := false) (by decide +kernel)
theorem kit_int {K : PySem.W.Frag} (d : PyData) : PySem.W.kitOne K (.type (tyD d)) (.type "int") = some (wholeD d || boolD d) :=
  match d with
  | PyData.none => kit_ty (a := "NoneType") (b := "int") (r := false) (by decide +kernel)
  | .bool _ => kit_ty (a := "bool") (b := "int") (r := true) (by decide +kernel)
  | .int _ => kit_ty (a := "int") (b := "int") (r := true) (by decide +kernel)
  | .str _ => kit_ty (a := "str") (b := "int") (r := false) (by decide +kernel)
  | .list _ => kit_ty (a := "list") (b := "int") (r := false) (by decide +kernel)
  | .tuple _ => kit_ty (a := "tuple") (b := "int") (r := false) (by decide +kernel)
  | .dict _ => kit_ty (a := "dict") (b := "int") (r := false) (by decide +kernel)
theorem kit_bool {K : PySem.W.Frag} (d : PyData) : PySem.W.kitOne K (.type (tyD d)) (.type "bool") = some (boolD d) :=
  match d with
  | PyData.none => kit_ty (a := "NoneType") (b := "bool") (r := false) (by decide +kernel)
  | .bool _ => kit_ty (a := "bool") (b := "bool") (r := true) (by decide +kernel)
  | .int _ => kit_ty (a := "int") (b := "bool") (r := false) (by decide +kernel)
  | .str _ => kit_ty (a := "str") (b := "bool") (r := false) (by decide +kernel)
  | .list _ => kit_ty (a := "list") (b := "bool") (r := false) (by decide +kernel)
  | .tuple _ => kit_ty (a := "tuple") (b := "bool") (r := false) (by decide +kernel)
  | .dict _ => kit_ty (a := "dict") (b := "bool") (r := false) (by decide +kernel)
theorem same_upd {H : Hp} {p : Addr} {o : HO} (h : H p = none) : Same H (upd H p o) := fun b x e => by
  rw [upd_ne (ne_of_none e h)]
  exact e
mutual
theorem Dt.same {K : PySem.W.Frag} {H H' : Hp} (e : Same H H') : ∀ {v : V} (d : PyData), Dt K H v d → Dt K H' v d
  | _, .none, h => by cases h; exact .non
  | _, .bool _, h => by cases h; exact .bl _
  | _, .int _, h => by cases h; exact .int _
  | _, .str _, h => by cases h; exact .str _
  | _, .list ds, h => by
    cases h with
    | lst q a => exact .lst (e.seq q) (DtAll.same e ds a)
  | _, .tuple ds, h => by
    cases h with
    | tup q a =>
      refine .tup ?_ (DtAll.same e ds a)
      rcases q with (q | ⟨o, q⟩) | q
      · exact .inl (.inl (e _ _ q))
      · exact .inl (.inr ⟨o, e _ _ q⟩)
      · exact .inr q
  | _, .dict ps, h => by
    cases h with
    | dct q a b => exact .dct (e _ _ q) a b
theorem DtAll.same {K : PySem.W.Frag} {H H' : Hp} (e : Same H H') : ∀ {vs : List V} (ds : List PyData), DtAll K H vs ds → DtAll K H' vs ds
  | _, [], h => by cases h; exact .nil
  | _, d :: ds, h => by
    cases h with
    | cons a b => exact .cons (Dt.same e d a) (DtAll.same e ds b)
end
theorem iteNot {b : Bool} {A B : Prop} (e : ¬ b = true) (h : B) : if b = true then A else B := by
  rw [if_neg e]
  exact h
theorem letters_abc : (("abcdefghijklmnopqrstuvwxyz" : String) : Str).cps.toList = abc := by decide +kernel
/-- a text that is short enough -/
def ShortD (d : PyData) : Prop := ∀ z, d = .str z → z.length ≤ 1000
theorem small_line {n : Nat} (h : n ≤ 1000) : n ≤ sizeLine := Nat.le_of_lt (small1000 h)
/-! ### written data -/
theorem PE.of {X : Cx} {e : Expr} {t t' : TE} (h : PE X e t) (i : ∀ σ H Q, t' σ H Q → t σ H Q) : PE X e t' :=
  ⟨fun pins s σ H Q I q => h.run pins s σ H Q I (i σ H Q q)⟩
theorem PA.of {X : Cx} {es : List Expr} {t t' : TA} (h : PA X es t) (i : ∀ σ H Q, t' σ H Q → t σ H Q) : PA X es t' :=
  ⟨fun pos pins s σ H Q I q => h.run pos pins s σ H Q I (i σ H Q q)⟩
/-- what stands in H' and did not in H -/
def minus (H' H : Hp) : Hp := fun b => if H b = none then H' b else none
theorem minus_some {H' H : Hp} {b : Addr} {o : HO} (h : minus H' H b = some o) : H b = none ∧ H' b = some o := by
  unfold minus at h
  split at h
  · rename_i c
    exact ⟨c, h⟩
  · cases h
theorem minus_mk {H' H : Hp} {b : Addr} {o : HO} (h : H b = none) (h' : H' b = some o) : minus H' H b = some o := by
  unfold minus
  rw [if_pos h]
  exact h'
theorem minus_sub {H' H : Hp} : Same (minus H' H) H' := fun _ _ e => (minus_some e).2
theorem minus_l {H H1 H2 : Hp} (s : Same H1 H2) : Same (minus H1 H) (minus H2 H) := fun b o e => minus_mk (minus_some e).1 (s b o (minus_some e).2)
theorem minus_r {H H1 H2 : Hp} (s : Same H H1) : Same (minus H2 H1) (minus H2 H) := fun b o e => minus_mk (s.free (minus_some e).1) (minus_some e).2
theorem minus_at {H H1 : Hp} {p : Addr} {o : HO} (s : Same H H1) (h : H1 p = none) : minus (upd H1 p o) H p = some o := minus_mk (s.free h) upd_same
/-- an expression that gives the datum d, of new objects alone, all else as it was -/
def tLit (K : PySem.W.Frag) (d : PyData) : TE := fun _ H Q => ∀ v H', Same H H' → Dt K (minus H' H) v d → Q v H'
def tLits (K : PySem.W.Frag) (ds : List PyData) : TA := fun _ H Q => ∀ vs H', Same H H' → DtAll K (minus H' H) vs ds → Q vs H'
theorem DtAll.len {K : PySem.W.Frag} {H : Hp} : ∀ {vs : List V} {ds : List PyData}, DtAll K H vs ds → vs.length = ds.length
  | _, _, .nil => rfl
  | _, _, .cons _ t => by rw [List.length_cons, List.length_cons, DtAll.len t]
section
variable {X : Cx} {pos : Pos} {j : Nat} {e : Expr} {es : List Expr} {d : PyData} {ds : List PyData}
theorem l_non {j} : PE X (.Constant .none j pos) (tLit X.K .none) := PE.of pe_non fun _ H _ q => q _ H (Same.refl _) .non
theorem l_bl {b j} : PE X (.Constant (.bool b) j pos) (tLit X.K (.bool b)) := PE.of pe_bl fun _ H _ q => q _ H (Same.refl _) (.bl _)
theorem l_int {i j} : PE X (.Constant (.int i) j pos) (tLit X.K (.int i)) := PE.of pe_int fun _ H _ q => q _ H (Same.refl _) (.int _)
theorem l_str {x j} : PE X (.Constant (.str x) j pos) (tLit X.K (.str x)) := PE.of pe_str fun _ H _ q => q _ H (Same.refl _) (.str _)
theorem l_neg {i j} {p : Pos} : PE X (.UnaryOp .USub (.Constant (.int i) j p) pos) (tLit X.K (.int (-i))) := PE.of (pe_un un_neg pe_int) fun _ H _ q => ⟨i, rfl, q _ H (Same.refl _) (.int _)⟩
theorem ls_nil : PA X [] (tLits X.K []) := PA.of pa_nil fun _ H _ q => q _ H (Same.refl _) .nil
theorem ls_cons (h : PE X e (tLit X.K d)) (hs : PA X es (tLits X.K ds)) (hx : starEach (e :: es) X.env = (false, eval e X.env) :: starEach es X.env := by rfl) : PA X (e :: es) (tLits X.K (d :: ds)) :=
  PA.of (pa_cons h hs hx) fun _ _ _ q v H1 s1 h1 vs H2 s2 h2 => q (v :: vs) H2 (s1.trans s2) (.cons (Dt.same (minus_l s2) _ h1) (DtAll.same (minus_r s1) _ h2))
theorem l_lst (hs : PA X es (tLits X.K ds)) (hz : ds.length ≤ 1000 := by decide) : PE X (.List es pos) (tLit X.K (.list ds)) :=
  PE.of (pe_lst hs) fun _ _ _ q vs H1 s1 h1 => ⟨by rw [h1.len]; exact small_line hz, fun p hp => q _ _ (s1.trans (same_upd hp)) (.lst (.inl (.inl (minus_at s1 hp))) (DtAll.same (minus_l (same_upd hp)) _ h1))⟩
theorem l_tup {k} (hs : PA X es (tLits X.K ds)) (hz : ds.length ≤ 1000 := by decide) : PE X (.Tuple es k pos) (tLit X.K (.tuple ds)) :=
  PE.of (pe_tup hs) fun _ _ _ q vs H1 s1 h1 => ⟨by rw [h1.len]; exact small_line hz, fun p hp => q _ _ (s1.trans (same_upd hp)) (.tup (.inl (.inl (minus_at s1 hp))) (DtAll.same (minus_l (same_upd hp)) _ h1))⟩
theorem l_dct0 : PE X (.Dict [] [] pos) (tLit X.K (.dict [])) :=
  PE.of pe_dnewK fun _ _ _ q p hp => q _ _ (same_upd hp) (.dct (minus_at (Same.refl _) hp) .nil .nil)
theorem l_dctS {z i j1 j2} {p1 p2 : Pos} : PE X (.Dict [some (.Constant (.str z) j1 p1)] [.Constant (.int i) j2 p2] pos) (tLit X.K (.dict [(.str z, .int i)])) :=
  PE.of (pe_disp (pps_cons pe_str pe_int pps_nil) (by rfl) (by rfl) (fun z => by cases z) (by show 1 ≤ 15; decide)) fun _ _ _ q p hp =>
    ⟨upd_same, [(.inr z, .int i)], rfl, by show 1 ≤ 15; decide, by
      rw [upd_upd]
      exact q _ _ (same_upd hp) (.dct (minus_at (Same.refl _) hp) (.cons (.str z) .nil) (.cons (.int i) .nil))⟩
theorem l_dctI {z i j1 j2} {p1 p2 : Pos} : PE X (.Dict [some (.Constant (.int i) j1 p1)] [.Constant (.str z) j2 p2] pos) (tLit X.K (.dict [(.int i, .str z)])) :=
  PE.of (pe_disp (pps_cons pe_int pe_str pps_nil) (by rfl) (by rfl) (fun z => by cases z) (by show 1 ≤ 15; decide)) fun _ _ _ q p hp =>
    ⟨upd_same, [(.inl i, .str z)], rfl, by show 1 ≤ 15; decide, by
      rw [upd_upd]
      exact q _ _ (same_upd hp) (.dct (minus_at (Same.refl _) hp) (.cons (.int i) .nil) (.cons (.str z) .nil))⟩
/-- a written list of data as a list -/
def tLitL (K : PySem.W.Frag) (ds : List PyData) : TE := fun _ H Q => ∀ l xs H', Same H H' → H l = none → H' l = some (.lst xs) → DtAll K (minus H' H) xs ds → Q (.ref l) H'
theorem l_list (hs : PA X es (tLits X.K ds)) (hz : ds.length ≤ 1000 := by decide) : PE X (.List es pos) (tLitL X.K ds) :=
  PE.of (pe_lst hs) fun _ _ _ q vs H1 s1 h1 => ⟨by rw [h1.len]; exact small_line hz, fun p hp => q p vs _ (s1.trans (same_upd hp)) (s1.free hp) upd_same (DtAll.same (minus_l (same_upd hp)) _ h1)⟩
end
theorem DtAll.append {K : PySem.W.Frag} {H : Hp} : ∀ {vs us : List V} {ds es : List PyData}, DtAll K H vs ds → DtAll K H us es → DtAll K H (vs ++ us) (ds ++ es)
  | _, _, _, _, .nil, h => h
  | _, _, _, _, .cons a t, h => .cons a (DtAll.append t h)
theorem DtAll.mem {K : PySem.W.Frag} {H : Hp} : ∀ {vs : List V} {ds : List PyData} {v : V}, DtAll K H vs ds → v ∈ vs → ∃ d, d ∈ ds ∧ Dt K H v d
  | _, _, _, .nil, h => by cases h
  | _, _, _, .cons a t, h => by
    rcases List.mem_cons.mp h with e | e
    · subst e
      exact ⟨_, List.mem_cons_self, a⟩
    · obtain ⟨d, h1, h2⟩ := DtAll.mem t e
      exact ⟨d, List.mem_cons_of_mem _ h1, h2⟩
/-- an item by a number in the bounds -/
theorem pick {α : Type} {xs : List α} {i : Int} (h0 : 0 ≤ i) (h1 : i < xs.length) : ∃ v, atI xs i = some v ∧ v ∈ xs := by
  obtain ⟨n, rfl⟩ := Int.eq_ofNat_of_zero_le h0
  have hn : n < xs.length := by omega
  exact ⟨xs[n], atI_nat (List.getElem?_eq_getElem hn), List.getElem_mem hn⟩
/-- a pot: two numbers -/
def Pot (H : Hp) (p : Addr) : Prop := ∃ x y : Int, H p = some (.lst [.int x, .int y]) ∧ 0 ≤ x ∧ 0 ≤ y ∧ y < 2147483648
/-- all but p as it was -/
def But (p : Addr) (H H' : Hp) : Prop := ∀ b o, b ≠ p → H b = some o → H' b = some o
theorem But.refl (p : Addr) (H : Hp) : But p H H := fun _ _ _ e => e
theorem But.trans {p : Addr} {H H1 H2 : Hp} (a : But p H H1) (b : But p H1 H2) : But p H H2 := fun c o n e => b c o n (a c o n e)
theorem But.new {p q : Addr} {H : Hp} {o : HO} (h : H q = none) : But p H (upd H q o) := fun b x _ e => same_upd h b x e
theorem But.at {p : Addr} {H : Hp} {o : HO} : But p H (upd H p o) := fun b x n e => by rw [upd_ne n]; exact e
theorem Pot.new {p q : Addr} {H : Hp} {o : HO} (h : H q = none) (P : Pot H p) : Pot (upd H q o) p := by
  obtain ⟨x, y, e, r⟩ := P
  exact ⟨x, y, same_upd h _ _ e, r⟩
theorem Pot.but {p q : Addr} {H H' : Hp} (P : Pot H p) (b : But q H H') (n : p ≠ q) : Pot H' p := by
  obtain ⟨x, y, e, r⟩ := P
  exact ⟨x, y, b _ _ n e, r⟩
def LitM (m : Int) : Prop := 0 < m ∧ m.natAbs.log2 < 9000
/-- all but p -/
def away (p : Addr) (H : Hp) : Hp := fun b => if b = p then none else H b
theorem away_some {p b : Addr} {H : Hp} {o : HO} (h : away p H b = some o) : b ≠ p ∧ H b = some o := by
  unfold away at h
  split at h
  · cases h
  · rename_i c
    exact ⟨c, h⟩
theorem away_mk {p b : Addr} {H : Hp} {o : HO} (n : b ≠ p) (h : H b = some o) : away p H b = some o := by
  unfold away
  rw [if_neg n]
  exact h
theorem But.away {p : Addr} {H H' : Hp} (b : But p H H') : Same (away p H) (away p H') := fun c o e => away_mk (away_some e).1 (b c o (away_some e).1 (away_some e).2)
theorem away_sub {p : Addr} {H : Hp} : Same (away p H) H := fun _ _ e => (away_some e).2
/-! ### texts that are drawn -/
def Tx (n : Nat) (z : Str) : Prop := z.length ≤ n ∧ ∀ c ∈ z.cps.toList, c < 128
theorem Tx.mono {n m : Nat} {z : Str} (h : Tx n z) (hn : n ≤ m) : Tx m z := ⟨Nat.le_trans h.1 hn, h.2⟩
theorem Tx.app {n m : Nat} {z y : Str} (h : Tx n z) (g : Tx m y) : Tx (n + m) (z ++ y) := by
  refine ⟨by rw [Str.length_append]; exact Nat.add_le_add h.1 g.1, fun c hc => ?_⟩
  rw [Str.cps_append, Array.toList_append, List.mem_append] at hc
  exact hc.elim (h.2 c) (g.2 c)
theorem Tx.cut {n : Nat} {z : Str} (h : Tx n z) (lo hi : Option Int) : Tx n (cutS z lo hi) :=
  ⟨Nat.le_trans (cutS_length z lo hi) h.1, fun c hc => h.2 c (List.mem_of_mem_drop (List.mem_of_mem_take hc))⟩
theorem joinL_ones : ∀ cs : List Nat, TL.joinL [] (cs.map fun c => [c]) = cs
  | [] => rfl
  | [_] => rfl
  | c :: d :: r => by
    show [c] ++ ([] ++ TL.joinL [] ((d :: r).map fun c => [c])) = c :: d :: r
    rw [joinL_ones (d :: r)]
    rfl
theorem join_ones (cs : List Nat) : (Txt.join "" (cs.map fun c => (⟨#[c]⟩ : Str))).cps.toList = cs := by
  rw [TL.join_eq]
  have h := TL.tl_join "" (cs.map fun c => (⟨#[c]⟩ : Str))
  have e : (cs.map fun c => (⟨#[c]⟩ : Str)).map TL.tl = cs.map fun c => [c] := by
    rw [List.map_map]
    rfl
  rw [e] at h
  exact h.trans (joinL_ones cs)
theorem Tx.join {cs : List Nat} {n : Nat} (hn : cs.length ≤ n) (h : ∀ c ∈ cs, c < 128) : Tx n (Txt.join "" (cs.map fun c => (⟨#[c]⟩ : Str))) := by
  have e := join_ones cs
  refine ⟨?_, fun c hc => h c (e ▸ hc)⟩
  show (Txt.join "" (cs.map fun c => (⟨#[c]⟩ : Str))).cps.size ≤ n
  rw [← Array.length_toList, e]
  exact hn
theorem lens_ones : ∀ cs : List Nat, ((cs.map fun c => (⟨#[c]⟩ : Str)).map (·.length)).sum = cs.length
  | [] => rfl
  | c :: r => by
    show 1 + ((r.map fun c => (⟨#[c]⟩ : Str)).map (·.length)).sum = r.length + 1
    rw [lens_ones r]
    omega
theorem litM (m : Int) (h : 0 < m) (h2 : m < 2 ^ 300) : LitM m := by
  refine ⟨h, ?_⟩
  have a : m.natAbs < 2 ^ 300 := by omega
  exact Nat.lt_trans (PySem.Flt.log2_lt_of (by decide) a) (by decide)
theorem same_but {p : Addr} {H H' : Hp} (s : Same H H') : But p H H' := fun b o _ e => s b o e
theorem Pot.same {p : Addr} {H H' : Hp} (h : Pot H p) (s : Same H H') : Pot H' p := by
  obtain ⟨x, y, e, r⟩ := h
  exact ⟨x, y, s _ _ e, r⟩
end Rc

namespace Rc
open PySem PySem.Spec PyProof.Rows L2
def topS (i : Nat) : Stmt := PySem.Challenge.pw_ringclear_k25_not_covered.main.body.getD i (.Pass ⟨0, 0, 0, 0⟩)
section
variable {P : Program} {w : World} {K : PySem.W.Frag} {mg : Str → Option Value} {base : Heap}
/-! ### is_name -/
abbrev sName : Stmt := topS 12
theorem scName : FnScope ["thing", "sign"] ["thing"] (defScope sName) := ⟨rfl, rfl, rfl, by decide +kernel, rfl, by decide +kernel, by decide +kernel⟩
def spBool (K : PySem.W.Frag) (f : PyData → Bool) : Sp := fun vs H Q _ => ∃ v d, vs = [v] ∧ Dt K H v d ∧ ShortD d ∧ ∀ H', Same H H' → Q (.bl (f d)) H'
structure Blt (mg : Str → Option Value) : Prop where
  isi : mg "isinstance" = none
  str : mg "str" = none
  int : mg "int" = none
  bool : mg "bool" = none
  len : mg "len" = none
  all : mg "all" = none
theorem ok_name {f : Addr} {fd : FuncData} {k : Nat} (F : Fun K "is_name" "is_name" sName f fd) (B : Blt mg)
    (gL : ∃ t, mg "LETTERS" = some (.str "abcdefghijklmnopqrstuvwxyz" t)) (gM : ∃ t, mg "LONGEST" = some (.int 8 t)) :
    FnOk P w K mg base CX0 (k + 1) f fd ["thing"] (spBool K nameD) := by
  obtain ⟨tL, gL⟩ := gL
  obtain ⟨tM, gM⟩ := gM
  refine F.ok scName (fun vs H Q E h => ?_) (fun cdv A outer s H vs Q E hr h => ?_)
  · obtain ⟨v, d, rfl, _⟩ := h
    rfl
  · obtain ⟨v, d, rfl, hd, hz, q⟩ := h
    refine ⟨_, pss_cons (ps_if (pt_not (pt_val (pe_callB call_isi (by rfl) B.isi (by decide +kernel) (pa_cons (pv 0) (pa_cons (pe_bltn (v := .ty "str") (by rfl) B.str (by decide +kernel) rfl) pa_nil)))))
        (pss_one (ps_ret pe_bl)) pss_nil)
      (pss_cons (ps_if (PW.pt (pw_or (pt_cmpR op_lt (pe_callB call_len_str (by rfl) B.len PySem.boot_len (pa_cons (pv 0) pa_nil)) pe_int (nomark _))
          (pw_or1 (pt_cmpR op_gt (pe_callB call_len_str (by rfl) B.len PySem.boot_len (pa_cons (pv 0) pa_nil)) (pe_glob (v := .int 8) (by rfl) gM ⟨_, rfl⟩) (nomark _)))))
        (pss_one (ps_ret pe_bl)) pss_nil)
      (pss_one (ps_ret (pe_callB (cr_all rfl) (by rfl) B.all (by decide +kernel) (pa_cons
        (pe_lc (own := [("sign", 1)]) (g := gName 1) (tt := tYes) rfl scName.nd (pi_str (pv 0)) (blkOk_by (N := ["thing", "sign"]) (sc := defScope sName) (own := [("sign", 1)]) (by decide +kernel))
          (fun _ _ _ _ _ => pg_name (i := 1) scName.nd rfl (.inl rfl)) (fun _ _ _ _ _ => pts_nil)
          (fun _ _ _ _ _ => pe_cmpR op_in_sign (pv 1) (pe_glob (v := .str "abcdefghijklmnopqrstuvwxyz") (by rfl) gL ⟨_, rfl⟩) (by rfl))) pa_nil))))), ?_⟩
    refine ⟨v, rfl, v, .ty "str", _, _, strD d, rfl, .ty "str", hd.ty, kit_str d, _, rfl, ?_⟩
    cases hd with
    | str z =>
      refine iteF ?_
      have hz1 := hz z rfl
      have hz2 := small_line hz1
      refine ⟨.str z, rfl, z, rfl, hz2, _, _, rfl, rfl, _, rfl, ite2 (fun e => ?_) (fun e => ?_)⟩
      · refine iteT ?_
        have e1 : (z.length : Int) < 1 := of_decide_eq_true e
        have en : nameD (.str z) = false := by
          show nameT z = false
          unfold nameT
          rw [decide_eq_false (show ¬ 1 ≤ z.length by omega)]
          rfl
        rw [en] at q
        exact q _ (Same.refl _)
      · have e1 : ¬ (z.length : Int) < 1 := fun c => e (decide_eq_true c)
        refine ⟨.str z, rfl, z, rfl, hz2, _, _, rfl, rfl, _, rfl, ite2 (fun e2 => ?_) (fun e2 => ?_)⟩
        · have e3 : (8 : Int) < z.length := of_decide_eq_true e2
          have en : nameD (.str z) = false := by
            show nameT z = false
            unfold nameT
            rw [decide_eq_false (show ¬ z.length ≤ 8 by omega), Bool.and_false]
            rfl
          rw [en] at q
          exact q _ (Same.refl _)
        · have e3 : ¬ (8 : Int) < z.length := fun c => e2 (decide_eq_true c)
          refine ⟨.str z, rfl, z, rfl, fun D hD => lc_it walk_str (fun i H' => Same H H' ∧ H' D = some (.lst ((z.cps.toList.take i).map fun c => .bl (decide (c ∈ abc)))))
            ⟨same_upd hD, upd_same⟩ (fun _ _ _ _ => trivial) (fun i x H1 H2 hi hP hY => ?_) (fun H1 hP => ?_)⟩
          · obtain ⟨rfl, c, hc, rfl⟩ := hY
            refine ⟨rfl, .str ⟨#[c]⟩, rfl, c, _, rfl, rfl, _, hP.2, ?_, ?_, ?_⟩
            · rw [List.length_map, List.length_take]
              exact Nat.lt_of_le_of_lt (Nat.min_le_left _ _) (small1000 (by have : z.cps.size = z.length := rfl; omega))
            · intro b o eb
              rw [upd_ne (ne_of_none eb hD)]
              exact hP.1 b o eb
            · rw [upd_same, List.take_add_one, List.map_append]
              have g : z.cps.toList[i]? = some c := by rw [Array.getElem?_toList]; exact hc
              rw [g, letters_abc]
              rfl
          · refine ⟨D, z.cps.toList.map fun c => decide (c ∈ abc), rfl, .inl (.inl ?_), ?_⟩
            · have ez : z.cps.size = z.cps.toList.length := rfl
              rw [hP.2, ez, List.take_length, List.map_map]
              rfl
            · have en : nameD (.str z) = (z.cps.toList.map fun c => decide (c ∈ abc)).all id := by
                show nameT z = _
                unfold nameT
                rw [decide_eq_true (show 1 ≤ z.length by omega), decide_eq_true (show z.length ≤ 8 by omega), List.all_map]
                rfl
              rw [← en]
              exact q _ hP.1
    | _ => exact iteT (q _ (Same.refl _))
/-! ### is_whole, is_amount -/
abbrev sWhole : Stmt := topS 13
theorem scWhole : FnScope ["thing"] ["thing"] (defScope sWhole) := ⟨rfl, rfl, rfl, by decide +kernel, rfl, by decide +kernel, by decide +kernel⟩
theorem whole_eq (d : PyData) : (if (wholeD d || boolD d) = true then !boolD d else false) = wholeD d := by cases d <;> rfl
theorem ok_whole {f : Addr} {fd : FuncData} {k : Nat} (F : Fun K "is_whole" "is_whole" sWhole f fd) (B : Blt mg) :
    FnOk P w K mg base CX0 (k + 1) f fd ["thing"] (spBool K wholeD) := by
  refine F.ok scWhole (fun vs H Q E h => ?_) (fun cdv A outer s H vs Q E hr h => ?_)
  · obtain ⟨v, d, rfl, _⟩ := h
    rfl
  · obtain ⟨v, d, rfl, hd, hz, q⟩ := h
    refine ⟨_, pss_one (ps_ret (pe_and (pe_callB call_isi (by rfl) B.isi (by decide +kernel) (pa_cons (pv 0) (pa_cons (pe_bltn (v := .ty "int") (by rfl) B.int (by decide +kernel) rfl) pa_nil)))
      (pe_one (pe_not (pe_callB call_isi (by rfl) B.isi (by decide +kernel) (pa_cons (pv 0) (pa_cons (pe_bltn (v := .ty "bool") (by rfl) B.bool (by decide +kernel) rfl) pa_nil))))))), ?_⟩
    refine ⟨v, rfl, v, .ty "int", _, _, _, rfl, .ty "int", hd.ty, kit_int d, _, rfl, ?_⟩
    have e := whole_eq d
    have q1 := q H (Same.refl _)
    cases c : (wholeD d || boolD d) with
    | true =>
      rw [c, if_pos rfl] at e
      exact iteT ⟨v, rfl, v, .ty "bool", _, _, _, rfl, .ty "bool", hd.ty, kit_bool d, _, rfl, by rw [e]; exact q1⟩
    | false =>
      rw [c, if_neg Bool.false_ne_true] at e
      exact iteF (by rw [e]; exact q1)
abbrev sAmount : Stmt := topS 14
theorem scAmount : FnScope ["thing"] ["thing"] (defScope sAmount) := ⟨rfl, rfl, rfl, by decide +kernel, rfl, by decide +kernel, by decide +kernel⟩
theorem ok_amount {f fW : Addr} {fd fdW : FuncData} {k : Nat} (F : Fun K "is_amount" "is_amount" sAmount f fd) (FW : Fun K "is_whole" "is_whole" sWhole fW fdW)
    (bW : Binds K fdW ["thing"] []) (gW : mg "is_whole" = some (.ref fW)) (B : Blt mg) :
    FnOk P w K mg base CX0 (k + 2) f fd ["thing"] (spBool K amountD) := by
  have GW : FnOk P w K mg base CX0 (k + 1) fW fdW ["thing"] (spBool K wholeD) := ok_whole FW B
  refine F.ok scAmount (fun vs H Q E h => ?_) (fun cdv A outer s H vs Q E hr h => ?_)
  · obtain ⟨v, d, rfl, _⟩ := h
    rfl
  · obtain ⟨v, d, rfl, hd, hz, q⟩ := h
    refine ⟨_, pss_one (ps_ret (pe_and (pe_call GW hr (by rfl) gW FW.kp bW .nil pass0 (pa_cons (pv 0) pa_nil)) (pe_one (pe_cmpR op_ge (pv 0) pe_int (nomark _))))), ?_⟩
    refine ⟨v, rfl, v, d, rfl, hd, hz, fun H' sm => ⟨_, rfl, ?_⟩⟩
    have q1 := q H' sm
    cases hd with
    | int i => exact iteT ⟨_, rfl, i, 1, rfl, rfl, q1⟩
    | _ => exact iteF q1
end
end Rc

namespace Rc
open PySem PySem.Spec PyProof.Rows L2
section
variable {P : Program} {w : World} {K : PySem.W.Frag} {mg : Str → Option Value} {base : Heap}
structure Blt2 (mg : Str → Option Value) : Prop where
  abs : mg "abs" = none
  max : mg "max" = none
  min : mg "min" = none
  divmod : mg "divmod" = none
  range : mg "range" = none
  repr : mg "repr" = none
/-! ### _law_pot -/
abbrev sPot : Stmt := topS 41
theorem scPot : FnScope ["_law_script", "_law_k", "_law_cell"] ["_law_script", "_law_k"] (defScope sPot) := ⟨rfl, rfl, rfl, by decide +kernel, rfl, by decide +kernel, by decide +kernel⟩
def spPot (K : PySem.W.Frag) : Sp := fun vs H Q _ => ∃ (a : Addr) (ns : List Int) (k : Int), vs = [.ref a, .int k] ∧ SqL K H a (ns.map V.int) ∧ 0 ≤ k ∧ k ≤ 1000 ∧
  ∀ p o, H p = none → Pot (upd H p o) p → Q (.ref p) (upd H p o)
theorem ok_pot {f : Addr} {fd : FuncData} {k : Nat} (F : Fun K "_law_pot" "_law_pot" sPot f fd) (B : Blt mg) (B2 : Blt2 mg) :
    FnOk P w K mg base CX0 (k + 1) f fd ["_law_script", "_law_k"] (spPot K) := by
  refine F.ok scPot (fun vs H Q E h => ?_) (fun cdv A outer s H vs Q E hr h => ?_)
  · obtain ⟨a, ns, k, rfl, _⟩ := h
    rfl
  · obtain ⟨a, ns, k, rfl, hS, k0, k1, q⟩ := h
    refine ⟨_, pss_cons (ps_set (i := 2) scPot.nd rfl (.inl rfl) pe_int)
      (pss_cons (ps_if (pt_cmpR op_lt (pv 1) (pe_callB call_len_seq (by rfl) B.len PySem.boot_len (pa_cons (pv 0) pa_nil)) (nomark _))
        (pss_one (ps_set (i := 2) scPot.nd rfl (.inl rfl) (pe_callB call_abs (by rfl) B2.abs (by decide +kernel) (pa_cons (pe_ix ix_list (pv 0) (pv 1) (fun _ _ => rfl)) pa_nil)))) pss_nil)
      (pss_one (ps_ret (pe_lst (pa_cons (pe_callB (call_max2 rfl) (by rfl) B2.max (by decide +kernel) (pa_cons pe_int (pa_cons (pe_op op_sub (pv 2) (pe_op op_pow pe_int pe_int)) pa_nil)))
        (pa_cons (pe_op op_add (pe_op op_mod (pe_op op_pow (pe_op op_add (pe_op op_add (pe_op op_mod (pv 2) pe_int) (pe_op op_mul pe_int (pv 1))) pe_int) pe_int) pe_int) pe_int) pa_nil)))))), ?_⟩
    have fin : ∀ c : Int, 0 ≤ c → ∃ v, ([some (.ref a), some (.int k), some (.int c)] : List (Option V))[2]? = some (some v) ∧ v = .int c := fun c _ => ⟨_, rfl, rfl⟩
    have three : ∀ c : Int, 0 ≤ c → 0 ≤ c % 2147483549 + 101 * k + 1 ∧ (c % 2147483549 + 101 * k + 1).natAbs < 2 ^ 64 := fun c h0 => by
      have a1 : 0 ≤ c % 2147483549 := Int.emod_nonneg _ (by decide)
      have a2 : c % 2147483549 < 2147483549 := Int.emod_lt_of_pos _ (by decide)
      omega
    refine ⟨_, rfl, .ref a, rfl, a, _, rfl, .inl hS, _, _, rfl, rfl, _, rfl, ite2 (fun e => ?_) (fun e => ?_)⟩
    · have e1 : k < (ns.map V.int).length := of_decide_eq_true e
      rw [List.length_map] at e1
      obtain ⟨n, rfl⟩ := Int.eq_ofNat_of_zero_le k0
      have hn : n < ns.length := by omega
      have g : (ns.map V.int)[n]? = some (.int ns[n]) := by
        rw [List.getElem?_map, List.getElem?_eq_getElem hn]
        rfl
      refine ⟨.ref a, rfl, .int n, rfl, a, _, _, _, rfl, rfl, hS, atI_nat g, _, rfl, ?_⟩
      have c0 : 0 ≤ (if ns[n] < 0 then -ns[n] else ns[n]) := by split <;> omega
      generalize (if ns[n] < 0 then -ns[n] else ns[n]) = c at c0
      obtain ⟨t1, t2⟩ := three c c0
      refine ⟨.int c, rfl, _, _, rfl, rfl, ⟨by decide, by decide, by decide⟩, _, _, rfl, rfl, _, _, rfl, .int c, rfl, _, _, rfl, rfl, (show (0 : Int) < 2147483549 by decide), .int n, rfl, _, _, rfl, rfl, .inl ⟨by decide, by decide⟩, _, _, rfl, rfl, _, _, rfl, rfl, _, _, rfl, rfl, ⟨by decide, by decide, t2⟩, _, _, rfl, rfl, (show (0 : Int) < 2147483543 by decide), _, _, rfl, rfl, by show 2 ≤ sizeLine; decide, fun p np => ?_⟩
      refine q p _ np ⟨_, _, upd_same, ?_, ?_, ?_⟩
      · split <;> omega
      · have := Int.emod_nonneg ((c % 2147483549 + 101 * n + 1) ^ (2 : Int).toNat) (show (2147483543 : Int) ≠ 0 by decide)
        omega
      · have := Int.emod_lt_of_pos ((c % 2147483549 + 101 * n + 1) ^ (2 : Int).toNat) (show (0 : Int) < 2147483543 by decide)
        omega
    · obtain ⟨t1, t2⟩ := three 0 (Int.le_refl _)
      refine ⟨.int 0, rfl, _, _, rfl, rfl, ⟨by decide, by decide, by decide⟩, _, _, rfl, rfl, _, _, rfl, .int 0, rfl, _, _, rfl, rfl, (show (0 : Int) < 2147483549 by decide), .int k, rfl, _, _, rfl, rfl, .inl ⟨by decide, by decide⟩, _, _, rfl, rfl, _, _, rfl, rfl, _, _, rfl, rfl, ⟨by decide, by decide, t2⟩, _, _, rfl, rfl, (show (0 : Int) < 2147483543 by decide), _, _, rfl, rfl, by show 2 ≤ sizeLine; decide, fun p np => ?_⟩
      refine q p _ np ⟨_, _, upd_same, ?_, ?_, ?_⟩
      · split <;> omega
      · have := Int.emod_nonneg (((0 : Int) % 2147483549 + 101 * k + 1) ^ (2 : Int).toNat) (show (2147483543 : Int) ≠ 0 by decide)
        omega
      · have := Int.emod_lt_of_pos (((0 : Int) % 2147483549 + 101 * k + 1) ^ (2 : Int).toNat) (show (0 : Int) < 2147483543 by decide)
        omega
/-! ### _law_take -/
abbrev sTake : Stmt := topS 42
theorem scTake : FnScope ["_law_pot_here", "_law_many", "_law_digit"] ["_law_pot_here", "_law_many"] (defScope sTake) := ⟨rfl, rfl, rfl, by decide +kernel, rfl, by decide +kernel, by decide +kernel⟩
def spTake : Sp := fun vs H Q _ => ∃ (p : Addr) (m : Int), vs = [.ref p, .int m] ∧ Pot H p ∧ LitM m ∧ ∀ d H', 0 ≤ d → d < m → Pot H' p → But p H H' → Q (.int d) H'
theorem ok_take {f : Addr} {fd : FuncData} {k : Nat} (F : Fun K "_law_take" "_law_take" sTake f fd) (B2 : Blt2 mg) :
    FnOk P w K mg base CX0 (k + 1) f fd ["_law_pot_here", "_law_many"] spTake := by
  refine F.ok scTake (fun vs H Q E h => ?_) (fun cdv A outer s H vs Q E hr h => ?_)
  · obtain ⟨a, m, rfl, _⟩ := h
    rfl
  · obtain ⟨p, m, rfl, ⟨x, y, hp, x0, y0, y1⟩, ⟨m0, m1⟩, q⟩ := h
    refine ⟨_, pss_cons (ps_if (pt_cmpR op_gt (pe_ix ix_list (pv 0) pe_int (fun _ _ => rfl)) pe_int (nomark _))
        (pss_cons (ps_asg (pe_callB call_divmodW (by rfl) B2.divmod (by decide +kernel) (pa_cons (pe_ix ix_list (pv 0) pe_int (fun _ _ => rfl)) (pa_cons (pv 1) pa_nil)))
            (pg_tup rfl (pgs_cons (pg_sub (pv 0) pe_int set_list) (pgs_cons (pg_name (i := 2) scTake.nd rfl (.inl rfl)) pgs_nil))))
          (pss_one (ps_ret (pv 2)))) pss_nil)
      (pss_cons (ps_asg (pe_op op_mod (pe_op op_add (pe_op op_mul (pe_ix ix_list (pv 0) pe_int (fun _ _ => rfl)) pe_int) pe_int) pe_int) (pg_sub (pv 0) pe_int set_list))
      (pss_one (ps_ret (pe_op op_mod (pe_op op_fdiv (pe_op op_mod (pe_op op_mul (pe_ix ix_list (pv 0) pe_int (fun _ _ => rfl)) (pe_ix ix_list (pv 0) pe_int (fun _ _ => rfl))) pe_int) pe_int) (pv 1))))), ?_⟩
    have sq : SqL K H p [.int x, .int y] := .inl (.inl hp)
    refine ⟨.ref p, rfl, p, _, 0, .int x, rfl, rfl, sq, rfl, _, _, rfl, rfl, _, rfl, ite2 (fun e => ?_) (fun e => ?_)⟩
    · have e1 : 0 < x := of_decide_eq_true e
      refine ⟨.ref p, rfl, p, _, 0, .int x, rfl, rfl, sq, rfl, .int m, rfl, x, m, rfl, ⟨m0, PyProof.noPylong_of_log2 m1⟩, fun T hT => ?_⟩
      refine ⟨T, _, rfl, .inl (.inl upd_same), rfl, _, _, rfl, .ref p, rfl, p, _, 0, 0, rfl, rfl, same_upd hT _ _ hp, rfl, _, _, rfl, rfl, ?_⟩
      refine ⟨_, rfl, q _ _ (Int.emod_nonneg _ (by omega)) (Int.emod_lt_of_pos _ m0) ⟨x / m, y, upd_same, Int.ediv_nonneg x0 (by omega), y0, y1⟩ ?_⟩
      exact (But.new hT).trans But.at
    · have c0 : 0 ≤ (y * 48271 + 10007) % 2147483587 := Int.emod_nonneg _ (by decide)
      have c1 : (y * 48271 + 10007) % 2147483587 < 2147483587 := Int.emod_lt_of_pos _ (by decide)
      refine ⟨.ref p, rfl, p, _, 1, .int y, rfl, rfl, sq, rfl, _, _, rfl, rfl, .inl ⟨by omega, by omega⟩, _, _, rfl, rfl, _, _, rfl, rfl, (show (0 : Int) < 2147483587 by decide), .ref p, rfl, p, _, 1, 1, rfl, rfl, hp, rfl, ?_⟩
      have sq2 : SqL K (upd H p (.lst ([V.int x, V.int y].set 1 (.int ((y * 48271 + 10007) % 2147483587))))) p [.int x, .int ((y * 48271 + 10007) % 2147483587)] := .inl (.inl upd_same)
      refine ⟨.ref p, rfl, p, _, 1, _, rfl, rfl, sq2, rfl, .ref p, rfl, p, _, 1, _, rfl, rfl, sq2, rfl, _, _, rfl, rfl, .inl ⟨by omega, by omega⟩, _, _, rfl, rfl, (show (0 : Int) < 2147483563 by decide), _, _, rfl, rfl, ⟨by decide, by decide⟩, .int m, rfl, _, _, rfl, rfl, m0, ?_⟩
      exact q _ _ (Int.emod_nonneg _ (by omega)) (Int.emod_lt_of_pos _ m0) ⟨x, _, upd_same, x0, c0, by omega⟩ But.at
/-- what the callers of _law_take have -/
structure HasTake (P : Program) (w : World) (K : PySem.W.Frag) (mg : Str → Option Value) (base : Heap) (f : Addr) (fd : FuncData) : Prop where
  ok : FnOk P w K mg base CX0 1 f fd ["_law_pot_here", "_law_many"] spTake
  g : mg "_law_take" = some (.ref f)
  kp : PySem.W.keepIn K (.ref f) = true
  b : Binds K fd ["_law_pot_here", "_law_many"] []
/-! ### _law_among -/
abbrev sAmong : Stmt := topS 45
theorem scAmong : FnScope ["_law_pot_here", "_law_some"] ["_law_pot_here", "_law_some"] (defScope sAmong) := ⟨rfl, rfl, rfl, by decide +kernel, rfl, by decide +kernel, by decide +kernel⟩
def spAmong : Sp := fun vs H Q _ => ∃ p v, vs = [.ref p, v] ∧ Pot H p ∧
  ((∃ z, v = .str z ∧ 0 < z.length ∧ z.length ≤ 1000 ∧ ∀ c H', c ∈ z.cps.toList → Pot H' p → But p H H' → Q (.str ⟨#[c]⟩) H') ∨
   (∃ a xs, v = .ref a ∧ a ≠ p ∧ H a = some (.lst xs) ∧ 0 < xs.length ∧ xs.length ≤ 1000 ∧ ∀ x H', x ∈ xs → Pot H' p → But p H H' → Q x H'))
theorem ok_among {f fT : Addr} {fd fdT : FuncData} (F : Fun K "_law_among" "_law_among" sAmong f fd) (B : Blt mg) (T : HasTake P w K mg base fT fdT) :
    FnOk P w K mg base CX0 2 f fd ["_law_pot_here", "_law_some"] spAmong := by
  refine F.ok scAmong (fun vs H Q E h => ?_) (fun cdv A outer s H vs Q E hr h => ?_)
  · obtain ⟨a, m, rfl, _⟩ := h
    rfl
  · obtain ⟨p, v, rfl, hp, h⟩ := h
    refine ⟨_, pss_one (ps_ret (pe_ix ix_seq (pv 1) (pe_call T.ok hr (by rfl) T.g T.kp T.b .nil pass0 (pa_cons (pv 0) (pa_cons (pe_callB call_len (by rfl) B.len PySem.boot_len (pa_cons (pv 1) pa_nil)) pa_nil))) (fun _ _ => rfl))), ?_⟩
    rcases h with ⟨z, rfl, z0, z1, q⟩ | ⟨a, xs, rfl, ne, ha, x0, x1, q⟩
    · have zl := small_line z1
      refine ⟨.str z, rfl, .ref p, rfl, .str z, rfl, .str z, z.length, rfl, ⟨zl, rfl⟩, p, z.length, rfl, hp, litM _ (by omega) (by omega), fun d H' d0 d1 hp' hb => ?_⟩
      have el : z.cps.toList.length = z.length := rfl
      obtain ⟨c, e1, e2⟩ := pick (xs := z.cps.toList) d0 (by rw [el]; exact d1)
      exact .inr (.inr ⟨z, d, c, rfl, rfl, zl, e1, q c H' e2 hp' hb⟩)
    · refine ⟨.ref a, rfl, .ref p, rfl, .ref a, rfl, .ref a, xs.length, rfl, .inl ⟨xs, .inl (.inl ha), rfl⟩, p, xs.length, rfl, hp, litM _ (by omega) (by omega), fun d H' d0 d1 hp' hb => ?_⟩
      obtain ⟨c, e1, e2⟩ := pick (xs := xs) d0 d1
      exact .inl ⟨a, xs, d, c, rfl, rfl, .inl (.inl (hb _ _ ne ha)), e1, q c H' e2 hp' hb⟩
structure HasAmong (P : Program) (w : World) (K : PySem.W.Frag) (mg : Str → Option Value) (base : Heap) (f : Addr) (fd : FuncData) : Prop where
  ok : FnOk P w K mg base CX0 2 f fd ["_law_pot_here", "_law_some"] spAmong
  g : mg "_law_among" = some (.ref f)
  kp : PySem.W.keepIn K (.ref f) = true
  b : Binds K fd ["_law_pot_here", "_law_some"] []
end
end Rc

namespace Rc
open PySem PySem.Spec PyProof.Rows L2
/-! ### what no list and no dict touches -/
def Fix : HO → Prop
  | .lst _ | .dK _ | .dT _ | .set _ _ => False
  | _ => True
/-- all but lists and dicts as it was -/
def Kp (H H' : Hp) : Prop := ∀ b o, H b = some o → Fix o → H' b = some o
theorem Kp.refl (H : Hp) : Kp H H := fun _ _ e _ => e
theorem Kp.trans {H H1 H2 : Hp} (a : Kp H H1) (b : Kp H1 H2) : Kp H H2 := fun c o e f => b c o (a c o e f) f
theorem Same.kp {H H' : Hp} (s : Same H H') : Kp H H' := fun b o e _ => s b o e
theorem But.kp {p : Addr} {H H' : Hp} {xs : List V} (s : But p H H') (h : H p = some (.lst xs)) : Kp H H' := fun b o e f => s b o (fun z => by
  rw [z, h] at e
  cases e
  exact f) e
/-- all tuples as they were -/
def TupO : HO → Prop
  | .tup _ | .frz _ _ => True
  | _ => False
def KT (H H' : Hp) : Prop := ∀ b o, H b = some o → TupO o → H' b = some o
theorem Kp.kt {H H' : Hp} (k : Kp H H') : KT H H' := fun b o e t => k b o e (by cases o <;> first | exact t.elim | exact trivial)
theorem kt_same {H H' : Hp} (s : Same H H') : KT H H' := fun b o e _ => s b o e
theorem KT.trans {H H1 H2 : Hp} (a : KT H H1) (b : KT H1 H2) : KT H H2 := fun c o e f => b c o (a c o e f) f
theorem kt_upd {H : Hp} {x : Addr} {o o' : HO} (h : H x = some o) (n : ¬ TupO o) : KT H (upd H x o') := fun b u e t => by
  have nb : b ≠ x := fun z => by
    rw [z, h] at e
    cases e
    exact n t
  rw [upd_ne nb]
  exact e
mutual
/-- no list, no dict in it -/
def tupD : PyData → Bool
  | .list _ | .dict _ => false
  | .tuple ds => tupDs ds
  | .none | .bool _ | .int _ | .str _ => true
def tupDs : List PyData → Bool
  | [] => true
  | d :: ds => tupD d && tupDs ds
end
mutual
theorem Dt.keepT {K : PySem.W.Frag} {H H' : Hp} (e : KT H H') : ∀ {v : V} (d : PyData), tupD d = true → Dt K H v d → Dt K H' v d
  | _, .none, _, h => by cases h; exact .non
  | _, .bool _, _, h => by cases h; exact .bl _
  | _, .int _, _, h => by cases h; exact .int _
  | _, .str _, _, h => by cases h; exact .str _
  | _, .list ds, t, h => by simp [tupD] at t
  | _, .dict ps, t, h => by simp [tupD] at t
  | _, .tuple ds, t, h => by
    cases h with
    | tup q a =>
      refine .tup ?_ (DtAll.keepT e ds (by simpa [tupD] using t) a)
      rcases q with (q | ⟨o, q⟩) | q
      · exact .inl (.inl (e _ _ q trivial))
      · exact .inl (.inr ⟨o, e _ _ q trivial⟩)
      · exact .inr q
theorem DtAll.keepT {K : PySem.W.Frag} {H H' : Hp} (e : KT H H') : ∀ {vs : List V} (ds : List PyData), tupDs ds = true → DtAll K H vs ds → DtAll K H' vs ds
  | _, [], _, h => by cases h; exact .nil
  | _, d :: ds, t, h => by
    cases h with
    | cons a b =>
      have t' : tupD d = true ∧ tupDs ds = true := by simpa [tupDs] using t
      exact .cons (Dt.keepT e d t'.1 a) (DtAll.keepT e ds t'.2 b)
end
theorem Dt.keep {K : PySem.W.Frag} {H H' : Hp} (e : Kp H H') {v : V} (d : PyData) (t : tupD d = true) (h : Dt K H v d) : Dt K H' v d := Dt.keepT e.kt d t h
theorem DtAll.keep {K : PySem.W.Frag} {H H' : Hp} (e : Kp H H') {vs : List V} (ds : List PyData) (t : tupDs ds = true) (h : DtAll K H vs ds) : DtAll K H' vs ds := DtAll.keepT e.kt ds t h
theorem tupDs_map {α : Type} {f : α → PyData} (h : ∀ x, tupD (f x) = true) : ∀ l : List α, tupDs (l.map f) = true
  | [] => rfl
  | x :: r => by
    rw [List.map_cons]
    simp only [tupDs, h x, tupDs_map h r, Bool.and_self]
theorem DtAll.drop {K : PySem.W.Frag} {H : Hp} : ∀ {vs : List V} {ds : List PyData} (n : Nat), DtAll K H vs ds → DtAll K H (vs.drop n) (ds.drop n)
  | _, _, 0, h => h
  | _, _, _ + 1, .nil => .nil
  | _, _, n + 1, .cons _ t => DtAll.drop n t
theorem DtAll.take {K : PySem.W.Frag} {H : Hp} : ∀ {vs : List V} {ds : List PyData} (n : Nat), DtAll K H vs ds → DtAll K H (vs.take n) (ds.take n)
  | _, _, 0, h => .nil
  | _, _, _ + 1, .nil => .nil
  | _, _, n + 1, .cons a t => .cons a (DtAll.take n t)
theorem DtAll.get {K : PySem.W.Frag} {H : Hp} : ∀ {vs : List V} {ds : List PyData} {n : Nat} {d : PyData}, DtAll K H vs ds → ds[n]? = some d → ∃ v, vs[n]? = some v ∧ Dt K H v d
  | _, _, _, _, .nil, e => by simp at e
  | _, _, 0, _, .cons a _, e => by
    simp at e
    subst e
    exact ⟨_, rfl, a⟩
  | _, _, n + 1, _, .cons _ t, e => by
    obtain ⟨v, h1, h2⟩ := DtAll.get (n := n) t (by simpa using e)
    exact ⟨v, by simpa using h1, h2⟩
theorem DtAll.rep {K : PySem.W.Frag} {H : Hp} {v : V} {d : PyData} (h : Dt K H v d) : ∀ n : Nat, DtAll K H (List.replicate n v) (List.replicate n d)
  | 0 => .nil
  | n + 1 => .cons h (DtAll.rep h n)
theorem DtAll.strs {K : PySem.W.Frag} {H : Hp} : ∀ zs : List Str, DtAll K H (zs.map V.str) (zs.map PyData.str)
  | [] => .nil
  | z :: r => .cons (.str z) (DtAll.strs r)
theorem DtAll.ints {K : PySem.W.Frag} {H : Hp} : ∀ zs : List Int, DtAll K H (zs.map V.int) (zs.map PyData.int)
  | [] => .nil
  | z :: r => .cons (.int z) (DtAll.ints r)
theorem DtAll.strs_eq {K : PySem.W.Frag} {H : Hp} : ∀ {vs : List V} {zs : List Str}, DtAll K H vs (zs.map PyData.str) → vs = zs.map V.str
  | _, [], h => by cases h; rfl
  | _, z :: r, h => by
    cases h with
    | cons a t =>
      cases a
      rw [DtAll.strs_eq t]
      rfl
theorem DtAll.ints_eq {K : PySem.W.Frag} {H : Hp} : ∀ {vs : List V} {zs : List Int}, DtAll K H vs (zs.map PyData.int) → vs = zs.map V.int
  | _, [], h => by cases h; rfl
  | _, z :: r, h => by
    cases h with
    | cons a t =>
      cases a
      rw [DtAll.ints_eq t]
      rfl
/-! ### rules by data -/
theorem Dt.tup_inv {K : PySem.W.Frag} {H : Hp} {v : V} {ds : List PyData} (h : Dt K H v (.tuple ds)) : ∃ a xs, v = .ref a ∧ SqT K H a xs ∧ DtAll K H xs ds := by
  cases h with
  | tup q a => exact ⟨_, _, rfl, q, a⟩
theorem Dt.lst_inv {K : PySem.W.Frag} {H : Hp} {v : V} {ds : List PyData} (h : Dt K H v (.list ds)) : ∃ a xs, v = .ref a ∧ SqL K H a xs ∧ DtAll K H xs ds := by
  cases h with
  | lst q a => exact ⟨_, _, rfl, q, a⟩
section
variable {X : Cx}
def rCatD (K : PySem.W.Frag) : R2 := fun x y H Q => ∃ ds es, Dt K H x (.tuple ds) ∧ Dt K H y (.tuple es) ∧ ds.length + es.length ≤ 1000 ∧ ∀ v H', Same H H' → Dt K H' v (.tuple (ds ++ es)) → Q v H'
theorem op_catD : OpR X (binaryOp .Add) (rCatD X.K) := by
  intro pins s σ H x y v u Q I rx ry h
  obtain ⟨ds, es, h1, h2, hz, q⟩ := h
  obtain ⟨a, xs, rfl, qa, da⟩ := h1.tup_inv
  obtain ⟨b, ys, rfl, qb, db⟩ := h2.tup_inv
  refine op_catA pins s σ H _ _ v u Q I rx ry ⟨a, b, xs, ys, rfl, rfl, qa, qb, small_line (by rw [da.len, db.len]; exact hz), fun e => ?_, fun _ e => ?_, fun _ _ p hp => ?_⟩
  · subst e
    cases da
    exact q _ H (Same.refl _) h2
  · subst e
    cases db
    rw [List.append_nil] at q
    exact q _ H (Same.refl _) h1
  · exact q _ _ (same_upd hp) (.tup (.inl (.inl upd_same)) ((DtAll.same (same_upd hp) _ da).append (DtAll.same (same_upd hp) _ db)))
/-- t[n], n from 0 on -/
def rIxD (K : PySem.W.Frag) : R2 := fun x y H Q => ∃ ds n d, Dt K H x (.tuple ds) ∧ y = .int (n : Nat) ∧ ds[n]? = some d ∧ ∀ v, Dt K H v d → Q v H
theorem ix_tupD : IxR X (rIxD X.K) := by
  intro value slice pins s σ H x y v u Q I rx ry h hs
  obtain ⟨ds, n, d, h1, rfl, e, q⟩ := h
  obtain ⟨a, xs, rfl, qa, da⟩ := h1.tup_inv
  obtain ⟨z, e1, e2⟩ := da.get e
  exact ix_tup value slice pins s σ H _ _ v u Q I rx ry ⟨a, xs, n, z, rfl, rfl, qa, atI_nat e1, q z e2⟩ hs
/-- t[:n], t[n:] -/
def rSlD (K : PySem.W.Frag) : V → Option Int → Option Int → Hp → VK → Prop := fun x lo hi H Q => ∃ ds, Dt K H x (.tuple ds) ∧
  ((∃ n : Nat, lo = none ∧ hi = some (n : Int) ∧ ∀ v H', Same H H' → Dt K H' v (.tuple (ds.take n)) → Q v H') ∨ (∃ n : Nat, lo = some (n : Int) ∧ hi = none ∧ ∀ v H', Same H H' → Dt K H' v (.tuple (ds.drop n)) → Q v H'))
theorem cut_take (xs : List V) (n : Nat) : cutV xs none (some (n : Int)) = xs.take n := by
  unfold cutV
  rw [HT.sIx_nat, HT.sIx_none]
  rw [List.drop_zero, Nat.sub_zero]
  by_cases h : n ≤ xs.length
  · rw [Nat.min_eq_left h]
  · rw [Nat.min_eq_right (by omega), List.take_length, List.take_of_length_le (by omega)]
theorem cut_drop (xs : List V) (n : Nat) : cutV xs (some (n : Int)) none = xs.drop n := by
  unfold cutV
  rw [HT.sIx_nat, HT.sIx_none]
  by_cases h : n ≤ xs.length
  · rw [Nat.min_eq_left h]
    exact List.take_of_length_le (by rw [List.length_drop]; omega)
  · rw [Nat.min_eq_right (by omega), List.drop_length, List.drop_of_length_le (by omega), List.take_nil]
theorem sl_tupD : SlR X (rSlD X.K) := by
  intro pins s σ H x v vl vu lo hi sl Q I rx hs pl pu h
  obtain ⟨ds, h1, h⟩ := h
  obtain ⟨a, xs, rfl, qa, da⟩ := h1.tup_inv
  rcases h with ⟨n, rfl, rfl, q⟩ | ⟨n, rfl, rfl, q⟩
  · refine sl_tupA pins s σ H _ v vl vu _ _ sl Q I rx hs pl pu ⟨a, xs, rfl, qa, fun e => ?_, fun _ p hp => ?_⟩
    · have e2 := e.2
      rw [HT.sIx_nat] at e2
      refine q _ H (Same.refl _) ?_
      rw [List.take_of_length_le (by rw [← da.len]; omega)]
      exact h1
    · rw [cut_take]
      exact q _ _ (same_upd hp) (.tup (.inl (.inl upd_same)) (DtAll.same (same_upd hp) _ (da.take n)))
  · refine sl_tupA pins s σ H _ v vl vu _ _ sl Q I rx hs pl pu ⟨a, xs, rfl, qa, fun e => ?_, fun _ p hp => ?_⟩
    · have e1 := e.1
      rw [HT.sIx_nat] at e1
      refine q _ H (Same.refl _) ?_
      rcases Nat.min_eq_zero_iff.mp e1 with z | z
      · rw [z]
        exact h1
      · have : ds = [] := List.eq_nil_of_length_eq_zero (by rw [← da.len]; exact z)
        subst this
        rw [List.drop_nil]
        exact h1
    · rw [cut_drop]
      exact q _ _ (same_upd hp) (.tup (.inl (.inl upd_same)) (DtAll.same (same_upd hp) _ (da.drop n)))
/-- list(t), tuple(l) of tuples and lists of data: a new list; a tuple -/
def rListD (K : PySem.W.Frag) : List V → Hp → VK → Prop := fun vs H Q => ∃ v ds, vs = [v] ∧ (Dt K H v (.tuple ds) ∨ Dt K H v (.list ds)) ∧ ∀ l xs, H l = none → DtAll K H xs ds → Q (.ref l) (upd H l (.lst xs))
theorem call_listD : CallR X (.type "list") (rListD X.K) := by
  intro pins s σ H xs us Q I r h
  obtain ⟨v, ds, rfl, h1, q⟩ := h
  rcases h1 with h1 | h1
  · obtain ⟨a, ys, rfl, qa, da⟩ := h1.tup_inv
    exact call_list_of pins s σ H _ us Q I r ⟨a, ys, rfl, .inr qa, fun l hl => q l ys hl da⟩
  · obtain ⟨a, ys, rfl, qa, da⟩ := h1.lst_inv
    exact call_list_of pins s σ H _ us Q I r ⟨a, ys, rfl, .inl qa, fun l hl => q l ys hl da⟩
def rTupD (K : PySem.W.Frag) : List V → Hp → VK → Prop := fun vs H Q => ∃ v ds, vs = [v] ∧ Dt K H v (.list ds) ∧ ∀ t H', Same H H' → Dt K H' t (.tuple ds) → Q t H'
theorem call_tupD : CallR X (.type "tuple") (rTupD X.K) := by
  intro pins s σ H xs us Q I r h
  obtain ⟨v, ds, rfl, h1, q⟩ := h
  obtain ⟨a, ys, rfl, qa, da⟩ := h1.lst_inv
  exact call_tuple_of pins s σ H _ us Q I r ⟨a, ys, rfl, .inl ⟨qa, fun l hl => q _ _ (same_upd hl) (.tup (.inl (.inl upd_same)) (DtAll.same (same_upd hl) _ da))⟩⟩
end
open AutoSeq1 (wpAny_loadPart') in
theorem tuple_mul1 (l : Addr) (items : Array Value) (n : Nat) (dd : Option Addr) (sl : Array (Option Value)) (u : Tok) :
    Meets (Builtin.«tuple.__mul__» ⟨[.ref l, .int 1 u], []⟩) (fun _ R s => s.heap.get? l = some { cls := .type "tuple", dict := dd, data := .seq items n, slots := sl } ∧ R (.ok (.ret (Value.ref l))) s) :=
  .of_wp fun prog w A R s h => by
    obtain ⟨hp, g, d, tk, os⟩ := s
    obtain ⟨hl, h⟩ := h
    have f1 := AutoSeq1.idx_int
    wp_walk using wpAny_loadPart' hl
    exact ⟨_, rfl, h⟩
section
variable {X : Cx}
/-- (d,) * k, k from 1 on -/
def rRepD (K : PySem.W.Frag) : R2 := fun x y H Q => ∃ (d : PyData) (k : Nat), Dt K H x (.tuple [d]) ∧ y = .int (k : Nat) ∧ 1 ≤ k ∧ k ≤ 1000 ∧ ∀ v H', Same H H' → Dt K H' v (.tuple (List.replicate k d)) → Q v H'
theorem rep_one {v : V} : ∀ k : Nat, (List.replicate k [v]).flatten = List.replicate k v
  | 0 => rfl
  | k + 1 => by
    rw [List.replicate_succ, List.flatten_cons, rep_one k]
    rfl
theorem op_repD : OpR X (binaryOp .Mult) (rRepD X.K) := by
  intro pins s σ H x y v u Q I rx ry h
  obtain ⟨d, k, h1, rfl, k1, k2, q⟩ := h
  obtain ⟨l, xs, rfl, qa, da⟩ := h1.tup_inv
  by_cases hk : k = 1
  · subst hk
    cases rx
    obtain ⟨t, rfl⟩ := ry
    obtain ⟨its, r, ⟨⟨cls, dd, data, sl⟩, ho, hc, n, hd⟩, hs⟩ := I.tuple qa
    simp only at hc hd
    subst hc hd
    refine wpAny_binaryOp_repeat_ref (T := "tuple") (U := "int") (by decide) ⟨_, ho, rfl⟩ (fun s' => typeIs_int s' _ t) noFill_tuple_mul F.fills_int_mul F.slot_int_rmul repeat_tuple F.slot_int_index.lookup
      (call_meets F.slot_int_rmul (typeIs_int s _ t) F.entry_int_rmul (F.args_int_rmul_2 _ _) (int_rmul_tuple _ t l its.toArray n dd sl)
        ⟨ho, rfl, ⟨_, ho, rfl⟩, call_meets F.slot_tuple_mul ⟨_, ho, rfl⟩ F.entry_tuple_mul (F.args_tuple_mul_2 _ _) (tuple_mul1 l its.toArray n dd sl t) ⟨ho, ?_⟩⟩)
    exact ⟨.ref l, H, I, rfl, q _ H (Same.refl _) h1⟩
  · cases da with
    | cons a b =>
      cases b
      refine op_repT pins s σ H _ _ v u Q I rx ry ⟨l, k, _, rfl, rfl, qa, by simp, by omega, by omega, by simp, fun p hp => ?_⟩
      rw [rep_one]
      exact q _ _ (same_upd hp) (.tup (.inl (.inl upd_same)) (DtAll.rep (Dt.same (same_upd hp) _ a) k))
end
/-! ### a book's data -/
structure Bk where
  names : List Str
  gifts : List Int
  stacks : List (List (Str × Int))
  drops : List Int
def noteD (n : Str × Int) : PyData := .tuple [.str n.1, .int n.2]
def notesD (l : List (Str × Int)) : List PyData := l.map noteD
def stackD (l : List (Str × Int)) : PyData := .tuple (notesD l)
theorem tup_note (n : Str × Int) : tupD (noteD n) = true := by simp [noteD, tupD, tupDs]
theorem tup_notes (l : List (Str × Int)) : tupDs (notesD l) = true := tupDs_map tup_note l
theorem tup_stack (l : List (Str × Int)) : tupD (stackD l) = true := by
  unfold stackD
  simpa [tupD] using tup_notes l
theorem tup_stacks (l : List (List (Str × Int))) : tupD (.tuple (l.map stackD)) = true := by simpa [tupD] using tupDs_map tup_stack l
theorem tup_strs (l : List Str) : tupD (.tuple (l.map PyData.str)) = true := by simpa [tupD] using tupDs_map (f := PyData.str) (fun _ => by simp [tupD]) l
theorem tup_ints (l : List Int) : tupD (.tuple (l.map PyData.int)) = true := by simpa [tupD] using tupDs_map (f := PyData.int) (fun _ => by simp [tupD]) l
def bf (a b c d : V) : List (Str × V) := [("names", a), ("gifts", b), ("stacks", c), ("drops", d)]
theorem lk_hit {f : Str} {v : V} {r : List (Str × V)} : List.lookup f ((f, v) :: r) = some v := by simp [List.lookup]
theorem lk_miss {f g : Str} {v : V} {r : List (Str × V)} (h : (f == g) = false) : List.lookup f ((g, v) :: r) = List.lookup f r := by simp [List.lookup, h]
theorem bf_names {a b c d : V} : (bf a b c d).lookup ("names" : Str) = some a := lk_hit
theorem bf_gifts {a b c d : V} : (bf a b c d).lookup ("gifts" : Str) = some b := (lk_miss (by decide +kernel)).trans lk_hit
theorem bf_stacks {a b c d : V} : (bf a b c d).lookup ("stacks" : Str) = some c := (lk_miss (by decide +kernel)).trans ((lk_miss (by decide +kernel)).trans lk_hit)
theorem bf_drops {a b c d : V} : (bf a b c d).lookup ("drops" : Str) = some d := (lk_miss (by decide +kernel)).trans ((lk_miss (by decide +kernel)).trans ((lk_miss (by decide +kernel)).trans lk_hit))
/-- a name that is no field -/
def NoF (m : Str) : Prop := (m == "names") = false ∧ (m == "gifts") = false ∧ (m == "stacks") = false ∧ (m == "drops") = false
theorem bf_no {a b c d : V} {m : Str} (h : NoF m) : (bf a b c d).lookup m = none := (lk_miss h.1).trans ((lk_miss h.2.1).trans ((lk_miss h.2.2.1).trans ((lk_miss h.2.2.2).trans rfl)))
structure BookAt (K : PySem.W.Frag) (C : Addr) (H : Hp) (b : Addr) (M : Bk) : Prop where
  ex : ∃ dx tn on vg vs vd, H b = some (.ins C dx (bf (.ref tn) vg vs vd)) ∧ H tn = some (.frz on (.tup (M.names.map V.str))) ∧ on.dict = none ∧ Dt K H vg (.tuple (M.gifts.map .int)) ∧ Dt K H vs (.tuple (M.stacks.map stackD)) ∧ Dt K H vd (.tuple (M.drops.map .int))
theorem BookAt.keep {K : PySem.W.Frag} {C : Addr} {H H' : Hp} {b : Addr} {M : Bk} (h : BookAt K C H b M) (k : Kp H H') : BookAt K C H' b M := by
  obtain ⟨dx, tn, on, vg, vs, vd, e, h1, hn, h2, h3, h4⟩ := h.ex
  exact ⟨dx, tn, on, vg, vs, vd, k _ _ e trivial, k _ _ h1 trivial, hn, Dt.keep k _ (tup_ints _) h2, Dt.keep k _ (tup_stacks _) h3, Dt.keep k _ (tup_ints _) h4⟩
/-- a book that may be -/
structure Bk.Ok (M : Bk) : Prop where
  n0 : 1 ≤ M.names.length
  n1 : M.names.length ≤ 12
  nd : M.names.Nodup
  nm : ∀ z ∈ M.names, nameT z = true
  lg : M.gifts.length = M.names.length
  ls : M.stacks.length = M.names.length
  ld : M.drops.length = M.names.length
  many : (M.stacks.map List.length).sum ≤ 60
end Rc

namespace Rc
open PySem PySem.Spec PyProof.Rows L2
section
variable {X : Cx}
/-- tuple(l), the tuple known to the object -/
def rTupF (K : PySem.W.Frag) : List V → Hp → VK → Prop := fun vs H Q => ∃ p ys, vs = [.ref p] ∧ SqL K H p ys ∧ ∀ l o, H l = none → o.dict = none → Q (.ref l) (upd H l (.frz o (.tup ys)))
theorem call_tupF : CallR X (.type "tuple") (rTupF X.K) := by
  intro pins s σ H xs us Q I r h
  obtain ⟨p, ys, rfl, hq, q⟩ := h
  obtain ⟨u, rfl, rx⟩ := vals1 r
  cases rx
  obtain ⟨its, r', pl, hz⟩ := I.list hq
  have hlen := r'.length
  refine call_tuple_list pl.isList (fun h' kp => ?_) (by simp only [List.size_toArray] <;> omega)
  have I1 : L2.Inv X pins σ H { s with heap := h' } := I.kept (t' := s.toks) kp
  have e0 : (h'.push { cls := .type "tuple", data := .seq its.toArray }).get? h'.objs.size = some { cls := .type "tuple", data := .seq its.toArray } := Heap.get?_push_size _ rfl
  have I2 := I1.laid (a := h'.objs.size) (o := .frz { cls := .type "tuple", data := .seq its.toArray } (.tup ys)) (t' := s.toks) (h' := h'.push { cls := .type "tuple", data := .seq its.toArray })
    (fun b o e => Heap.get?_push_of_some _ e) (Nat.le_refl _) ⟨e0, hz, its, r', IsTup.new _ _⟩
  exact ⟨.ref h'.objs.size, _, I2, rfl, q _ _ (I1.hok.fresh (Nat.le_refl _)) rfl⟩
/-- t.m(e), t such a tuple -/
def tBMF (r : V → List V → Hp → VK → Prop) (to : TE) (t : TA) : TE := fun σ H Q => to σ H fun x H1 => ∃ p o xs, x = .ref p ∧ H1 p = some (.frz o (.tup xs)) ∧ o.dict = none ∧ t σ H1 fun vs H2 => r x vs H2 Q
theorem pe_bmF {o e : Expr} {es : List Expr} {to : TE} {t : TA} {name : Str} {apos cpos : Pos} {id : String} {r : V → List V → Hp → VK → Prop} (slot : Slot "tuple" name id) (hty : typeOf (.builtin id) = pure (.type "method_descriptor")) (hm : MtR X id r)
    (ho : PE X o to) (ha : PA X (e :: es) t) (hbase : attributeBase o name X.env (eval o X.env) = eval o X.env := by rfl)
    (hfew : ((backTo cpos (starEach (e :: es) X.env)).all (fun x => !x.1) && (backToKw cpos (keywordEach [] X.env)).all (fun x => x.1.isSome) &&
      decide ((e :: es).length + ([] : List Keyword).length + (if ([] : List Keyword).isEmpty then 0 else 1) < 30)) = true := by rfl)
    (hline : (apos.endLine == cpos.line) = true := by rfl) (hs : starEach (e :: es) X.env = (false, eval e X.env) :: starEach es X.env := by rfl)
    (hplain : (backTo cpos (starEach es X.env)).any (·.1) = false := by rfl) : PE X (.Call (.Attribute o name apos) (e :: es) [] cpos) (tBMF r to t) := by
  refine ⟨fun pins s σ H Q I h => wpAny_Call_method_late hbase hfew hline rfl (thn (ho.run pins s σ H _ I h) fun v s1 z => ?_)⟩
  obtain ⟨x, H1, I1, r1, p, ob, xs, rfl, hp, hd, q1⟩ := z
  cases r1
  obtain ⟨g1, _, its, rv, hT⟩ := I1.hok p _ hp
  obtain ⟨o2, g2, c2, _⟩ := hT
  rw [g1] at g2
  cases g2
  refine ⟨"tuple", id, PySem.F.plainAttrs_tuple, slot, hty, ⟨ob, g1, c2⟩, fun a e => ?_, ?_⟩
  · cases e
    exact ⟨ob, g1, hd⟩
  have hA := ha.run cpos pins s1 σ H1 _ I1 q1
  rw [hs] at hA ⊢
  refine Calls.callWith_builtin (by show (false || (backTo cpos (starEach es X.env)).any (·.1)) = false; rw [hplain] <;> rfl) (Calls.evalArgs_plain (thn hA fun us s2 z => ?_))
  obtain ⟨vs, H2, I2, r2, q2⟩ := z
  exact hm pins s2 σ H2 (.ref p) vs _ us Q I2 rfl r2 q2
/-- one of two readings of what is walked -/
theorem PI.or {tg e : Expr} {t1 t2 : TI} (h1 : PI X tg e t1) (h2 : PI X tg e t2) : PI X tg e (fun σ H R => t1 σ H R ∨ t2 σ H R) :=
  ⟨fun pins s σ H R I q => q.elim (h1.run pins s σ H R I) (h2.run pins s σ H R I)⟩
end
theorem inV_strs (z : Str) (zs : List Str) : inV (.str z) (zs.map V.str) = decide (z ∈ zs) := by
  unfold inV
  rw [List.any_map]
  induction zs with
  | nil => rfl
  | cons y r ih =>
    rw [List.any_cons, ih]
    show ((y == z) || decide (z ∈ r)) = decide (z ∈ y :: r)
    by_cases h : y = z
    · subst h
      simp
    · have h' : ¬ z = y := fun e => h e.symm
      rw [beq_eq_false_iff_ne.mpr h]
      simp [h']
end Rc

namespace Rc
open PySem PySem.Spec PyProof.Rows L2
/-- a def that is called -/
structure Has (P : Program) (w : World) (K : PySem.W.Frag) (mg : Str → Option Value) (base : Heap) (k : Nat) (nm : Str) (ps : List Str) (sp : Sp) (f : Addr) (fd : FuncData) : Prop where
  ok : FnOk P w K mg base CX0 k f fd ps sp
  g : mg nm = some (.ref f)
  kp : PySem.W.keepIn K (.ref f) = true
  b : Binds K fd ps []
/-- a method that is called -/
structure HasM (P : Program) (w : World) (K : PySem.W.Frag) (mg : Str → Option Value) (base : Heap) (C : Addr) (k : Nat) (nm : Str) (ps : List Str) (sp : Sp) (f : Addr) (fd : FuncData) : Prop where
  ok : FnOk P w K mg base CX0 k f fd ps sp
  m : Meth K C nm f
  b : Binds K fd ps []
structure Blt3 (mg : Str → Option Value) : Prop where
  list : mg "list" = none
  tuple : mg "tuple" = none
  enumerate : mg "enumerate" = none
  zip : mg "zip" = none
  sum : mg "sum" = none
  dict : mg "dict" = none
structure ClsF (K : PySem.W.Frag) (C : Addr) : Prop where
  cl : Cls K C
  n1 : NoAttr K C "names"
  n2 : NoAttr K C "gifts"
  n3 : NoAttr K C "stacks"
  n4 : NoAttr K C "drops"
section
variable {P : Program} {w : World} {K : PySem.W.Frag} {mg : Str → Option Value} {base : Heap}
/-! ### check_persons -/
abbrev sCheckP : Stmt := topS 18
theorem scCheckP : FnScope ["persons", "place", "name"] ["persons"] (defScope sCheckP) := ⟨rfl, rfl, rfl, by decide +kernel, rfl, by decide +kernel, by decide +kernel⟩
/-- names of which a book may be made -/
structure NamesOk (zs : List Str) : Prop where
  n0 : 1 ≤ zs.length
  n1 : zs.length ≤ 12
  nd : zs.Nodup
  nm : ∀ z ∈ zs, nameT z = true
theorem nameT_len {z : Str} (h : nameT z = true) : 1 ≤ z.length ∧ z.length ≤ 8 := by
  unfold nameT at h
  simp only [Bool.and_eq_true, decide_eq_true_eq] at h
  exact h.1
def spCheckP (K : PySem.W.Frag) : Sp := fun vs H Q _ => ∃ a zs, vs = [.ref a] ∧ H a = some (.lst (zs.map V.str)) ∧ NamesOk zs ∧ ∀ H', Same H H' → Q .non H'
theorem ok_checkP {f fN : Addr} {fd fdN : FuncData} (F : Fun K "check_persons" "check_persons" sCheckP f fd) (B : Blt mg) (B3 : Blt3 mg) (gM : ∃ t, mg "MOST_PERSONS" = some (.int 12 t))
    (N : Has P w K mg base 1 "is_name" ["thing"] (spBool K nameD) fN fdN) : FnOk P w K mg base CX0 2 f fd ["persons"] (spCheckP K) := by
  obtain ⟨tM, gM⟩ := gM
  refine F.ok scCheckP (fun vs H Q E h => ?_) (fun cdv A outer s H vs Q E hr h => ?_)
  · obtain ⟨a, zs, rfl, _⟩ := h
    rfl
  · obtain ⟨a, zs, rfl, ha, ok, q⟩ := h
    refine ⟨_, pss_cons (ps_if (PW.pt (pw_or (pt_not (pt_val (pe_callB call_isi (by rfl) B.isi (by decide +kernel) (pa_cons (pv 0) (pa_cons (pe_bltn (v := .ty "list") (by rfl) B3.list (by decide +kernel) rfl) pa_nil)))))
        (pw_or (pt_cmpR op_lt (pe_callB call_len_seq (by rfl) B.len PySem.boot_len (pa_cons (pv 0) pa_nil)) pe_int (nomark _))
        (pw_or1 (pt_cmpR op_gt (pe_callB call_len_seq (by rfl) B.len PySem.boot_len (pa_cons (pv 0) pa_nil)) (pe_glob (v := .int 12) (by rfl) gM ⟨_, rfl⟩) (nomark _)))))) pss_never pss_nil)
      (pss_one (ps_for PassesOwn.never rfl (pi_enum (by rfl) B3.enumerate (pa_cons (pv 0) pa_nil)) (pg_tup rfl (pgs_cons (pg_name (i := 1) scCheckP.nd rfl (.inl rfl)) (pgs_cons (pg_name (i := 2) scCheckP.nd rfl (.inl rfl)) pgs_nil)))
        (pss_cons (ps_if (pt_not (pt_val (pe_call N.ok hr (by rfl) N.g N.kp N.b .nil pass0 (pa_cons (pv 2) pa_nil)))) pss_never pss_nil)
        (pss_one (ps_if (pt_cmpR op_in_seq (pv 2) (pe_slice sl_list (pv 0) po_none (po_some (pv 1))) (by rfl)) pss_never pss_nil))))), ?_⟩
    have sq : SqL K H a (zs.map V.str) := .inl (.inl ha)
    refine ⟨.ref a, rfl, _, .ty "list", _, _, true, rfl, .ty "list", .base (.lst ha), kit_ty (by decide +kernel), _, rfl, iteF ?_⟩
    refine ⟨.ref a, rfl, a, _, rfl, .inl sq, _, _, rfl, rfl, _, rfl, ?_⟩
    have l0 := ok.n0
    have l1 := ok.n1
    rw [show decide (((zs.map V.str).length : Int) < 1) = false from decide_eq_false (by rw [List.length_map]; omega)]
    refine iteF ⟨.ref a, rfl, a, _, rfl, .inl sq, _, _, rfl, rfl, _, rfl, ?_⟩
    rw [show decide ((12 : Int) < ((zs.map V.str).length : Int)) = false from decide_eq_false (by rw [List.length_map]; omega)]
    refine iteF ⟨.ref a, rfl, a, _, rfl, sq, ?_⟩
    refine for_it (walk_enum (xs := zs.map V.str)) (fun i σ H' => ∃ y1 y2, σ = [some (.ref a), y1, y2] ∧ Same H H') ⟨_, _, rfl, Same.refl _⟩ (fun i σ H' _ hP => ?_) (fun i x σ H1' H1 hi hP hY => ?_) (fun σ H' hP => ?_)
    · obtain ⟨_, _, _, s⟩ := hP
      exact s.seq sq
    · obtain ⟨T, x1, x2, rfl, nT, rfl, e1, e2⟩ := hY
      obtain ⟨y1, y2, rfl, s1⟩ := hP
      cases e1
      have s2 := s1.trans (same_upd (o := .tup [V.int (i : Nat), x2]) nT)
      rw [List.length_map] at hi
      have ex : x2 = .str zs[i] := by
        have e2' : (zs.map V.str)[i]? = some x2 := e2
        rw [List.getElem?_map, List.getElem?_eq_getElem hi] at e2'
        exact (Option.some.inj e2').symm
      subst ex
      have hm : zs[i] ∈ zs := List.getElem_mem hi
      have nm := ok.nm _ hm
      refine ⟨T, _, rfl, .inl (.inl upd_same), rfl, _, _, rfl, _, _, rfl, rfl, ?_⟩
      refine ⟨.str zs[i], rfl, .str zs[i], .str zs[i], rfl, .str _, fun z e => by cases e; have := (nameT_len nm).2; omega, fun H2 sm => ⟨_, rfl, ?_⟩⟩
      have e3 : nameD (.str zs[i]) = true := nm
      rw [e3]
      refine iteF ⟨.str zs[i], rfl, .ref a, rfl, .int (i : Nat), rfl, _, rfl, a, _, rfl, sm.seq (s2.seq sq), fun p np => ?_⟩
      rw [cut_take, ← List.map_take]
      refine ⟨p, _, rfl, .inl (.inl (.inl upd_same)), rfl, flat_strs _, _, rfl, ?_⟩
      have no : ¬ zs[i] ∈ zs.take i := fun z => by
        obtain ⟨j, hj, e⟩ := List.getElem_of_mem z
        rw [List.length_take] at hj
        rw [List.getElem_take] at e
        have := (List.getElem_inj ok.nd).mp e
        omega
      show if inV (.str zs[i]) ((zs.take i).map V.str) = true then _ else _
      rw [inV_strs, decide_eq_false no]
      exact iteF ⟨_, _, rfl, s2.trans (sm.trans (same_upd np))⟩
    · obtain ⟨_, _, rfl, s⟩ := hP
      exact q _ s
/-! ### check_amount -/
abbrev sCheckA : Stmt := topS 19
theorem scCheckA : FnScope ["amount"] ["amount"] (defScope sCheckA) := ⟨rfl, rfl, rfl, by decide +kernel, rfl, by decide +kernel, by decide +kernel⟩
def spCheckA (K : PySem.W.Frag) : Sp := fun vs H Q _ => ∃ n : Int, vs = [.int n] ∧ 1 ≤ n ∧ ∀ H', Same H H' → Q .non H'
theorem ok_checkA {f fN : Addr} {fd fdN : FuncData} (F : Fun K "check_amount" "check_amount" sCheckA f fd)
    (N : Has P w K mg base 2 "is_amount" ["thing"] (spBool K amountD) fN fdN) : FnOk P w K mg base CX0 3 f fd ["amount"] (spCheckA K) := by
  refine F.ok scCheckA (fun vs H Q E h => ?_) (fun cdv A outer s H vs Q E hr h => ?_)
  · obtain ⟨a, rfl, _⟩ := h
    rfl
  · obtain ⟨n, rfl, n1, q⟩ := h
    refine ⟨_, pss_one (ps_if (pt_not (pt_val (pe_call N.ok hr (by rfl) N.g N.kp N.b .nil pass0 (pa_cons (pv 0) pa_nil)))) pss_never pss_nil), ?_⟩
    refine ⟨_, rfl, _, .int n, rfl, .int n, (fun z e => by cases e), fun H' sm => ⟨_, rfl, ?_⟩⟩
    have e : amountD (.int n) = true := decide_eq_true n1
    rw [e]
    exact iteF (q _ sm)
/-! ### with_changed -/
abbrev sChg : Stmt := topS 21
theorem scChg : FnScope ["row", "place", "thing"] ["row", "place", "thing"] (defScope sChg) := ⟨rfl, rfl, rfl, by decide +kernel, rfl, by decide +kernel, by decide +kernel⟩
def spChg (K : PySem.W.Frag) : Sp := fun vs H Q _ => ∃ v ds n t d, vs = [v, .int (n : Nat), t] ∧ Dt K H v (.tuple ds) ∧ Dt K H t d ∧ n < ds.length ∧ ds.length ≤ 100 ∧ ∀ v' H', Same H H' → Dt K H' v' (.tuple (ds.set n d)) → Q v' H'
theorem set_parts {α : Type} (ds : List α) (n : Nat) (d : α) (h : n < ds.length) : ds.take n ++ [d] ++ ds.drop (n + 1) = ds.set n d := by
  rw [List.set_eq_take_append_cons_drop, if_pos h, List.append_assoc]
  rfl
theorem ok_chg {f : Addr} {fd : FuncData} (F : Fun K "with_changed" "with_changed" sChg f fd) : FnOk P w K mg base CX0 1 f fd ["row", "place", "thing"] (spChg K) := by
  refine F.ok scChg (fun vs H Q E h => ?_) (fun cdv A outer s H vs Q E hr h => ?_)
  · obtain ⟨_, _, _, _, _, rfl, _⟩ := h
    rfl
  · obtain ⟨v, ds, n, t, d, rfl, hv, ht, hn, hz, q⟩ := h
    refine ⟨_, pss_one (ps_ret (pe_op op_catD (pe_op op_catD (pe_slice sl_tupD (pv 0) po_none (po_some (pv 1))) (pe_tup (pa_cons (pv 2) pa_nil))) (pe_slice sl_tupD (pv 0) (po_some (pe_op op_add (pv 1) pe_int)) po_none))), ?_⟩
    refine ⟨v, rfl, .int (n : Nat), rfl, (n : Nat), rfl, ds, hv, .inl ⟨n, rfl, rfl, fun v1 H1 s1 d1 => ?_⟩⟩
    refine ⟨t, rfl, by show 1 ≤ sizeLine; decide, fun p np => ⟨ds.take n, [d], Dt.same (same_upd np) _ d1, .tup (.inl (.inl upd_same)) (.cons (Dt.same (s1.trans (same_upd np)) _ ht) .nil), ?_, fun v2 H2 s2 d2 => ?_⟩⟩
    · rw [List.length_take, List.length_singleton]
      omega
    have s02 := s1.trans ((same_upd np).trans s2)
    refine ⟨v, rfl, .int (n : Nat), rfl, _, _, rfl, rfl, _, rfl, ds, Dt.same s02 _ hv, .inr ⟨n + 1, rfl, rfl, fun v3 H3 s3 d3 => ⟨_, _, Dt.same s3 _ d2, d3, ?_, fun v4 H4 s4 d4 => ?_⟩⟩⟩
    · rw [List.length_append, List.length_take, List.length_drop, List.length_singleton]
      omega
    · rw [set_parts ds n d hn] at d4
      exact q _ _ (s02.trans (s3.trans s4)) d4
end
end Rc

namespace Rc
open PySem PySem.Spec PyProof.Rows L2
/-- a list (k) or a tuple -/
def Sq (K : PySem.W.Frag) (k : Bool) (H : Hp) (a : Addr) (xs : List V) : Prop := if k = true then SqL K H a xs else SqT K H a xs
theorem same_seqT {K : PySem.W.Frag} {H H' : Hp} {a : Addr} {xs : List V} (e : Same H H') (h : SqT K H a xs) : SqT K H' a xs := by
  rcases h with (h | ⟨o, h⟩) | h
  · exact .inl (.inl (e _ _ h))
  · exact .inl (.inr ⟨o, e _ _ h⟩)
  · exact .inr h
theorem Sq.same {K : PySem.W.Frag} {k : Bool} {H H' : Hp} {a : Addr} {xs : List V} (h : Sq K k H a xs) (e : Same H H') : Sq K k H' a xs := by
  cases k with
  | true => exact e.seq h
  | false => exact same_seqT e h
/-- a list or a tuple that stands in slot i -/
def iSeqV (K : PySem.W.Frag) (i : Nat) : TI := fun σ H R => ∃ a xs k, σ[i]? = some (some (.ref a)) ∧ Sq K k H a xs ∧ ∀ J G, Walk J xs.length G (YAt xs) → (∀ H', Sq K k H' a xs → G H') → R J H
theorem pi_seqV {X : Cx} {tg : Expr} (i : Nat) {x : Str} {pos : Pos} (h : PE X (.Name x pos) (tVar i)) : PI X tg (.Name x pos) (iSeqV X.K i) := by
  refine ⟨fun pins s σ H R I q => ?_⟩
  obtain ⟨a, xs, k, e, hq, q⟩ := q
  cases k with
  | true => exact (pi_list h).run pins s σ H R I ⟨_, e, a, rfl, ⟨xs, hq⟩, q _ _ walk_list fun H' z => z⟩
  | false => exact (pi_tup h).run pins s σ H R I ⟨_, e, a, rfl, ⟨xs, hq⟩, q _ _ walk_tup fun H' z => z⟩
/-! ### notes that fall from above -/
def partOf (a f : Int) : Int := if f < a then f else a
def goneN : List (Str × Int) → Int → List (Str × Int)
  | [], _ => []
  | (t, a) :: r, f => (if 0 < partOf a f then [(t, partOf a f)] else []) ++ goneN r (f - partOf a f)
def leftN : List (Str × Int) → Int → List (Str × Int)
  | [], _ => []
  | (t, a) :: r, f => (if partOf a f < a then [(t, a - partOf a f)] else []) ++ leftN r (f - partOf a f)
theorem goneN_nil (f : Int) : goneN [] f = [] := rfl
theorem leftN_nil (f : Int) : leftN [] f = [] := rfl
theorem goneN_cons (t : Str) (a f : Int) (r : List (Str × Int)) : goneN ((t, a) :: r) f = (if 0 < partOf a f then [(t, partOf a f)] else []) ++ goneN r (f - partOf a f) := rfl
theorem leftN_cons (t : Str) (a f : Int) (r : List (Str × Int)) : leftN ((t, a) :: r) f = (if partOf a f < a then [(t, a - partOf a f)] else []) ++ leftN r (f - partOf a f) := rfl
theorem goneN_len : ∀ (l : List (Str × Int)) (f : Int), (goneN l f).length ≤ l.length
  | [], _ => Nat.le_refl _
  | (t, a) :: r, f => by
    have := goneN_len r (f - partOf a f)
    unfold goneN
    rw [List.length_append, List.length_cons]
    split <;> simp <;> omega
theorem leftN_len : ∀ (l : List (Str × Int)) (f : Int), (leftN l f).length ≤ l.length
  | [], _ => Nat.le_refl _
  | (t, a) :: r, f => by
    have := leftN_len r (f - partOf a f)
    unfold leftN
    rw [List.length_append, List.length_cons]
    split <;> simp <;> omega
theorem DtAll.notes_get {K : PySem.W.Frag} {H : Hp} {xs : List V} {l : List (Str × Int)} {i : Nat} {x : V} (h : DtAll K H xs (notesD l)) (e : xs[i]? = some x) : ∃ (hi : i < l.length), Dt K H x (noteD l[i]) := by
  have hl := h.len
  have hi : i < xs.length := (List.getElem?_eq_some_iff.mp e).1
  have hi' : i < l.length := by
    unfold notesD at hl
    rw [List.length_map] at hl
    omega
  refine ⟨hi', ?_⟩
  have g : (notesD l)[i]? = some (noteD l[i]) := by
    unfold notesD
    rw [List.getElem?_map, List.getElem?_eq_getElem hi']
    rfl
  obtain ⟨v, e1, e2⟩ := h.get g
  rw [e] at e1
  cases e1
  exact e2
theorem note_inv {K : PySem.W.Frag} {H : Hp} {v : V} {n : Str × Int} (h : Dt K H v (noteD n)) : ∃ a, v = .ref a ∧ SqT K H a [.str n.1, .int n.2] := by
  obtain ⟨a, xs, rfl, q, d⟩ := h.tup_inv
  cases d with
  | cons d1 d2 =>
    cases d1
    cases d2 with
    | cons d3 d4 =>
      cases d3
      cases d4
      exact ⟨a, rfl, q⟩
section
variable {P : Program} {w : World} {K : PySem.W.Frag} {mg : Str → Option Value} {base : Heap}
abbrev sSplit : Stmt := topS 20
abbrev nSplit : List Str := ["notes", "fallen", "gone", "left", "to", "amount", "part"]
theorem scSplit : FnScope nSplit ["notes", "fallen"] (defScope sSplit) := ⟨rfl, rfl, rfl, by decide +kernel, rfl, by decide +kernel, by decide +kernel⟩
def spSplit (K : PySem.W.Frag) : Sp := fun vs H Q _ => ∃ a xs kd l f, vs = [.ref a, .int f] ∧ Sq K kd H a xs ∧ DtAll K H xs (notesD l) ∧ l.length ≤ 100 ∧
  ∀ t g m gx mx H', Same H H' → H' t = some (.tup [.ref g, .ref m]) → H g = none → H m = none → g ≠ m → H' g = some (.lst gx) → H' m = some (.lst mx) → DtAll K H' gx (notesD (goneN l f)) → DtAll K H' mx (notesD (leftN l f)) → Q (.ref t) H'
theorem ok_split {f : Addr} {fd : FuncData} (F : Fun K "split_notes" "split_notes" sSplit f fd) (B2 : Blt2 mg) : FnOk P w K mg base CX0 1 f fd ["notes", "fallen"] (spSplit K) := by
  refine F.ok scSplit (fun vs H Q E h => ?_) (fun cdv A outer s H vs Q E hr h => ?_)
  · obtain ⟨_, _, _, _, _, rfl, _⟩ := h
    rfl
  · obtain ⟨a, xs, kd, l, f, rfl, hq, hd, hz, q⟩ := h
    refine ⟨_, pss_cons (ps_set (i := 2) scSplit.nd rfl (.inl rfl) (pe_lst pa_nil)) (pss_cons (ps_set (i := 3) scSplit.nd rfl (.inl rfl) (pe_lst pa_nil))
      (pss_cons (ps_for PassesOwn.never rfl (pi_seqV 0 (pv 0)) (pg_tup rfl (pgs_cons (pg_name (i := 4) scSplit.nd rfl (.inl rfl)) (pgs_cons (pg_name (i := 5) scSplit.nd rfl (.inl rfl)) pgs_nil)))
        (pss_cons (ps_set (i := 6) scSplit.nd rfl (.inl rfl) (pe_callB (call_min2 rfl) (by rfl) B2.min (by decide +kernel) (pa_cons (pv 5) (pa_cons (pv 1) pa_nil))))
        (pss_cons (ps_aug (i := 1) scSplit.nd rfl (.inl rfl) (pv 6) ip_sub)
        (C8.pss_cut (ps_if (pt_cmpR op_gt (pv 6) pe_int (nomark _)) (pss_one (ps_expr (pe_bm PySem.F.plainAttrs_list PySem.F.slot_list_append PySem.F.type_list_append mt_append (pv 2) (pa_cons (pe_tup (pa_cons (pv 4) (pa_cons (pv 6) pa_nil))) pa_nil)))) pss_nil)
        (pss_one (ps_if (pt_cmpR op_lt (pv 6) (pv 5) (nomark _)) (pss_one (ps_expr (pe_bm PySem.F.plainAttrs_list PySem.F.slot_list_append PySem.F.type_list_append mt_append (pv 3) (pa_cons (pe_tup (pa_cons (pv 4) (pa_cons (pe_op op_sub (pv 5) (pv 6)) pa_nil))) pa_nil)))) pss_nil))))))
      (pss_one (ps_ret (pe_tup (pa_cons (pv 2) (pa_cons (pv 3) pa_nil))))))), ?_⟩
    refine ⟨Nat.zero_le _, fun g ng => ⟨Nat.zero_le _, fun m nm => ?_⟩⟩
    have gm : g ≠ m := fun z => by
      rw [← z, upd_same] at nm
      cases nm
    have nmH : H m = none := by
      rw [upd_ne gm.symm] at nm
      exact nm
    have s0 : Same H (upd (upd H g (.lst [])) m (.lst [])) := (same_upd ng).trans (same_upd nm)
    refine ⟨a, xs, kd, rfl, hq.same s0, fun J G wk hG => ?_⟩
    have fresh : ∀ b o, H b = some o → b ≠ g ∧ b ≠ m := fun b o e => ⟨ne_of_none e ng, ne_of_none e nmH⟩
    refine for_it wk (fun i σ H' => ∃ y4 y5 y6 fi gx mx Gs Ms, σ = [some (.ref a), some (.int fi), some (.ref g), some (.ref m), y4, y5, y6] ∧ Same H H' ∧ H' g = some (.lst gx) ∧ H' m = some (.lst mx) ∧
        DtAll K H' gx (notesD Gs) ∧ DtAll K H' mx (notesD Ms) ∧ Gs.length ≤ i ∧ Ms.length ≤ i ∧ Gs ++ goneN (l.drop i) fi = goneN l f ∧ Ms ++ leftN (l.drop i) fi = leftN l f)
      ⟨_, _, _, f, [], [], [], [], rfl, s0, by rw [upd_ne gm, upd_same], upd_same, .nil, .nil, Nat.le_refl _, Nat.le_refl _, rfl, rfl⟩ (fun i σ H' _ hP => ?_) (fun i x σ H1' H1 hi hP hY => ?_) (fun σ H' hP => ?_)
    · obtain ⟨_, _, _, _, _, _, _, _, _, s1, _⟩ := hP
      exact hG _ (hq.same s1)
    · obtain ⟨rfl, ex⟩ := hY
      obtain ⟨y4, y5, y6, fi, gx, mx, Gs, Ms, rfl, s1, hg, hm, dg, dm, lg, lm, eg, em⟩ := hP
      obtain ⟨hil, dn⟩ := (DtAll.same s1 _ hd).notes_get ex
      obtain ⟨ta, rfl, qt⟩ := note_inv dn
      have ed : l.drop i = l[i] :: l.drop (i + 1) := List.drop_eq_getElem_cons hil
      rw [ed] at eg em
      obtain ⟨t, am, el⟩ : ∃ t am, l[i] = (t, am) := ⟨_, _, rfl⟩
      rw [el] at eg em qt
      rw [goneN_cons] at eg
      rw [leftN_cons] at em
      have dgl := dg.len
      have dml := dm.len
      unfold notesD at dgl dml
      rw [List.length_map] at dgl dml
      refine ⟨ta, _, rfl, qt, rfl, _, _, rfl, _, _, rfl, rfl, ?_⟩
      refine ⟨.int am, rfl, .int fi, rfl, _, _, rfl, ?_⟩
      have ep : (if fi < am then fi else am) = partOf am fi := rfl
      rw [ep]
      generalize partOf am fi = pt at eg em
      refine ⟨_, rfl, _, rfl, _, _, rfl, rfl, ?_⟩
      refine ⟨fun σ2 H2 => ∃ gx2 Gs2, σ2 = [some (V.ref a), some (V.int (fi - pt)), some (V.ref g), some (V.ref m), some (V.str t), some (V.int am), some (V.int pt)] ∧ Same H H2 ∧ H2 g = some (.lst gx2) ∧ H2 m = some (.lst mx) ∧ DtAll K H2 gx2 (notesD Gs2) ∧ DtAll K H2 mx (notesD Ms) ∧
        Gs2.length ≤ i + 1 ∧ Gs2 ++ goneN (l.drop (i + 1)) (fi - pt) = goneN l f, ?_, ?_⟩
      · refine ⟨.int pt, rfl, _, _, rfl, rfl, _, rfl, ite2 (fun e => ?_) (fun e => ?_)⟩
        · have e' := of_decide_eq_true e
          rw [if_pos e'] at eg
          refine ⟨.ref g, rfl, .inl ⟨rfl, _, .inl (.inl hg)⟩, .str t, rfl, .int pt, rfl, by show 2 ≤ sizeLine; decide, fun p np => ⟨g, gx, _, rfl, rfl, ?_, small1000 (by omega), ?_⟩⟩
          · rw [upd_ne (ne_of_none hg np)]
            exact hg
          have pm : p ≠ m := (ne_of_none hm np).symm
          have pg : p ≠ g := (ne_of_none hg np).symm
          have kp : Kp H1 (upd (upd H1 p (.tup [.str t, .int pt])) g (.lst (gx ++ [.ref p]))) := fun b o e fx => by
            have nb : b ≠ g := fun z => by
              rw [z, hg] at e
              cases e
              exact fx
            rw [upd_ne nb, upd_ne (ne_of_none e np)]
            exact e
          refine ⟨gx ++ [.ref p], Gs ++ [(t, pt)], rfl, fun b o e => ?_, upd_same, ?_, ?_, DtAll.keep kp _ (tup_notes _) dm, ?_, ?_⟩
          · rw [upd_ne (fresh b o e).1, upd_ne (ne_of_none (s1 b o e) np)]
            exact s1 b o e
          · rw [upd_ne gm.symm, upd_ne pm.symm]
            exact hm
          · unfold notesD
            rw [List.map_append]
            refine (DtAll.keep kp _ (tup_notes _) dg).append (.cons (.tup (.inl (.inl ?_)) (.cons (.str _) (.cons (.int _) .nil))) .nil)
            rw [upd_ne pg, upd_same]
          · rw [List.length_append]
            exact Nat.add_le_add_right lg 1
          · rw [List.append_assoc]
            exact eg
        · have e' : ¬ 0 < pt := fun c => e (decide_eq_true c)
          rw [if_neg e'] at eg
          exact ⟨gx, Gs, rfl, s1, hg, hm, dg, dm, Nat.le_succ_of_le lg, eg⟩
      · rintro σ2 H2 ⟨gx2, Gs2, rfl, s2, hg2, hm2, dg2, dm2, lg2, eg2⟩
        refine ⟨.int pt, rfl, .int am, rfl, _, _, rfl, rfl, _, rfl, ite2 (fun e => ?_) (fun e => ?_)⟩
        · have e' := of_decide_eq_true e
          rw [if_pos e'] at em
          refine ⟨.ref m, rfl, .inl ⟨rfl, _, .inl (.inl hm2)⟩, .str t, rfl, .int am, rfl, .int pt, rfl, _, _, rfl, rfl, by show 2 ≤ sizeLine; decide, fun p np => ⟨m, mx, _, rfl, rfl, ?_, small1000 (by omega), ?_⟩⟩
          · rw [upd_ne (ne_of_none hm2 np)]
            exact hm2
          have pm : p ≠ m := (ne_of_none hm2 np).symm
          have pg : p ≠ g := (ne_of_none hg2 np).symm
          have kp : Kp H2 (upd (upd H2 p (.tup [.str t, .int (am - pt)])) m (.lst (mx ++ [.ref p]))) := fun b o e fx => by
            have nb : b ≠ m := fun z => by
              rw [z, hm2] at e
              cases e
              exact fx
            rw [upd_ne nb, upd_ne (ne_of_none e np)]
            exact e
          refine ⟨_, _, _, fi - pt, gx2, mx ++ [.ref p], Gs2, Ms ++ [(t, am - pt)], rfl, fun b o e => ?_, ?_, upd_same, DtAll.keep kp _ (tup_notes _) dg2, ?_, lg2, ?_, eg2, ?_⟩
          · rw [upd_ne (fresh b o e).2, upd_ne (ne_of_none (s2 b o e) np)]
            exact s2 b o e
          · rw [upd_ne gm, upd_ne pg.symm]
            exact hg2
          · unfold notesD
            rw [List.map_append]
            refine (DtAll.keep kp _ (tup_notes _) dm2).append (.cons (.tup (.inl (.inl ?_)) (.cons (.str _) (.cons (.int _) .nil))) .nil)
            rw [upd_ne pm, upd_same]
          · rw [List.length_append]
            exact Nat.add_le_add_right lm 1
          · rw [List.append_assoc]
            exact em
        · have e' : ¬ pt < am := fun c => e (decide_eq_true c)
          rw [if_neg e'] at em
          exact ⟨_, _, _, fi - pt, gx2, mx, Gs2, Ms, rfl, s2, hg2, hm2, dg2, dm2, lg2, Nat.le_succ_of_le lm, eg2, em⟩
    · obtain ⟨y4, y5, y6, fi, gx, mx, Gs, Ms, rfl, s1, hg, hm, dg, dm, lg, lm, eg, em⟩ := hP
      have hx : l.drop xs.length = [] := List.drop_of_length_le (by
        have := hd.len
        unfold notesD at this
        rw [List.length_map] at this
        omega)
      rw [hx] at eg em
      rw [goneN_nil, List.append_nil] at eg
      rw [leftN_nil, List.append_nil] at em
      subst eg em
      refine ⟨.ref g, rfl, .ref m, rfl, by show 2 ≤ sizeLine; decide, fun t nt => ?_⟩
      have st := same_upd (o := .tup [.ref g, .ref m]) nt
      exact q t g m gx mx _ (s1.trans st) upd_same ng nmH gm (st _ _ hg) (st _ _ hm) (DtAll.same st _ dg) (DtAll.same st _ dm)
end
end Rc

namespace Rc
open PySem PySem.Spec PyProof.Rows L2
abbrev inBook (i : Nat) : Stmt := inClass (topS 22) i
theorem Bk.Ok.names {M : Bk} (h : M.Ok) : NamesOk M.names := ⟨h.n0, h.n1, h.nd, h.nm⟩
def newBk (zs : List Str) : Bk := ⟨zs, List.replicate zs.length 0, List.replicate zs.length [], List.replicate zs.length 0⟩
theorem putF_miss {f g : Str} {v x : V} {r : List (Str × V)} (h : ¬ g = f) : putF f v ((g, x) :: r) = (g, x) :: putF f v r := by
  show (if g = f then (g, v) :: r else (g, x) :: putF f v r) = _
  rw [if_neg h]
theorem putF_hit {f : Str} {v x : V} {r : List (Str × V)} : putF f v ((f, x) :: r) = (f, v) :: r := by
  show (if f = f then (f, v) :: r else (f, x) :: putF f v r) = _
  rw [if_pos rfl]
theorem put1 (a : V) : putF "names" a [] = ([("names", a)] : List (Str × V)) := rfl
theorem put2 (a b : V) : putF "gifts" b [("names", a)] = ([("names", a), ("gifts", b)] : List (Str × V)) := by
  rw [putF_miss (by decide +kernel)]
  rfl
theorem put3 (a b c : V) : putF "stacks" c [("names", a), ("gifts", b)] = ([("names", a), ("gifts", b), ("stacks", c)] : List (Str × V)) := by
  rw [putF_miss (by decide +kernel), putF_miss (by decide +kernel)]
  rfl
theorem put4 (a b c d : V) : putF "drops" d [("names", a), ("gifts", b), ("stacks", c)] = bf a b c d := by
  rw [putF_miss (by decide +kernel), putF_miss (by decide +kernel), putF_miss (by decide +kernel)]
  rfl
theorem putG (a b c d e : V) : putF "gifts" e (bf a b c d) = bf a e c d := by
  unfold bf
  rw [putF_miss (by decide +kernel), putF_hit]
theorem putS (a b c d e : V) : putF "stacks" e (bf a b c d) = bf a b e d := by
  unfold bf
  rw [putF_miss (by decide +kernel), putF_miss (by decide +kernel), putF_hit]
theorem putD (a b c d e : V) : putF "drops" e (bf a b c d) = bf a b c e := by
  unfold bf
  rw [putF_miss (by decide +kernel), putF_miss (by decide +kernel), putF_miss (by decide +kernel), putF_hit]
theorem bf_len (a b c d : V) : (bf a b c d).length < 1000 := by
  show 4 < 1000
  decide
section
variable {P : Program} {w : World} {K : PySem.W.Frag} {mg : Str → Option Value} {base : Heap}
/-! ### __init__ -/
abbrev sInit : Stmt := inBook 0
theorem scInit : FnScope ["self", "persons"] ["self", "persons"] (defScope sInit) := ⟨rfl, rfl, rfl, by decide +kernel, rfl, by decide +kernel, by decide +kernel⟩
def spInit (K : PySem.W.Frag) (C : Addr) : Sp := fun vs H Q _ => ∃ x dx a zs, vs = [.ref x, .ref a] ∧ H x = some (.ins C dx []) ∧ H a = some (.lst (zs.map V.str)) ∧ NamesOk zs ∧ ∀ H', But x H H' → BookAt K C H' x (newBk zs) → Q .non H'
theorem ok_init {f fc C : Addr} {fd fdc : FuncData} (F : Fun K "__init__" "Book.__init__" sInit f fd) (T : ClsF K C) (B : Blt mg) (B3 : Blt3 mg)
    (CP : Has P w K mg base 2 "check_persons" ["persons"] (spCheckP K) fc fdc) : FnOk P w K mg base CX0 3 f fd ["self", "persons"] (spInit K C) := by
  refine F.ok scInit (fun vs H Q E h => ?_) (fun cdv A outer s H vs Q E hr h => ?_)
  · obtain ⟨_, _, _, _, rfl, _⟩ := h
    rfl
  · obtain ⟨x, dx, a, zs, rfl, hx, ha, ok, q⟩ := h
    refine ⟨_, pss_cons (ps_expr (pe_call CP.ok hr (by rfl) CP.g CP.kp CP.b .nil pass0 (pa_cons (pv 1) pa_nil)))
      (pss_cons (ps_fld (pv 0) (pe_callTy call_tupF (by rfl) B3.tuple (by decide +kernel) (pa_cons (pv 1) pa_nil)) rfl)
      (pss_cons (ps_fld (pv 0) (pe_op op_repD (pe_tup (pa_cons pe_int pa_nil)) (pe_callB call_len_seq (by rfl) B.len PySem.boot_len (pa_cons (pv 1) pa_nil))) rfl)
      (pss_cons (ps_fld (pv 0) (pe_op op_repD (pe_tup (pa_cons (pe_tup pa_nil) pa_nil)) (pe_callB call_len_seq (by rfl) B.len PySem.boot_len (pa_cons (pv 1) pa_nil))) rfl)
      (pss_one (ps_fld (pv 0) (pe_op op_repD (pe_tup (pa_cons pe_int pa_nil)) (pe_callB call_len_seq (by rfl) B.len PySem.boot_len (pa_cons (pv 1) pa_nil))) rfl))))), ?_⟩
    have l0 := ok.n0
    have l1 := ok.n1
    have el : (zs.map V.str).length = zs.length := List.length_map ..
    have nxa : a ≠ x := ne_of ha hx (by intro z; cases z)
    refine ⟨.ref a, rfl, a, zs, rfl, ha, ok, fun H1 s1 => ?_⟩
    -- self.names = tuple(persons)
    refine ⟨.ref a, rfl, a, _, rfl, .inl (.inl (s1 _ _ ha)), fun tn on ntn don => ?_⟩
    have s2 : Same H1 (upd H1 tn (.frz on (.tup (zs.map V.str)))) := same_upd ntn
    have ntx : x ≠ tn := ne_of_none (s1 _ _ hx) ntn
    refine ⟨.ref x, rfl, x, C, dx, _, rfl, s2 _ _ (s1 _ _ hx), T.cl, T.n1, by show 0 < 1000; decide, ?_⟩
    rw [put1]
    generalize hH3 : upd (upd H1 tn (.frz on (.tup (zs.map V.str)))) x (.ins C dx [("names", V.ref tn)]) = H3
    have b3 : But x H H3 := by
      rw [← hH3]
      exact (same_but (s1.trans s2)).trans But.at
    have x3 : H3 x = some (.ins C dx [("names", V.ref tn)]) := by
      rw [← hH3, upd_same]
    have t3 : H3 tn = some (.frz on (.tup (zs.map V.str))) := by
      rw [← hH3, upd_ne ntx.symm, upd_same]
    -- self.gifts
    refine ⟨by show 1 ≤ sizeLine; decide, fun t1 nt1 => ?_⟩
    have s4 := same_upd (o := .tup [V.int 0]) nt1
    refine ⟨.ref a, rfl, a, _, rfl, .inl (.inl (.inl (s4 _ _ (b3 _ _ nxa ha)))), .int 0, zs.length, .tup (.inl (.inl upd_same)) (.cons (.int 0) .nil), by rw [el], l0, by omega, fun vg H5 s5 dg => ?_⟩
    have s35 := s4.trans s5
    refine ⟨.ref x, rfl, x, C, dx, _, rfl, s35 _ _ x3, T.cl, T.n2, by show 1 < 1000; decide, ?_⟩
    rw [put2]
    have k6 : KT H5 (upd H5 x (.ins C dx [("names", V.ref tn), ("gifts", vg)])) := kt_upd (s35 _ _ x3) (fun z => z)
    have b6 : But x H (upd H5 x (.ins C dx [("names", V.ref tn), ("gifts", vg)])) := b3.trans ((same_but s35).trans But.at)
    have k36 : KT H3 (upd H5 x (.ins C dx [("names", V.ref tn), ("gifts", vg)])) := (kt_same s35).trans k6
    generalize hH6 : upd H5 x (.ins C dx [("names", V.ref tn), ("gifts", vg)]) = H6 at k6 b6 k36
    have x6 : H6 x = some (.ins C dx [("names", V.ref tn), ("gifts", vg)]) := by
      rw [← hH6, upd_same]
    have dg6 := Dt.keepT k6 _ (by rw [← List.map_replicate]; exact tup_ints _) dg
    -- self.stacks
    refine ⟨by show 0 ≤ sizeLine; decide, fun t0 nt0 => ⟨by show 1 ≤ sizeLine; decide, fun t2 nt2 => ?_⟩⟩
    have s7 := (same_upd (o := .tup []) nt0).trans (same_upd (o := .tup [V.ref t0]) nt2)
    refine ⟨.ref a, rfl, a, _, rfl, .inl (.inl (.inl (s7 _ _ (b6 _ _ nxa ha)))), .tuple [], zs.length, .tup (.inl (.inl upd_same)) (.cons (.tup (.inl (.inl (same_upd nt2 _ _ upd_same))) .nil) .nil), by rw [el], l0, by omega, fun vs H8 s8 ds => ?_⟩
    have s68 := s7.trans s8
    refine ⟨.ref x, rfl, x, C, dx, _, rfl, s68 _ _ x6, T.cl, T.n3, by show 2 < 1000; decide, ?_⟩
    rw [put3]
    have k9 : KT H8 (upd H8 x (.ins C dx [("names", V.ref tn), ("gifts", vg), ("stacks", vs)])) := kt_upd (s68 _ _ x6) (fun z => z)
    have b9 : But x H (upd H8 x (.ins C dx [("names", V.ref tn), ("gifts", vg), ("stacks", vs)])) := b6.trans ((same_but s68).trans But.at)
    have k69 : KT H6 (upd H8 x (.ins C dx [("names", V.ref tn), ("gifts", vg), ("stacks", vs)])) := (kt_same s68).trans k9
    generalize hH9 : upd H8 x (.ins C dx [("names", V.ref tn), ("gifts", vg), ("stacks", vs)]) = H9 at k9 b9 k69
    have x9 : H9 x = some (.ins C dx [("names", V.ref tn), ("gifts", vg), ("stacks", vs)]) := by
      rw [← hH9, upd_same]
    have ts : tupD (.tuple (List.replicate zs.length (.tuple []))) = true := by
      have := tup_stacks (List.replicate zs.length [])
      rw [List.map_replicate] at this
      exact this
    have ds9 := Dt.keepT k9 _ ts ds
    -- self.drops
    refine ⟨by show 1 ≤ sizeLine; decide, fun t3' nt3 => ?_⟩
    have s10 := same_upd (o := .tup [V.int 0]) nt3
    refine ⟨.ref a, rfl, a, _, rfl, .inl (.inl (.inl (s10 _ _ (b9 _ _ nxa ha)))), .int 0, zs.length, .tup (.inl (.inl upd_same)) (.cons (.int 0) .nil), by rw [el], l0, by omega, fun vd H11 s11 dd => ?_⟩
    have s911 := s10.trans s11
    refine ⟨.ref x, rfl, x, C, dx, _, rfl, s911 _ _ x9, T.cl, T.n4, by show 3 < 1000; decide, ?_⟩
    rw [put4]
    have k12 : KT H11 (upd H11 x (.ins C dx (bf (.ref tn) vg vs vd))) := kt_upd (s911 _ _ x9) (fun z => z)
    have k912 : KT H9 (upd H11 x (.ins C dx (bf (.ref tn) vg vs vd))) := (kt_same s911).trans k12
    refine q _ (b9.trans ((same_but s911).trans But.at)) ⟨dx, tn, on, vg, vs, vd, upd_same, (k36.trans (k69.trans k912)) _ _ t3 trivial, don, ?_, ?_, ?_⟩
    · show Dt K _ vg (.tuple ((List.replicate zs.length (0 : Int)).map .int))
      rw [List.map_replicate]
      exact Dt.keepT (k69.trans k912) _ (by rw [← List.map_replicate]; exact tup_ints _) dg6
    · show Dt K _ vs (.tuple ((List.replicate zs.length []).map stackD))
      rw [List.map_replicate]
      exact Dt.keepT k912 _ ts ds9
    · show Dt K _ vd (.tuple ((List.replicate zs.length (0 : Int)).map .int))
      rw [List.map_replicate]
      exact Dt.keepT k12 _ (by rw [← List.map_replicate]; exact tup_ints _) dd
end
end Rc

namespace Rc
open PySem PySem.Spec PyProof.Rows L2
theorem book_same {K : PySem.W.Frag} {C : Addr} {H H' : Hp} {b : Addr} {M : Bk} (h : BookAt K C H b M) (s : Same H H') : BookAt K C H' b M := h.keep fun b o e _ => s b o e
theorem NoF.mk' {m : Str} (h : ((m == "names") || (m == "gifts") || (m == "stacks") || (m == "drops")) = false) : NoF m := by
  simp only [Bool.or_eq_false_iff] at h
  exact ⟨h.1.1.1, h.1.1.2, h.1.2, h.2⟩
section
variable {P : Program} {w : World} {K : PySem.W.Frag} {mg : Str → Option Value} {base : Heap}
/-! ### with_these -/
abbrev sWith : Stmt := inBook 1
theorem scWith : FnScope ["self", "gifts", "stacks", "drops", "other"] ["self", "gifts", "stacks", "drops"] (defScope sWith) := ⟨rfl, rfl, rfl, by decide +kernel, rfl, by decide +kernel, by decide +kernel⟩
def spWith (K : PySem.W.Frag) (C : Addr) : Sp := fun vs H Q _ => ∃ b M vg vs' vd gs ss ds, vs = [.ref b, vg, vs', vd] ∧ BookAt K C H b M ∧ NamesOk M.names ∧ Dt K H vg (.tuple (List.map PyData.int gs)) ∧ Dt K H vs' (.tuple (List.map stackD ss)) ∧ Dt K H vd (.tuple (List.map PyData.int ds)) ∧
  ∀ b' H', Same H H' → H b' = none → BookAt K C H' b' ⟨M.names, gs, ss, ds⟩ → Q (.ref b') H'
theorem ok_with {f fi C : Addr} {fd fdi : FuncData} (F : Fun K "with_these" "Book.with_these" sWith f fd) (T : ClsF K C) (B3 : Blt3 mg) (M : Mk K C fi) (gC : mg "Book" = some (.ref C))
    (GI : FnOk P w K mg base CX0 3 fi fdi ["self", "persons"] (spInit K C)) (bI : Binds K fdi ["self", "persons"] []) : FnOk P w K mg base CX0 5 f fd ["self", "gifts", "stacks", "drops"] (spWith K C) := by
  refine F.ok scWith (fun vs H Q E h => ?_) (fun cdv A outer s H vs Q E hr h => ?_)
  · obtain ⟨_, _, _, _, _, _, _, _, rfl, _⟩ := h
    rfl
  · obtain ⟨b, Mb, vg, vs', vd, gs, ss, ds, rfl, hb, ok, hg, hs, hd, q⟩ := h
    refine ⟨_, pss_cons (ps_set (i := 4) scWith.nd rfl (.inl rfl) (pe_make M GI hr (by rfl) gC bI .nil pass0 (pa_cons (pe_callTy call_list_of (by rfl) B3.list (by decide +kernel) (pa_cons (pe_fld (pv 0) rfl) pa_nil)) pa_nil)))
      (pss_cons (ps_fld (pv 4) (pv 1) rfl) (pss_cons (ps_fld (pv 4) (pv 2) rfl) (pss_cons (ps_fld (pv 4) (pv 3) rfl) (pss_one (ps_ret (pv 4)))))), ?_⟩
    obtain ⟨dx, tn, on, wg, ws, wd, e, h1, hn, h2, h3, h4⟩ := hb.ex
    refine ⟨.ref b, rfl, b, C, dx, _, _, rfl, e, T.cl, T.n1, bf_names, tn, _, rfl, .inr (.inl (.inr ⟨on, h1⟩)), fun l nl => ?_⟩
    intro x dy nx ndy nxy
    have s1 := same_upd (o := .lst (Mb.names.map V.str)) nl
    generalize hH1 : upd H l (.lst (Mb.names.map V.str)) = H1 at s1 nx ndy
    have hl : H1 l = some (.lst (Mb.names.map V.str)) := by
      rw [← hH1, upd_same]
    have nlx : l ≠ x := ne_of_none hl nx
    have nld : l ≠ dy := ne_of_none hl ndy
    have s2 : Same H1 (upd (upd H1 dy (.own x)) x (.ins C dy [])) := fun c o e => by
      rw [upd_ne (ne_of_none e nx), upd_ne (ne_of_none e ndy)]
      exact e
    refine ⟨x, dy, l, Mb.names, rfl, upd_same, s2 _ _ hl, ok, fun H2 b2 bk => ⟨rfl, ?_⟩⟩
    have nxH : H x = none := s1.free nx
    have s02 : Same H H2 := fun c o e => b2 c o (ne_of_none e nxH) (s2 c o (s1 c o e))
    obtain ⟨dx2, tn2, on2, ug, us, ud, e2, k1, kn, k2, k3, k4⟩ := bk.ex
    -- other.gifts = gifts; other.stacks = stacks; other.drops = drops
    refine ⟨vg, rfl, .ref x, rfl, x, C, dx2, _, rfl, e2, T.cl, T.n2, bf_len _ _ _ _, ?_⟩
    rw [putG]
    refine ⟨vs', rfl, .ref x, rfl, x, C, dx2, _, rfl, upd_same, T.cl, T.n3, bf_len _ _ _ _, ?_⟩
    rw [putS]
    refine ⟨vd, rfl, .ref x, rfl, x, C, dx2, _, rfl, upd_same, T.cl, T.n4, bf_len _ _ _ _, ?_⟩
    rw [putD, upd_upd, upd_upd]
    have kt : KT H2 (upd H2 x (.ins C dx2 (bf (.ref tn2) vg vs' vd))) := kt_upd e2 fun z => z
    have s03 : Same H (upd H2 x (.ins C dx2 (bf (.ref tn2) vg vs' vd))) := fun c o e => by
      rw [upd_ne (ne_of_none e nxH)]
      exact s02 c o e
    exact ⟨.ref x, rfl, q x _ s03 nxH ⟨dx2, tn2, on2, vg, vs', vd, upd_same, kt _ _ k1 trivial, kn, Dt.same s03 _ hg, Dt.same s03 _ hs, Dt.same s03 _ hd⟩⟩
/-! ### has, place_of, persons -/
abbrev sHas : Stmt := inBook 4
theorem scHas : FnScope ["self", "who"] ["self", "who"] (defScope sHas) := ⟨rfl, rfl, rfl, by decide +kernel, rfl, by decide +kernel, by decide +kernel⟩
def hasD (M : Bk) : PyData → Bool
  | .str z => decide (z ∈ M.names)
  | _ => false
def spHas (K : PySem.W.Frag) (C : Addr) : Sp := fun vs H Q _ => ∃ b M v d, vs = [.ref b, v] ∧ BookAt K C H b M ∧ NamesOk M.names ∧ Dt K H v d ∧ ShortD d ∧ ∀ H', Same H H' → Q (.bl (hasD M d)) H'
theorem ok_has {f fN C : Addr} {fd fdN : FuncData} (F : Fun K "has" "Book.has" sHas f fd) (T : ClsF K C) (N : Has P w K mg base 1 "is_name" ["thing"] (spBool K nameD) fN fdN) :
    FnOk P w K mg base CX0 2 f fd ["self", "who"] (spHas K C) := by
  refine F.ok scHas (fun vs H Q E h => ?_) (fun cdv A outer s H vs Q E hr h => ?_)
  · obtain ⟨_, _, _, _, rfl, _⟩ := h
    rfl
  · obtain ⟨b, M, v, d, rfl, hb, ok, hd, sd, q⟩ := h
    refine ⟨_, pss_one (ps_ret (pe_and (pe_call N.ok hr (by rfl) N.g N.kp N.b .nil pass0 (pa_cons (pv 1) pa_nil)) (pe_one (pe_cmpR op_in_seq (pv 1) (pe_fld (pv 0) rfl) (by rfl))))), ?_⟩
    refine ⟨v, rfl, v, d, rfl, hd, sd, fun H1 s1 => ⟨_, rfl, ?_⟩⟩
    obtain ⟨dx, tn, on, wg, ws, wd, e, h1, hn, h2, h3, h4⟩ := (book_same hb s1).ex
    have q1 := q H1 s1
    cases hd with
    | str z =>
      by_cases hm : z ∈ M.names
      · have en : nameD (.str z) = true := ok.nm z hm
        rw [en]
        refine iteT ⟨.str z, rfl, .ref b, rfl, b, C, dx, _, _, rfl, e, T.cl, T.n1, bf_names, tn, _, rfl, .inr (.inl (.inr ⟨on, h1⟩)), rfl, flat_strs _, ?_⟩
        show Q (.bl (inV (.str z) (M.names.map V.str))) H1
        rw [inV_strs]
        exact q1
      · have eh : hasD M (.str z) = false := decide_eq_false hm
        rw [eh] at q1
        cases en : nameD (.str z) with
        | false => exact iteF q1
        | true =>
          refine iteT ⟨.str z, rfl, .ref b, rfl, b, C, dx, _, _, rfl, e, T.cl, T.n1, bf_names, tn, _, rfl, .inr (.inl (.inr ⟨on, h1⟩)), rfl, flat_strs _, ?_⟩
          show Q (.bl (inV (.str z) (M.names.map V.str))) H1
          rw [inV_strs, decide_eq_false hm]
          exact q1
    | _ => exact iteF q1
abbrev sPlace : Stmt := inBook 2
theorem scPlace : FnScope ["self", "who"] ["self", "who"] (defScope sPlace) := ⟨rfl, rfl, rfl, by decide +kernel, rfl, by decide +kernel, by decide +kernel⟩
/-- the j-th person is called z -/
def spPlace (K : PySem.W.Frag) (C : Addr) : Sp := fun vs H Q _ => ∃ (b : Addr) (M : Bk) (z : Str) (j : Nat), vs = [.ref b, .str z] ∧ BookAt K C H b M ∧ NamesOk M.names ∧ M.names[j]? = some z ∧ ∀ H', Same H H' → Q (.int (j : Nat)) H'
theorem name_at {zs : List Str} (ok : NamesOk zs) {j : Nat} {z : Str} (e : zs[j]? = some z) : z ∈ zs ∧ (∀ m, m < j → zs[m]? ≠ some z) ∧ z.length ≤ 1000 := by
  have hm := List.mem_of_getElem? e
  refine ⟨hm, fun m hm' e' => ?_, by have := (nameT_len (ok.nm z hm)).2; omega⟩
  obtain ⟨h1, e1⟩ := List.getElem?_eq_some_iff.mp e
  obtain ⟨h2, e2⟩ := List.getElem?_eq_some_iff.mp e'
  have := (List.getElem_inj ok.nd).mp (e1.trans e2.symm)
  omega
theorem ok_place {f fh C : Addr} {fd fdh : FuncData} (F : Fun K "place_of" "Book.place_of" sPlace f fd) (T : ClsF K C) (HS : HasM P w K mg base C 2 "has" ["self", "who"] (spHas K C) fh fdh) :
    FnOk P w K mg base CX0 3 f fd ["self", "who"] (spPlace K C) := by
  refine F.ok scPlace (fun vs H Q E h => ?_) (fun cdv A outer s H vs Q E hr h => ?_)
  · obtain ⟨_, _, _, _, rfl, _⟩ := h
    rfl
  · obtain ⟨b, M, z, j, rfl, hb, ok, ej, q⟩ := h
    obtain ⟨hm, hf, hz⟩ := name_at ok ej
    refine ⟨_, pss_cons (ps_if (pt_not (pt_val (pe_meth (pv 0) T.cl HS.m HS.ok hr HS.b .nil pass0 (pa_cons (pv 1) pa_nil)))) pss_never pss_nil)
      (pss_one (ps_ret (pe_bmF PySem.F.slot_tuple_index PySem.F.type_tuple_index mt_tup_index (pe_fld (pv 0) rfl) (pa_cons (pv 1) pa_nil)))), ?_⟩
    obtain ⟨dx, tn, on, wg, ws, wd, e, h1, hn, h2, h3, h4⟩ := hb.ex
    refine ⟨.ref b, rfl, b, dx, _, rfl, e, bf_no (NoF.mk' (by decide +kernel)), .str z, rfl, b, M, .str z, .str z, rfl, hb, ok, .str z, (fun y ey => by cases ey; exact hz), fun H1 s1 => ⟨_, rfl, ?_⟩⟩
    have eh : hasD M (.str z) = true := decide_eq_true hm
    rw [eh]
    refine iteF ⟨.ref b, rfl, b, C, dx, _, _, rfl, s1 _ _ e, T.cl, T.n1, bf_names, tn, on, _, rfl, s1 _ _ h1, hn, .str z, rfl, tn, M.names, z, j, rfl, rfl, .inl (.inr ⟨on, s1 _ _ h1⟩), ej, hf, q H1 s1⟩
abbrev sPersons : Stmt := inBook 3
theorem scPersons : FnScope ["self"] ["self"] (defScope sPersons) := ⟨rfl, rfl, rfl, by decide +kernel, rfl, by decide +kernel, by decide +kernel⟩
def spPersons (K : PySem.W.Frag) (C : Addr) : Sp := fun vs H Q _ => ∃ b M, vs = [.ref b] ∧ BookAt K C H b M ∧ ∀ l, H l = none → Q (.ref l) (upd H l (.lst (M.names.map V.str)))
theorem ok_persons {f C : Addr} {fd : FuncData} (F : Fun K "persons" "Book.persons" sPersons f fd) (T : ClsF K C) (B3 : Blt3 mg) : FnOk P w K mg base CX0 1 f fd ["self"] (spPersons K C) := by
  refine F.ok scPersons (fun vs H Q E h => ?_) (fun cdv A outer s H vs Q E hr h => ?_)
  · obtain ⟨_, _, rfl, _⟩ := h
    rfl
  · obtain ⟨b, M, rfl, hb, q⟩ := h
    refine ⟨_, pss_one (ps_ret (pe_callTy call_list_of (by rfl) B3.list (by decide +kernel) (pa_cons (pe_fld (pv 0) rfl) pa_nil))), ?_⟩
    obtain ⟨dx, tn, on, wg, ws, wd, e, h1, hn, h2, h3, h4⟩ := hb.ex
    exact ⟨.ref b, rfl, b, C, dx, _, _, rfl, e, T.cl, T.n1, bf_names, tn, _, rfl, .inr (.inl (.inr ⟨on, h1⟩)), q⟩
/-! ### given, fallen, notes, pile -/
abbrev sGiven : Stmt := inBook 5
abbrev sFallen : Stmt := inBook 6
abbrev sNotes : Stmt := inBook 7
abbrev sPile : Stmt := inBook 8
theorem scGiven : FnScope ["self", "who"] ["self", "who"] (defScope sGiven) := ⟨rfl, rfl, rfl, by decide +kernel, rfl, by decide +kernel, by decide +kernel⟩
theorem scFallen : FnScope ["self", "who"] ["self", "who"] (defScope sFallen) := ⟨rfl, rfl, rfl, by decide +kernel, rfl, by decide +kernel, by decide +kernel⟩
theorem scNotes : FnScope ["self", "who"] ["self", "who"] (defScope sNotes) := ⟨rfl, rfl, rfl, by decide +kernel, rfl, by decide +kernel, by decide +kernel⟩
theorem scPile : FnScope ["self", "who", "gone", "left"] ["self", "who"] (defScope sPile) := ⟨rfl, rfl, rfl, by decide +kernel, rfl, by decide +kernel, by decide +kernel⟩
/-- a number of the j-th person -/
def spNum (K : PySem.W.Frag) (C : Addr) (g : Bk → List Int) : Sp := fun vs H Q _ => ∃ (b : Addr) (M : Bk) (z : Str) (j : Nat) (n : Int), vs = [.ref b, .str z] ∧ BookAt K C H b M ∧ NamesOk M.names ∧ M.names[j]? = some z ∧ (g M)[j]? = some n ∧ ∀ H', Same H H' → Q (.int n) H'
/-- a new list of notes of the j-th person -/
def spRow (K : PySem.W.Frag) (C : Addr) (g : List (Str × Int) → Int → List (Str × Int)) : Sp := fun vs H Q _ => ∃ (b : Addr) (M : Bk) (z : Str) (j : Nat) (l : List (Str × Int)) (n : Int), vs = [.ref b, .str z] ∧ BookAt K C H b M ∧ NamesOk M.names ∧ M.names[j]? = some z ∧
  M.stacks[j]? = some l ∧ M.drops[j]? = some n ∧ l.length ≤ 100 ∧ ∀ r xs H', Same H H' → H r = none → H' r = some (.lst xs) → DtAll K H' xs (notesD (g l n)) → Q (.ref r) H'
theorem map_get {α β : Type} {f : α → β} {l : List α} {j : Nat} {x : α} (h : l[j]? = some x) : (l.map f)[j]? = some (f x) := by
  rw [List.getElem?_map, h]
  rfl
theorem ok_given {f fp C : Addr} {fd fdp : FuncData} (F : Fun K "given" "Book.given" sGiven f fd) (T : ClsF K C) (PL : HasM P w K mg base C 3 "place_of" ["self", "who"] (spPlace K C) fp fdp) :
    FnOk P w K mg base CX0 4 f fd ["self", "who"] (spNum K C Bk.gifts) := by
  refine F.ok scGiven (fun vs H Q E h => ?_) (fun cdv A outer s H vs Q E hr h => ?_)
  · obtain ⟨_, _, _, _, _, rfl, _⟩ := h
    rfl
  · obtain ⟨b, M, z, j, n, rfl, hb, ok, ej, en, q⟩ := h
    refine ⟨_, pss_one (ps_ret (pe_ix ix_tupD (pe_fld (pv 0) rfl) (pe_meth (pv 0) T.cl PL.m PL.ok hr PL.b .nil pass0 (pa_cons (pv 1) pa_nil)) (fun _ _ => rfl))), ?_⟩
    obtain ⟨dx, tn, on, wg, ws, wd, e, h1, hn, h2, h3, h4⟩ := hb.ex
    refine ⟨.ref b, rfl, b, C, dx, _, _, rfl, e, T.cl, T.n2, bf_gifts, .ref b, rfl, b, dx, _, rfl, e, bf_no (NoF.mk' (by decide +kernel)), .str z, rfl, b, M, z, j, rfl, hb, ok, ej, fun H1 s1 => ?_⟩
    exact ⟨_, j, .int n, Dt.same s1 _ h2, rfl, map_get en, fun v dv => by cases dv; exact q H1 s1⟩
theorem ok_fallen {f fp C : Addr} {fd fdp : FuncData} (F : Fun K "fallen" "Book.fallen" sFallen f fd) (T : ClsF K C) (PL : HasM P w K mg base C 3 "place_of" ["self", "who"] (spPlace K C) fp fdp) :
    FnOk P w K mg base CX0 4 f fd ["self", "who"] (spNum K C Bk.drops) := by
  refine F.ok scFallen (fun vs H Q E h => ?_) (fun cdv A outer s H vs Q E hr h => ?_)
  · obtain ⟨_, _, _, _, _, rfl, _⟩ := h
    rfl
  · obtain ⟨b, M, z, j, n, rfl, hb, ok, ej, en, q⟩ := h
    refine ⟨_, pss_one (ps_ret (pe_ix ix_tupD (pe_fld (pv 0) rfl) (pe_meth (pv 0) T.cl PL.m PL.ok hr PL.b .nil pass0 (pa_cons (pv 1) pa_nil)) (fun _ _ => rfl))), ?_⟩
    obtain ⟨dx, tn, on, wg, ws, wd, e, h1, hn, h2, h3, h4⟩ := hb.ex
    refine ⟨.ref b, rfl, b, C, dx, _, _, rfl, e, T.cl, T.n4, bf_drops, .ref b, rfl, b, dx, _, rfl, e, bf_no (NoF.mk' (by decide +kernel)), .str z, rfl, b, M, z, j, rfl, hb, ok, ej, fun H1 s1 => ?_⟩
    exact ⟨_, j, .int n, Dt.same s1 _ h4, rfl, map_get en, fun v dv => by cases dv; exact q H1 s1⟩
theorem ok_notes {f fp C : Addr} {fd fdp : FuncData} (F : Fun K "notes" "Book.notes" sNotes f fd) (T : ClsF K C) (B3 : Blt3 mg) (PL : HasM P w K mg base C 3 "place_of" ["self", "who"] (spPlace K C) fp fdp) :
    FnOk P w K mg base CX0 4 f fd ["self", "who"] (spRow K C fun l _ => l) := by
  refine F.ok scNotes (fun vs H Q E h => ?_) (fun cdv A outer s H vs Q E hr h => ?_)
  · obtain ⟨_, _, _, _, _, _, rfl, _⟩ := h
    rfl
  · obtain ⟨b, M, z, j, l, n, rfl, hb, ok, ej, el, en, hl, q⟩ := h
    refine ⟨_, pss_one (ps_ret (pe_callTy call_listD (by rfl) B3.list (by decide +kernel) (pa_cons (pe_ix ix_tupD (pe_fld (pv 0) rfl) (pe_meth (pv 0) T.cl PL.m PL.ok hr PL.b .nil pass0 (pa_cons (pv 1) pa_nil)) (fun _ _ => rfl)) pa_nil))), ?_⟩
    obtain ⟨dx, tn, on, wg, ws, wd, e, h1, hn, h2, h3, h4⟩ := hb.ex
    refine ⟨.ref b, rfl, b, C, dx, _, _, rfl, e, T.cl, T.n3, bf_stacks, .ref b, rfl, b, dx, _, rfl, e, bf_no (NoF.mk' (by decide +kernel)), .str z, rfl, b, M, z, j, rfl, hb, ok, ej, fun H1 s1 => ?_⟩
    refine ⟨_, j, stackD l, Dt.same s1 _ h3, rfl, map_get el, fun v dv => ⟨v, _, rfl, .inl dv, fun r xs nr dx => ?_⟩⟩
    exact q r xs _ (s1.trans (same_upd nr)) (s1.free nr) upd_same (DtAll.same (same_upd nr) _ dx)
theorem ok_pile {f fs fn ff C : Addr} {fd fds fdn fdf : FuncData} (F : Fun K "pile" "Book.pile" sPile f fd) (T : ClsF K C) (SP : Has P w K mg base 1 "split_notes" ["notes", "fallen"] (spSplit K) fs fds)
    (NT : HasM P w K mg base C 4 "notes" ["self", "who"] (spRow K C fun l _ => l) fn fdn) (FL : HasM P w K mg base C 4 "fallen" ["self", "who"] (spNum K C Bk.drops) ff fdf) :
    FnOk P w K mg base CX0 5 f fd ["self", "who"] (spRow K C leftN) := by
  refine F.ok scPile (fun vs H Q E h => ?_) (fun cdv A outer s H vs Q E hr h => ?_)
  · obtain ⟨_, _, _, _, _, _, rfl, _⟩ := h
    rfl
  · obtain ⟨b, M, z, j, l, n, rfl, hb, ok, ej, el, en, hl, q⟩ := h
    refine ⟨_, pss_cons (ps_asg (pe_call SP.ok (hr.mono (by decide)) (by rfl) SP.g SP.kp SP.b .nil pass0 (pa_cons (pe_meth (pv 0) T.cl NT.m NT.ok hr NT.b .nil pass0 (pa_cons (pv 1) pa_nil))
        (pa_cons (pe_meth (pv 0) T.cl FL.m FL.ok hr FL.b .nil pass0 (pa_cons (pv 1) pa_nil)) pa_nil)))
        (pg_tup rfl (pgs_cons (pg_name (i := 2) scPile.nd rfl (.inl rfl)) (pgs_cons (pg_name (i := 3) scPile.nd rfl (.inl rfl)) pgs_nil))))
      (pss_one (ps_ret (pv 3))), ?_⟩
    obtain ⟨dx, tn, on, wg, ws, wd, e, h1, hn, h2, h3, h4⟩ := hb.ex
    refine ⟨.ref b, rfl, b, dx, _, rfl, e, bf_no (NoF.mk' (by decide +kernel)), .str z, rfl, b, M, z, j, l, n, rfl, hb, ok, ej, el, en, hl, fun r xs H1 s1 nr hr' dr => ?_⟩
    refine ⟨.ref b, rfl, b, dx, _, rfl, s1 _ _ e, bf_no (NoF.mk' (by decide +kernel)), .str z, rfl, b, M, z, j, n, rfl, book_same hb s1, ok, ej, en, fun H2 s2 => ?_⟩
    refine ⟨r, xs, true, l, n, rfl, .inl (.inl (s2 _ _ hr')), DtAll.same s2 _ dr, hl, fun t g m gx mx H3 s3 ht ng nm gm hg hm dg dm => ?_⟩
    refine ⟨t, _, rfl, .inl (.inl ht), rfl, _, _, rfl, _, _, rfl, rfl, .ref m, rfl, ?_⟩
    exact q m mx H3 (s1.trans (s2.trans s3)) ((s1.trans s2).free nm) hm dm
end
end Rc

namespace Rc
open PySem PySem.Spec PyProof.Rows L2 RZ
theorem walk_zipT {K : PySem.W.Frag} {a b : Addr} {xs ys : List V} {n : Nat} (hn : n = min xs.length ys.length) : Walk (ItzT K a b) n (fun H => SqT K H a xs ∧ SqT K H b ys) (YPair (fun i => xs[i]?) (fun i => ys[i]?)) := by
  subst hn
  refine ⟨fun i _ hi q => ?_, fun _ q => ⟨xs, ys, q.1, q.2, by omega⟩, fun i H v H' _ q y => ?_⟩
  · have h1 : i < xs.length := by omega
    have h2 : i < ys.length := by omega
    exact ⟨xs, ys, xs[i], ys[i], q.1, q.2, by simp [h1], by simp [h2]⟩
  · obtain ⟨T, x, z, g1, g2, g3, g4, g5⟩ := y
    exact ⟨T, x, z, g1, g2, g3, g4 xs q.1, g5 ys q.2⟩
def sumTo (z : Str) (l : List (Str × Int)) : Int := ((l.filter fun n => decide (n.1 = z)).map (·.2)).sum
def fallTo (M : Bk) (z : Str) : Int := ((M.stacks.zip M.drops).map fun p => sumTo z (goneN p.1 p.2)).sum
theorem len_le_sum : ∀ {l : List (List (Str × Int))} {x : List (Str × Int)}, x ∈ l → x.length ≤ (l.map List.length).sum
  | [], _, h => by cases h
  | y :: r, x, h => by
    rw [List.map_cons, List.sum_cons]
    rcases List.mem_cons.mp h with e | e
    · rw [e]
      exact Nat.le_add_right _ _
    · have := len_le_sum e
      omega
theorem Bk.Ok.row {M : Bk} (h : M.Ok) {l : List (Str × Int)} (hm : l ∈ M.stacks) : l.length ≤ 60 := Nat.le_trans (len_le_sum hm) h.many
theorem Bk.Ok.at_ {M : Bk} (h : M.Ok) {j : Nat} {z : Str} (e : M.names[j]? = some z) : ∃ g l d, M.gifts[j]? = some g ∧ M.stacks[j]? = some l ∧ M.drops[j]? = some d ∧ l.length ≤ 60 := by
  have hj : j < M.names.length := (List.getElem?_eq_some_iff.mp e).1
  have h1 : j < M.gifts.length := by rw [h.lg]; exact hj
  have h2 : j < M.stacks.length := by rw [h.ls]; exact hj
  have h3 : j < M.drops.length := by rw [h.ld]; exact hj
  exact ⟨_, _, _, List.getElem?_eq_getElem h1, List.getElem?_eq_getElem h2, List.getElem?_eq_getElem h3, h.row (List.getElem_mem h2)⟩
section
variable {P : Program} {w : World} {K : PySem.W.Frag} {mg : Str → Option Value} {base : Heap}
/-! ### fallen_to -/
abbrev sFallTo : Stmt := inBook 10
abbrev nFallTo : List Str := ["self", "who", "name", "total", "stack", "drop", "gone", "left", "to", "part"]
theorem scFallTo : FnScope nFallTo ["self", "who"] (defScope sFallTo) := ⟨rfl, rfl, rfl, by decide +kernel, rfl, by decide +kernel, by decide +kernel⟩
def spCalc (K : PySem.W.Frag) (C : Addr) (g : Bk → Nat → Str → Int) : Sp := fun vs H Q _ => ∃ (b : Addr) (M : Bk) (z : Str) (j : Nat), vs = [.ref b, .str z] ∧ BookAt K C H b M ∧ M.Ok ∧ M.names[j]? = some z ∧ ∀ H', Same H H' → Q (.int (g M j z)) H'
theorem ok_fallTo {f fp fs C : Addr} {fd fdp fds : FuncData} (F : Fun K "fallen_to" "Book.fallen_to" sFallTo f fd) (T : ClsF K C) (B3 : Blt3 mg) (PL : HasM P w K mg base C 3 "place_of" ["self", "who"] (spPlace K C) fp fdp)
    (SP : Has P w K mg base 1 "split_notes" ["notes", "fallen"] (spSplit K) fs fds) : FnOk P w K mg base CX0 4 f fd ["self", "who"] (spCalc K C fun M _ z => fallTo M z) := by
  refine F.ok scFallTo (fun vs H Q E h => ?_) (fun cdv A outer s H vs Q E hr h => ?_)
  · obtain ⟨_, _, _, _, rfl, _⟩ := h
    rfl
  · obtain ⟨b, M, z, j, rfl, hb, ok, ej, q⟩ := h
    refine ⟨_, pss_cons (ps_set (i := 2) scFallTo.nd rfl (.inr rfl) (pe_ix ix_tup (pe_fld (pv 0) rfl) (pe_meth (pv 0) T.cl PL.m PL.ok hr PL.b .nil pass0 (pa_cons (pv 1) pa_nil)) (fun _ _ => rfl)))
      (pss_cons (ps_set (i := 3) scFallTo.nd rfl (.inl rfl) pe_int)
      (pss_cons (ps_for PassesOwn.never rfl (pi_zipA (by rfl) B3.zip (pa_cons (pe_fld (pv 0) rfl) (pa_cons (pe_fld (pv 0) rfl) pa_nil))) (pg_tup rfl (pgs_cons (pg_name (i := 4) scFallTo.nd rfl (.inl rfl)) (pgs_cons (pg_name (i := 5) scFallTo.nd rfl (.inl rfl)) pgs_nil)))
        (pss_cons (ps_asg (pe_call SP.ok (hr.mono (by decide)) (by rfl) SP.g SP.kp SP.b .nil pass0 (pa_cons (pv 4) (pa_cons (pv 5) pa_nil))) (pg_tup rfl (pgs_cons (pg_name (i := 6) scFallTo.nd rfl (.inl rfl)) (pgs_cons (pg_name (i := 7) scFallTo.nd rfl (.inl rfl)) pgs_nil))))
        (pss_one (ps_aug (i := 3) scFallTo.nd rfl (.inl rfl) (pe_callB (cr_sum rfl) (by rfl) B3.sum (by decide +kernel) (pa_cons
          (pe_lc (own := [("to", 8), ("part", 9)]) (g := gTup K 2 (gCons (gName 8) (gCons (gName 9) gNil))) rfl scFallTo.nd (pi_list (pv 6)) (blkOk_by (N := nFallTo) (sc := defScope sFallTo) (own := [("to", 8), ("part", 9)]) (by decide +kernel))
            (fun _ _ _ _ _ => pg_tup rfl (pgs_cons (pg_name (i := 8) scFallTo.nd rfl (.inl rfl) (hf := .inr rfl)) (pgs_cons (pg_name (i := 9) scFallTo.nd rfl (.inl rfl) (hf := .inr rfl)) pgs_nil)))
            (fun _ _ _ _ _ => pts_one (pt_cmpR op_eq (pv 8) (pv 2) (nomark _))) (fun _ _ _ _ _ => pv 9)) pa_nil)) ip_add))))
      (pss_one (ps_ret (pv 3))))), ?_⟩
    obtain ⟨dx, tn, on, wg, ws, wd, e, h1, hn, h2, h3, h4⟩ := hb.ex
    refine ⟨.ref b, rfl, b, C, dx, _, _, rfl, e, T.cl, T.n1, bf_names, .ref b, rfl, b, dx, _, rfl, e, bf_no (NoF.mk' (by decide +kernel)), .str z, rfl, b, M, z, j, rfl, hb, ok.names, ej, fun H1 s1 => ?_⟩
    refine ⟨tn, _, _, .str z, rfl, rfl, .inl (.inr ⟨on, s1 _ _ h1⟩), atI_nat (map_get ej), ?_⟩
    have h3' := Dt.same s1 _ h3
    have h4' := Dt.same s1 _ h4
    obtain ⟨ta, xs, rfl, qa, da⟩ := h3'.tup_inv
    obtain ⟨tb, ys, rfl, qb, db⟩ := h4'.tup_inv
    have ey := db.ints_eq
    subst ey
    refine ⟨.ref b, rfl, b, C, dx, _, _, rfl, s1 _ _ e, T.cl, T.n3, bf_stacks, .ref b, rfl, b, C, dx, _, _, rfl, s1 _ _ e, T.cl, T.n4, bf_drops, ta, tb, xs, _, rfl, .inr ⟨qa, qb, ?_⟩⟩
    have lx : xs.length = M.names.length := by
      rw [da.len, List.length_map, ok.ls]
    have ly : (M.drops.map V.int).length = M.names.length := by
      rw [List.length_map, ok.ld]
    refine for_it (walk_zipT (xs := xs) (ys := M.drops.map V.int) (n := M.names.length) (by rw [lx, ly, Nat.min_self])) (fun i σ H' => ∃ y4 y5 y6 y7 y8 y9, σ = [some (.ref b), some (.str z), some (.str z), some (.int (((M.stacks.zip M.drops).take i).map fun p => sumTo z (goneN p.1 p.2)).sum), y4, y5, y6, y7, y8, y9] ∧ Same H1 H')
      ⟨_, _, _, _, _, _, rfl, Same.refl _⟩ (fun i σ H' _ hP => ?_) (fun i x σ H2' H2 hi hP hY => ?_) (fun σ H' hP => ?_)
    · obtain ⟨_, _, _, _, _, _, _, s2⟩ := hP
      exact ⟨same_seqT s2 qa, same_seqT s2 qb⟩
    · obtain ⟨y4, y5, y6, y7, y8, y9, rfl, s2⟩ := hP
      obtain ⟨Tt, x1, x2, rfl, nT, rfl, e1, e2⟩ := hY
      have e1' : xs[i]? = some x1 := e1
      have e2' : (M.drops.map V.int)[i]? = some x2 := e2
      have hs : i < M.stacks.length := by rw [ok.ls]; exact hi
      have hdr : i < M.drops.length := by rw [ok.ld]; exact hi
      rw [List.getElem?_map, List.getElem?_eq_getElem hdr] at e2'
      have ex2 : x2 = .int M.drops[i] := (Option.some.inj e2').symm
      subst ex2
      obtain ⟨v1, g1, d1⟩ := da.get (n := i) (d := stackD M.stacks[i]) (map_get (List.getElem?_eq_getElem hs))
      rw [e1'] at g1
      cases g1
      have s3 := s2.trans (same_upd (o := .tup [x1, V.int M.drops[i]]) nT)
      obtain ⟨sa, sx, rfl, sq, sd⟩ := (Dt.same s3 _ d1).tup_inv
      refine ⟨Tt, _, rfl, .inl (.inl upd_same), rfl, _, _, rfl, _, _, rfl, rfl, ?_⟩
      refine ⟨.ref sa, rfl, _, rfl, sa, sx, false, M.stacks[i], M.drops[i], rfl, sq, sd, by have := ok.row (List.getElem_mem hs); omega, fun t g m gx mx H4 s4 ht ng nm gm hg hm dg dm => ?_⟩
      refine ⟨t, _, rfl, .inl (.inl ht), rfl, _, _, rfl, _, _, rfl, rfl, ?_⟩
      refine ⟨_, rfl, .ref g, rfl, g, rfl, ⟨_, .inl (.inl hg)⟩, fun D nD => ?_⟩
      generalize hG : goneN M.stacks[i] M.drops[i] = G at dg
      have lg : gx.length = G.length := by
        rw [dg.len]
        unfold notesD
        rw [List.length_map]
      have lG : G.length ≤ 60 := by
        rw [← hG]
        exact Nat.le_trans (goneN_len _ _) (ok.row (List.getElem_mem hs))
      refine lc_it (walk_list (xs := gx)) (fun i' H' => Same H4 H' ∧ H' D = some (.lst (((G.take i').filter fun n => decide (n.1 = z)).map fun n => .int n.2))) ⟨same_upd nD, upd_same⟩ (fun i' H' _ hP => hP.1.seq (.inl (.inl hg)))
        (fun i' x' H5' H5 hi' hP hY => ?_) (fun H5 hP => ?_)
      · obtain ⟨rfl, hx⟩ := hY
        obtain ⟨hil, dn⟩ := (DtAll.same hP.1 _ dg).notes_get hx
        obtain ⟨na, rfl, qn⟩ := note_inv dn
        refine ⟨na, _, rfl, qn, rfl, _, _, rfl, _, _, rfl, rfl, rfl, _, rfl, _, rfl, rfl, _, rfl, ?_⟩
        have tk : G.take (i' + 1) = G.take i' ++ [G[i']] := by
          rw [List.take_add_one, List.getElem?_eq_getElem hil]
          rfl
        by_cases hz : G[i'].1 = z
        · rw [show decide (V.str G[i'].1 = V.str z) = true from decide_eq_true (by rw [hz])]
          refine iteT ⟨_, rfl, _, hP.2, ?_, fun c o ec => ?_, ?_⟩
          · rw [List.length_map]
            have := List.length_filter_le (fun n : Str × Int => decide (n.1 = z)) (G.take i')
            rw [List.length_take] at this
            exact small1000 (by omega)
          · rw [upd_ne (ne_of_none ec nD)]
            exact hP.1 c o ec
          · rw [upd_same, tk, List.filter_append, List.map_append]
            simp [hz]
        · rw [show decide (V.str G[i'].1 = V.str z) = false from decide_eq_false (fun c => hz (V.str.inj c))]
          refine iteF ⟨hP.1, ?_⟩
          rw [hP.2, tk, List.filter_append]
          simp [hz]
      · refine ⟨D, (G.filter fun n => decide (n.1 = z)).map (·.2), rfl, .inl (.inl ?_), _, _, rfl, rfl, ?_⟩
        · rw [hP.2, lg, List.take_length, List.map_map]
          rfl
        refine ⟨some (.ref sa), some (.int M.drops[i]), some (.ref g), some (.ref m), y8, y9, ?_, s3.trans (s4.trans hP.1)⟩
        have tk : (M.stacks.zip M.drops).take (i + 1) = (M.stacks.zip M.drops).take i ++ [(M.stacks[i], M.drops[i])] := by
          rw [List.take_add_one, List.getElem?_zip_eq_some (z := (M.stacks[i], M.drops[i])) |>.mpr ⟨List.getElem?_eq_getElem hs, List.getElem?_eq_getElem hdr⟩]
          rfl
        rw [tk, List.map_append, List.sum_append]
        simp only [List.map_cons, List.map_nil, List.sum_cons, List.sum_nil, Int.add_zero]
        rw [hG]
        rfl
    · obtain ⟨y4, y5, y6, y7, y8, y9, rfl, s2⟩ := hP
      refine ⟨_, rfl, ?_⟩
      rw [List.take_of_length_le (by rw [List.length_zip, ok.ls, ok.ld, Nat.min_self]; exact Nat.le_refl _)]
      exact q _ (s1.trans s2)
end
end Rc

namespace Rc
open PySem PySem.Spec PyProof.Rows L2 RZ
def cashM (M : Bk) (j : Nat) (z : Str) : Int := M.gifts.getD j 0 + fallTo M z - M.drops.getD j 0
def putM (M : Bk) (j : Nat) (y : Str) (n : Int) : Bk := { M with stacks := M.stacks.set j (M.stacks.getD j [] ++ [(y, n)]) }
def giveM (M : Bk) (j : Nat) (n : Int) : Bk := { M with gifts := M.gifts.set j (M.gifts.getD j 0 + n) }
theorem getD_of {α : Type} {l : List α} {j : Nat} {x d : α} (h : l[j]? = some x) : l.getD j d = x := by
  rw [List.getD_eq_getElem?_getD, h]
  rfl
def rLenS (K : PySem.W.Frag) : List V → Hp → VK → Prop := fun xs H Q => ∃ p ys, xs = [V.ref p] ∧ (SqL K H p ys ∨ SqT K H p ys) ∧ Q (V.int ys.length) H
theorem call_lenS {X : Cx} {K : PySem.W.Frag} (e : X.K = K) : CallR X (.builtin "len") (rLenS K) := by
  subst e
  exact call_len_seq
def manyM (M : Bk) : Nat := (M.stacks.map List.length).sum
section
variable {P : Program} {w : World} {K : PySem.W.Frag} {mg : Str → Option Value} {base : Heap}
/-! ### cash -/
abbrev sCash : Stmt := inBook 11
theorem scCash : FnScope ["self", "who"] ["self", "who"] (defScope sCash) := ⟨rfl, rfl, rfl, by decide +kernel, rfl, by decide +kernel, by decide +kernel⟩
theorem ok_cash {f f1 f2 f3 C : Addr} {fd fd1 fd2 fd3 : FuncData} (F : Fun K "cash" "Book.cash" sCash f fd) (T : ClsF K C) (GV : HasM P w K mg base C 4 "given" ["self", "who"] (spNum K C Bk.gifts) f1 fd1)
    (FT : HasM P w K mg base C 4 "fallen_to" ["self", "who"] (spCalc K C fun M _ z => fallTo M z) f2 fd2) (FL : HasM P w K mg base C 4 "fallen" ["self", "who"] (spNum K C Bk.drops) f3 fd3) :
    FnOk P w K mg base CX0 5 f fd ["self", "who"] (spCalc K C cashM) := by
  refine F.ok scCash (fun vs H Q E h => ?_) (fun cdv A outer s H vs Q E hr h => ?_)
  · obtain ⟨_, _, _, _, rfl, _⟩ := h
    rfl
  · obtain ⟨b, M, z, j, rfl, hb, ok, ej, q⟩ := h
    refine ⟨_, pss_one (ps_ret (pe_op op_sub (pe_op op_add (pe_meth (pv 0) T.cl GV.m GV.ok hr GV.b .nil pass0 (pa_cons (pv 1) pa_nil)) (pe_meth (pv 0) T.cl FT.m FT.ok hr FT.b .nil pass0 (pa_cons (pv 1) pa_nil))) (pe_meth (pv 0) T.cl FL.m FL.ok hr FL.b .nil pass0 (pa_cons (pv 1) pa_nil)))), ?_⟩
    obtain ⟨g, l, d, eg, el, ed, _⟩ := ok.at_ ej
    obtain ⟨dx, tn, on, wg, ws, wd, e, h1, hn, h2, h3, h4⟩ := hb.ex
    refine ⟨.ref b, rfl, b, dx, _, rfl, e, bf_no (NoF.mk' (by decide +kernel)), .str z, rfl, b, M, z, j, g, rfl, hb, ok.names, ej, eg, fun H1 s1 => ?_⟩
    refine ⟨.ref b, rfl, b, dx, _, rfl, s1 _ _ e, bf_no (NoF.mk' (by decide +kernel)), .str z, rfl, b, M, z, j, rfl, book_same hb s1, ok, ej, fun H2 s2 => ⟨_, _, rfl, rfl, ?_⟩⟩
    have s12 := s1.trans s2
    refine ⟨.ref b, rfl, b, dx, _, rfl, s12 _ _ e, bf_no (NoF.mk' (by decide +kernel)), .str z, rfl, b, M, z, j, d, rfl, book_same hb s12, ok.names, ej, ed, fun H3 s3 => ⟨_, _, rfl, rfl, ?_⟩⟩
    have ec : cashM M j z = g + fallTo M z - d := by
      unfold cashM
      rw [getD_of eg, getD_of ed]
    have qq := q _ (s12.trans s3)
    rw [ec] at qq
    exact qq
/-! ### put, give -/
abbrev sPut : Stmt := inBook 12
abbrev nPut : List Str := ["self", "who", "to", "amount", "place", "name", "stack"]
theorem scPut : FnScope nPut ["self", "who", "to", "amount"] (defScope sPut) := ⟨rfl, rfl, rfl, by decide +kernel, rfl, by decide +kernel, by decide +kernel⟩
def spPut (K : PySem.W.Frag) (C : Addr) : Sp := fun vs H Q _ => ∃ (b : Addr) (M : Bk) (z y : Str) (j k : Nat) (n : Int), vs = [.ref b, .str z, .str y, .int n] ∧ BookAt K C H b M ∧ M.Ok ∧ M.names[j]? = some z ∧ M.names[k]? = some y ∧ 1 ≤ n ∧ manyM M < 60 ∧
  ∀ b' H', Same H H' → H b' = none → BookAt K C H' b' (putM M j y n) → Q (.ref b') H'
theorem map_set {α β : Type} (f : α → β) (l : List α) (j : Nat) (x : α) : (l.map f).set j (f x) = (l.set j x).map f := by
  rw [List.map_set]
theorem ok_put {f f1 f2 f3 f4 C : Addr} {fd fd1 fd2 fd3 fd4 : FuncData} (F : Fun K "put" "Book.put" sPut f fd) (T : ClsF K C) (B : Blt mg) (B3 : Blt3 mg) (gM : ∃ t, mg "MOST" = some (.int 60 t))
    (PL : HasM P w K mg base C 3 "place_of" ["self", "who"] (spPlace K C) f1 fd1) (CA : Has P w K mg base 3 "check_amount" ["amount"] (spCheckA K) f2 fd2) (CH : Has P w K mg base 1 "with_changed" ["row", "place", "thing"] (spChg K) f3 fd3)
    (WT : HasM P w K mg base C 5 "with_these" ["self", "gifts", "stacks", "drops"] (spWith K C) f4 fd4) : FnOk P w K mg base CX0 6 f fd ["self", "who", "to", "amount"] (spPut K C) := by
  obtain ⟨tM, gM⟩ := gM
  refine F.ok scPut (fun vs H Q E h => ?_) (fun cdv A outer s H vs Q E hr h => ?_)
  · obtain ⟨_, _, _, _, _, _, _, rfl, _⟩ := h
    rfl
  · obtain ⟨b, M, z, y, j, k, n, rfl, hb, ok, ej, ek, n1, mm, q⟩ := h
    have hr3 := hr.mono (show 3 ≤ 5 by decide)
    have hr1 := hr.mono (show 1 ≤ 5 by decide)
    refine ⟨_, pss_cons (ps_set (i := 4) scPut.nd rfl (.inl rfl) (pe_meth (pv 0) T.cl PL.m PL.ok hr3 PL.b .nil pass0 (pa_cons (pv 1) pa_nil)))
      (pss_cons (ps_set (i := 5) scPut.nd rfl (.inl rfl) (pe_ix ix_tup (pe_fld (pv 0) rfl) (pe_meth (pv 0) T.cl PL.m PL.ok hr3 PL.b .nil pass0 (pa_cons (pv 2) pa_nil)) (fun _ _ => rfl)))
      (pss_cons (ps_expr (pe_call CA.ok hr3 (by rfl) CA.g CA.kp CA.b .nil pass0 (pa_cons (pv 3) pa_nil)))
      (pss_cons (ps_if (pt_cmpR op_ge (pe_callB (cr_sum rfl) (by rfl) B3.sum (by decide +kernel) (pa_cons
          (pe_lc (own := [("stack", 6)]) (g := gName 6) (tt := tYes) rfl scPut.nd (pi_tup (pe_fld (pv 0) rfl)) (blkOk_by (N := nPut) (sc := defScope sPut) (own := [("stack", 6)]) (by decide +kernel))
            (fun _ _ _ _ _ => pg_name (i := 6) scPut.nd rfl (.inl rfl) (hf := .inr rfl)) (fun _ _ _ _ _ => pts_nil)
            (fun _ _ _ _ _ => pe_callB (call_lenS (K := K) rfl) (by rfl) B.len PySem.boot_len (pa_cons (pv 6) pa_nil))) pa_nil)) (pe_glob (v := .int 60) (by rfl) gM ⟨_, rfl⟩) (nomark _)) pss_never pss_nil)
      (pss_cons (ps_set (i := 6) scPut.nd rfl (.inl rfl) (pe_op op_catD (pe_ix ix_tupD (pe_fld (pv 0) rfl) (pv 4) (fun _ _ => rfl)) (pe_tup (pa_cons (pe_tup (pa_cons (pv 5) (pa_cons (pv 3) pa_nil))) pa_nil))))
      (pss_one (ps_ret (pe_meth (pv 0) T.cl WT.m WT.ok hr WT.b .nil pass0 (pa_cons (pe_fld (pv 0) rfl) (pa_cons (pe_call CH.ok hr1 (by rfl) CH.g CH.kp CH.b .nil pass0 (pa_cons (pe_fld (pv 0) rfl) (pa_cons (pv 4) (pa_cons (pv 6) pa_nil))))
        (pa_cons (pe_fld (pv 0) rfl) pa_nil)))))))))), ?_⟩
    obtain ⟨g, l, d, eg, el, ed, ll⟩ := ok.at_ ej
    obtain ⟨dx, tn, on, wg, ws, wd, e, h1, hn, h2, h3, h4⟩ := hb.ex
    refine ⟨.ref b, rfl, b, dx, _, rfl, e, bf_no (NoF.mk' (by decide +kernel)), .str z, rfl, b, M, z, j, rfl, hb, ok.names, ej, fun H1 s1 => ?_⟩
    refine ⟨.ref b, rfl, b, C, dx, _, _, rfl, s1 _ _ e, T.cl, T.n1, bf_names, .ref b, rfl, b, dx, _, rfl, s1 _ _ e, bf_no (NoF.mk' (by decide +kernel)), .str y, rfl, b, M, y, k, rfl, book_same hb s1, ok.names, ek, fun H2 s2 => ?_⟩
    have s12 := s1.trans s2
    refine ⟨tn, _, _, .str y, rfl, rfl, .inl (.inr ⟨on, s12 _ _ h1⟩), atI_nat (map_get ek), ?_⟩
    refine ⟨.int n, rfl, n, rfl, n1, fun H3 s3 => ?_⟩
    have s13 := s12.trans s3
    obtain ⟨ta, xs, ews, qa, da⟩ := (Dt.same s13 _ h3).tup_inv
    subst ews
    refine ⟨.ref b, rfl, b, C, dx, _, _, rfl, s13 _ _ e, T.cl, T.n3, bf_stacks, ta, rfl, ⟨_, qa⟩, fun D nD => ?_⟩
    refine lc_it (walk_tup (xs := xs)) (fun i H' => Same H3 H' ∧ H' D = some (.lst ((M.stacks.take i).map fun l => .int (l.length : Nat)))) ⟨same_upd nD, upd_same⟩ (fun i H' _ hP => same_seqT hP.1 qa)
      (fun i x H4' H4 hi hP hY => ?_) (fun H4 hP => ?_)
    · obtain ⟨rfl, hx⟩ := hY
      have hs : i < M.stacks.length := by
        have := da.len
        rw [List.length_map] at this
        omega
      obtain ⟨v1, g1, d1⟩ := da.get (n := i) (d := stackD M.stacks[i]) (map_get (List.getElem?_eq_getElem hs))
      rw [hx] at g1
      cases g1
      obtain ⟨sa, sx, rfl, sq, sd⟩ := (Dt.same hP.1 _ d1).tup_inv
      have lsx : sx.length = M.stacks[i].length := by
        rw [sd.len]
        unfold notesD
        rw [List.length_map]
      refine ⟨rfl, .ref sa, rfl, sa, sx, rfl, .inr sq, _, hP.2, ?_, fun c o ec => ?_, ?_⟩
      · rw [List.length_map, List.length_take]
        have := ok.n1
        have := ok.ls
        exact small1000 (by omega)
      · rw [upd_ne (ne_of_none ec nD)]
        exact hP.1 c o ec
      · rw [upd_same, List.take_add_one, List.getElem?_eq_getElem hs, List.map_append, lsx]
        rfl
    · have lx : xs.length = M.stacks.length := by
        rw [da.len, List.length_map]
      refine ⟨D, M.stacks.map fun l => ((l.length : Nat) : Int), rfl, .inl (.inl ?_), _, _, rfl, rfl, _, rfl, ?_⟩
      · rw [hP.2, lx, List.take_length, List.map_map]
        rfl
      have esum : (M.stacks.map fun l => ((l.length : Nat) : Int)).sum = ((manyM M : Nat) : Int) := by
        unfold manyM
        generalize M.stacks = S
        induction S with
        | nil => rfl
        | cons a r ih =>
          rw [List.map_cons, List.sum_cons, ih, List.map_cons, List.sum_cons]
          omega
      rw [esum, show decide ((60 : Int) ≤ ((manyM M : Nat) : Int)) = false from decide_eq_false (by omega)]
      have s14 := s13.trans hP.1
      refine iteF ?_
      refine ⟨.ref b, rfl, b, C, dx, _, _, rfl, s14 _ _ e, T.cl, T.n3, bf_stacks, .int (j : Nat), rfl, _, j, stackD l, Dt.same s14 _ h3, rfl, map_get el, fun v dv => ?_⟩
      refine ⟨.str y, rfl, .int n, rfl, by show 2 ≤ sizeLine; decide, fun t1 nt1 => ⟨by show 1 ≤ sizeLine; decide, fun t2 nt2 => ?_⟩⟩
      have s5 := (same_upd (o := .tup [V.str y, V.int n]) nt1).trans (same_upd (o := .tup [V.ref t1]) nt2)
      refine ⟨notesD l, [noteD (y, n)], Dt.same s5 _ dv, .tup (.inl (.inl upd_same)) (.cons (.tup (.inl (.inl (same_upd nt2 _ _ upd_same))) (.cons (.str y) (.cons (.int n) .nil))) .nil), ?_, fun v6 H6 s6 d6 => ?_⟩
      · unfold notesD
        rw [List.length_map, List.length_singleton]
        omega
      have s16 := s14.trans (s5.trans s6)
      have en : notesD l ++ [noteD (y, n)] = notesD (l ++ [(y, n)]) := by
        unfold notesD
        rw [List.map_append]
        rfl
      rw [en] at d6
      -- self.with_these(self.gifts, with_changed(self.stacks, place, stack), self.drops)
      refine ⟨.ref b, rfl, b, dx, _, rfl, s16 _ _ e, bf_no (NoF.mk' (by decide +kernel)), .ref b, rfl, b, C, dx, _, _, rfl, s16 _ _ e, T.cl, T.n2, bf_gifts, .ref b, rfl, b, C, dx, _, _, rfl, s16 _ _ e, T.cl, T.n3, bf_stacks,
        .int (j : Nat), rfl, v6, rfl, _, _, j, v6, stackD (l ++ [(y, n)]), rfl, Dt.same s16 _ h3, d6, ?_, ?_, fun v7 H7 s7 d7 => ?_⟩
      · rw [List.length_map]
        exact (List.getElem?_eq_some_iff.mp el).1
      · rw [List.length_map, ok.ls]
        have := ok.n1
        omega
      have s17 := s16.trans s7
      rw [map_set] at d7
      refine ⟨.ref b, rfl, b, C, dx, _, _, rfl, s17 _ _ e, T.cl, T.n4, bf_drops, b, M, _, _, _, M.gifts, _, M.drops, rfl, book_same hb s17, ok.names, Dt.same s17 _ h2, d7, Dt.same s17 _ h4, fun b' H8 s8 nb hb' => ?_⟩
      refine q b' H8 (s17.trans s8) (s17.free nb) ?_
      have ep : putM M j y n = ⟨M.names, M.gifts, M.stacks.set j (l ++ [(y, n)]), M.drops⟩ := by
        unfold putM
        rw [getD_of el]
      rw [ep]
      exact hb'
abbrev sGive : Stmt := inBook 13
theorem scGive : FnScope ["self", "who", "amount", "place", "gift"] ["self", "who", "amount"] (defScope sGive) := ⟨rfl, rfl, rfl, by decide +kernel, rfl, by decide +kernel, by decide +kernel⟩
def spGive (K : PySem.W.Frag) (C : Addr) : Sp := fun vs H Q _ => ∃ (b : Addr) (M : Bk) (z : Str) (j : Nat) (n : Int), vs = [.ref b, .str z, .int n] ∧ BookAt K C H b M ∧ M.Ok ∧ M.names[j]? = some z ∧ 1 ≤ n ∧
  ∀ b' H', Same H H' → H b' = none → BookAt K C H' b' (giveM M j n) → Q (.ref b') H'
theorem ok_give {f f1 f2 f3 f4 C : Addr} {fd fd1 fd2 fd3 fd4 : FuncData} (F : Fun K "give" "Book.give" sGive f fd) (T : ClsF K C)
    (PL : HasM P w K mg base C 3 "place_of" ["self", "who"] (spPlace K C) f1 fd1) (CA : Has P w K mg base 3 "check_amount" ["amount"] (spCheckA K) f2 fd2) (CH : Has P w K mg base 1 "with_changed" ["row", "place", "thing"] (spChg K) f3 fd3)
    (WT : HasM P w K mg base C 5 "with_these" ["self", "gifts", "stacks", "drops"] (spWith K C) f4 fd4) : FnOk P w K mg base CX0 6 f fd ["self", "who", "amount"] (spGive K C) := by
  refine F.ok scGive (fun vs H Q E h => ?_) (fun cdv A outer s H vs Q E hr h => ?_)
  · obtain ⟨_, _, _, _, _, rfl, _⟩ := h
    rfl
  · obtain ⟨b, M, z, j, n, rfl, hb, ok, ej, n1, q⟩ := h
    have hr3 := hr.mono (show 3 ≤ 5 by decide)
    have hr1 := hr.mono (show 1 ≤ 5 by decide)
    refine ⟨_, pss_cons (ps_set (i := 3) scGive.nd rfl (.inl rfl) (pe_meth (pv 0) T.cl PL.m PL.ok hr3 PL.b .nil pass0 (pa_cons (pv 1) pa_nil)))
      (pss_cons (ps_expr (pe_call CA.ok hr3 (by rfl) CA.g CA.kp CA.b .nil pass0 (pa_cons (pv 2) pa_nil)))
      (pss_cons (ps_set (i := 4) scGive.nd rfl (.inl rfl) (pe_op op_add (pe_ix ix_tupD (pe_fld (pv 0) rfl) (pv 3) (fun _ _ => rfl)) (pv 2)))
      (pss_one (ps_ret (pe_meth (pv 0) T.cl WT.m WT.ok hr WT.b .nil pass0 (pa_cons (pe_call CH.ok hr1 (by rfl) CH.g CH.kp CH.b .nil pass0 (pa_cons (pe_fld (pv 0) rfl) (pa_cons (pv 3) (pa_cons (pv 4) pa_nil))))
        (pa_cons (pe_fld (pv 0) rfl) (pa_cons (pe_fld (pv 0) rfl) pa_nil)))))))), ?_⟩
    obtain ⟨g, l, d, eg, el, ed, ll⟩ := ok.at_ ej
    obtain ⟨dx, tn, on, wg, ws, wd, e, h1, hn, h2, h3, h4⟩ := hb.ex
    refine ⟨.ref b, rfl, b, dx, _, rfl, e, bf_no (NoF.mk' (by decide +kernel)), .str z, rfl, b, M, z, j, rfl, hb, ok.names, ej, fun H1 s1 => ?_⟩
    refine ⟨.int n, rfl, n, rfl, n1, fun H3 s3 => ?_⟩
    have s13 := s1.trans s3
    refine ⟨.ref b, rfl, b, C, dx, _, _, rfl, s13 _ _ e, T.cl, T.n2, bf_gifts, .int (j : Nat), rfl, _, j, .int g, Dt.same s13 _ h2, rfl, map_get eg, fun v dv => ?_⟩
    cases dv
    refine ⟨.int n, rfl, g, n, rfl, rfl, ?_⟩
    refine ⟨.ref b, rfl, b, dx, _, rfl, s13 _ _ e, bf_no (NoF.mk' (by decide +kernel)), .ref b, rfl, b, C, dx, _, _, rfl, s13 _ _ e, T.cl, T.n2, bf_gifts,
      .int (j : Nat), rfl, .int (g + n), rfl, _, _, j, _, .int (g + n), rfl, Dt.same s13 _ h2, .int _, ?_, ?_, fun v7 H7 s7 d7 => ?_⟩
    · rw [List.length_map]
      exact (List.getElem?_eq_some_iff.mp eg).1
    · rw [List.length_map, ok.lg]
      have := ok.n1
      omega
    have s17 := s13.trans s7
    rw [map_set] at d7
    refine ⟨.ref b, rfl, b, C, dx, _, _, rfl, s17 _ _ e, T.cl, T.n3, bf_stacks, .ref b, rfl, b, C, dx, _, _, rfl, s17 _ _ e, T.cl, T.n4, bf_drops, b, M, _, _, _, _, M.stacks, M.drops, rfl, book_same hb s17, ok.names, d7, Dt.same s17 _ h3, Dt.same s17 _ h4, fun b' H8 s8 nb hb' => ?_⟩
    refine q b' H8 (s17.trans s8) (s17.free nb) ?_
    have ep : giveM M j n = ⟨M.names, M.gifts.set j (g + n), M.stacks, M.drops⟩ := by
      unfold giveM
      rw [getD_of eg]
    rw [ep]
    exact hb'
/-! ### key -/
abbrev sKey : Stmt := inBook 16
theorem scKey : FnScope ["self"] ["self"] (defScope sKey) := ⟨rfl, rfl, rfl, by decide +kernel, rfl, by decide +kernel, by decide +kernel⟩
def keyD (M : Bk) : PyData := .tuple [.tuple (M.names.map .str), .tuple (M.gifts.map .int), .tuple (M.stacks.map stackD), .tuple (M.drops.map .int)]
def spKey (K : PySem.W.Frag) (C : Addr) : Sp := fun vs H Q _ => ∃ b M, vs = [.ref b] ∧ BookAt K C H b M ∧ ∀ v H', Same H H' → Dt K H' v (keyD M) → Q v H'
theorem ok_key {f C : Addr} {fd : FuncData} (F : Fun K "key" "Book.key" sKey f fd) (T : ClsF K C) : FnOk P w K mg base CX0 1 f fd ["self"] (spKey K C) := by
  refine F.ok scKey (fun vs H Q E h => ?_) (fun cdv A outer s H vs Q E hr h => ?_)
  · obtain ⟨_, _, rfl, _⟩ := h
    rfl
  · obtain ⟨b, M, rfl, hb, q⟩ := h
    refine ⟨_, pss_one (ps_ret (pe_tup (pa_cons (pe_fld (pv 0) rfl) (pa_cons (pe_fld (pv 0) rfl) (pa_cons (pe_fld (pv 0) rfl) (pa_cons (pe_fld (pv 0) rfl) pa_nil)))))), ?_⟩
    obtain ⟨dx, tn, on, wg, ws, wd, e, h1, hn, h2, h3, h4⟩ := hb.ex
    refine ⟨.ref b, rfl, b, C, dx, _, _, rfl, e, T.cl, T.n1, bf_names, .ref b, rfl, b, C, dx, _, _, rfl, e, T.cl, T.n2, bf_gifts, .ref b, rfl, b, C, dx, _, _, rfl, e, T.cl, T.n3, bf_stacks, .ref b, rfl, b, C, dx, _, _, rfl, e, T.cl, T.n4, bf_drops, by show 4 ≤ sizeLine; decide, fun t nt => ?_⟩
    have st := same_upd (o := .tup [V.ref tn, wg, ws, wd]) nt
    exact q _ _ st (.tup (.inl (.inl upd_same)) (.cons (.tup (.inl (.inr ⟨on, st _ _ h1⟩)) (DtAll.strs _)) (.cons (Dt.same st _ h2) (.cons (Dt.same st _ h3) (.cons (Dt.same st _ h4) .nil)))))
end
end Rc

namespace Rc
open PySem PySem.Spec PyProof.Rows L2 RZ
theorem out_it {J : It} {n : Nat} {G : Hp → Prop} {Y : Nat → Hp → V → Hp → Prop} (w : Walk J n G Y) {Body : V → Hp → (Hp → Prop) → Prop} {H0 : Hp} {Qd : Hp → Prop} (Pv : Nat → Hp → Prop) (h0 : Pv 0 H0) (hG : ∀ i H, i ≤ n → Pv i H → G H)
    (hs : ∀ i x H H', i < n → Pv i H → Y i H x H' → Body x H' (Pv (i + 1))) (hd : ∀ H, Pv n H → Qd H) :
    ∃ W : Nat → Nat → Hp → Prop, (∃ m, W 0 m H0) ∧ ∀ i m H, W i m H → (J.stop i H ∧ Qd H) ∨ (J.go i H ∧ ∃ Nx : Hp → Prop, (∀ H', Nx H' → ∃ m', m' < m ∧ W (i + 1) m' H') ∧ ∀ x H', J.yld i H x H' → Body x H' Nx) := by
  refine ⟨fun i m H => m = n - i ∧ i ≤ n ∧ Pv i H, ⟨n, by simp, Nat.zero_le _, h0⟩, ?_⟩
  rintro i m H ⟨rfl, hi, p⟩
  have g := hG i H hi p
  by_cases hlt : i < n
  · exact .inr ⟨w.goes i H hlt g, Pv (i + 1), fun H' p' => ⟨n - (i + 1), by omega, rfl, hlt, p'⟩, fun x H' y => hs i x H H' hlt p (w.yields i H x H' hlt g y)⟩
  · obtain rfl : i = n := by omega
    exact .inl ⟨w.stops H g, hd H p⟩
def leftM (M : Bk) (i : Nat) : List (Str × Int) := ((M.stacks.zip M.drops).take i).flatMap fun p => leftN p.1 p.2
theorem leftM_succ {M : Bk} {i : Nat} {l : List (Str × Int)} {d : Int} (h1 : M.stacks[i]? = some l) (h2 : M.drops[i]? = some d) : leftM M (i + 1) = leftM M i ++ leftN l d := by
  unfold leftM
  rw [List.take_add_one, List.getElem?_zip_eq_some (z := (l, d)) |>.mpr ⟨h1, h2⟩, List.flatMap_append]
  simp
theorem leftM_len (M : Bk) (ok : M.Ok) : ∀ i, (leftM M i).length ≤ ((M.stacks.take i).map List.length).sum
  | 0 => by simp [leftM]
  | i + 1 => by
    have ih := leftM_len M ok i
    by_cases h : i < M.stacks.length
    · have h2 : i < M.drops.length := by
        rw [ok.ld, ← ok.ls]
        exact h
      rw [leftM_succ (List.getElem?_eq_getElem h) (List.getElem?_eq_getElem h2), List.take_add_one, List.getElem?_eq_getElem h, List.map_append, List.sum_append, List.length_append]
      have := leftN_len M.stacks[i] M.drops[i]
      simp only [Option.toList_some, List.map_cons, List.map_nil, List.sum_cons, List.sum_nil]
      omega
    · have e1 : (M.stacks.zip M.drops).take (i + 1) = (M.stacks.zip M.drops).take i := by
        rw [List.take_of_length_le (by rw [List.length_zip]; omega), List.take_of_length_le (by rw [List.length_zip]; omega)]
      have e2 : M.stacks.take (i + 1) = M.stacks.take i := by
        rw [List.take_of_length_le (by omega), List.take_of_length_le (by omega)]
      unfold leftM at ih ⊢
      rw [e1, e2]
      exact ih
theorem sum_take_le : ∀ (l : List (List (Str × Int))) (i : Nat), ((l.take i).map List.length).sum ≤ (l.map List.length).sum
  | [], _ => by simp
  | _ :: _, 0 => by simp
  | a :: r, i + 1 => by
    have := sum_take_le r i
    simp only [List.take_succ_cons, List.map_cons, List.sum_cons]
    omega
section
variable {P : Program} {w : World} {K : PySem.W.Frag} {mg : Str → Option Value} {base : Heap}
abbrev sLefts : Stmt := inBook 17
abbrev nLefts : List Str := ["self", "who", "note"]
theorem scLefts : FnScope nLefts ["self"] (defScope sLefts) := ⟨rfl, rfl, rfl, by decide +kernel, rfl, by decide +kernel, by decide +kernel⟩
def spLefts (K : PySem.W.Frag) (C : Addr) : Sp := fun vs H Q _ => ∃ b M, vs = [.ref b] ∧ BookAt K C H b M ∧ M.Ok ∧ ∀ r xs H', Same H H' → H r = none → H' r = some (.lst xs) → xs.length = (leftM M M.names.length).length → Q (.ref r) H'
theorem ok_lefts {f fp C : Addr} {fd fdp : FuncData} (F : Fun K "notes_left" "Book.notes_left" sLefts f fd) (T : ClsF K C) (PI' : HasM P w K mg base C 5 "pile" ["self", "who"] (spRow K C leftN) fp fdp) :
    FnOk P w K mg base CX0 6 f fd ["self"] (spLefts K C) := by
  refine F.ok scLefts (fun vs H Q E h => ?_) (fun cdv A outer s H vs Q E hr h => ?_)
  · obtain ⟨_, _, rfl, _⟩ := h
    rfl
  · obtain ⟨b, M, rfl, hb, ok, q⟩ := h
    refine ⟨_, pss_one (ps_ret (pe_lc2 (own := [("who", 1), ("note", 2)]) (vs1 := [2]) (g := gName 1) (g1 := gName 2) (tt := tYes) (tt1 := tYes) (te := tVar 2) (wi1 := iList K (tMeth C "pile" (spRow K C leftN) [] E0 (tVar 0) (tCons (tVar 1) tNil))) rfl scLefts.nd (pi_tup (pe_fld (pv 0) rfl))
      (blkOk_by (N := nLefts) (sc := defScope sLefts) (own := [("who", 1), ("note", 2)]) (by decide +kernel)) (by decide) (fun _ _ _ _ _ => pg_name (i := 1) scLefts.nd rfl (.inl rfl) (hf := .inr rfl)) (fun _ _ _ _ _ => pts_nil)
      (fun _ _ _ _ _ => pi_list (pe_meth (pv 0) T.cl PI'.m PI'.ok hr PI'.b .nil pass0 (pa_cons (pv 1) pa_nil))) (fun _ _ _ _ _ => pg_name (i := 2) scLefts.nd rfl (.inl rfl) (hf := .inr rfl)) (fun _ _ _ _ _ => pts_nil) (fun _ _ _ _ _ => pv 2))), ?_⟩
    obtain ⟨dx, tn, on, wg, ws, wd, e, h1, hn, h2, h3, h4⟩ := hb.ex
    have qn : SqT K H tn (M.names.map V.str) := .inl (.inr ⟨on, h1⟩)
    refine ⟨.ref b, rfl, b, C, dx, _, _, rfl, e, T.cl, T.n1, bf_names, tn, rfl, ⟨_, qn⟩, fun D nD => ?_⟩
    have bound : ∀ i, (leftM M i).length ≤ 60 := fun i => Nat.le_trans (leftM_len M ok i) (Nat.le_trans (sum_take_le _ _) ok.many)
    refine out_it (walk_tup (K := K) (a := tn) (xs := M.names.map V.str)) (fun i H' => Same H H' ∧ ∃ acc, H' D = some (.lst acc) ∧ acc.length = (leftM M i).length) ⟨same_upd nD, [], upd_same, rfl⟩ (fun i H' _ hP => same_seqT hP.1 qn)
      (fun i x H1' H1 hi hP hY => ?_) (fun H1 hP => ?_)
    · obtain ⟨rfl, hx⟩ := hY
      rw [List.length_map] at hi
      obtain ⟨s1, acc, hD, ha⟩ := hP
      have ex : x = .str M.names[i] := by
        rw [List.getElem?_map, List.getElem?_eq_getElem hi] at hx
        exact (Option.some.inj hx).symm
      subst ex
      obtain ⟨g, l, d, eg, el, ed, ll⟩ := ok.at_ (List.getElem?_eq_getElem hi)
      refine ⟨rfl, ?_⟩
      refine ⟨.ref b, rfl, b, dx, _, rfl, s1 _ _ e, bf_no (NoF.mk' (by decide +kernel)), _, rfl, b, M, _, i, l, d, rfl, book_same hb s1, ok.names, List.getElem?_eq_getElem hi, el, ed, by omega, fun r xs H2 s2 nr hr2 dr => ?_⟩
      have lx : xs.length = (leftN l d).length := by
        rw [dr.len]
        unfold notesD
        rw [List.length_map]
      have rD : r ≠ D := (ne_of_none hD nr).symm
      refine ⟨r, rfl, ⟨_, .inl (.inl hr2)⟩, ?_⟩
      have es := leftM_succ el ed
      have b1 := bound (i + 1)
      rw [es, List.length_append] at b1
      refine out_it (walk_list (K := K) (a := r) (xs := xs)) (fun j H' => Same H H' ∧ H' r = some (.lst xs) ∧ ∃ acc', H' D = some (.lst acc') ∧ acc'.length = (leftM M i).length + j) ⟨s1.trans s2, hr2, acc, s2 _ _ hD, by omega⟩ (fun j H' _ hP => .inl (.inl hP.2.1))
        (fun j y H3' H3 hj hP hY => ?_) (fun H3 hP => ?_)
      · obtain ⟨rfl, hy⟩ := hY
        obtain ⟨s3, hr3, acc', hD3, ha3⟩ := hP
        refine ⟨rfl, y, rfl, acc', hD3, small1000 (by omega), fun c o ec => ?_, ?_, acc' ++ [y], upd_same, ?_⟩
        · rw [upd_ne (ne_of_none ec nD)]
          exact s3 c o ec
        · rw [upd_ne rD]
          exact hr3
        · rw [List.length_append, ha3]
          rfl
      · obtain ⟨s3, hr3, acc', hD3, ha3⟩ := hP
        exact ⟨s3, acc', hD3, by rw [es, List.length_append, ha3, lx]⟩
    · obtain ⟨s1, acc, hD, ha⟩ := hP
      rw [List.length_map] at ha
      exact q D acc H1 s1 nD hD ha
/-! ### len -/
abbrev sLenB : Stmt := inBook 19
theorem scLenB : FnScope ["self"] ["self"] (defScope sLenB) := ⟨rfl, rfl, rfl, by decide +kernel, rfl, by decide +kernel, by decide +kernel⟩
def lenM (M : Bk) : Nat := (leftM M M.names.length).length
def spLenB (K : PySem.W.Frag) (C : Addr) : Sp := fun vs H Q _ => ∃ b M, vs = [.ref b] ∧ BookAt K C H b M ∧ M.Ok ∧ ∀ H', Same H H' → Q (.int (lenM M : Nat)) H'
theorem ok_lenB {f fp C : Addr} {fd fdp : FuncData} (F : Fun K "__len__" "Book.__len__" sLenB f fd) (T : ClsF K C) (B : Blt mg) (LF : HasM P w K mg base C 6 "notes_left" ["self"] (spLefts K C) fp fdp) :
    FnOk P w K mg base CX0 7 f fd ["self"] (spLenB K C) := by
  refine F.ok scLenB (fun vs H Q E h => ?_) (fun cdv A outer s H vs Q E hr h => ?_)
  · obtain ⟨_, _, rfl, _⟩ := h
    rfl
  · obtain ⟨b, M, rfl, hb, ok, q⟩ := h
    refine ⟨_, pss_one (ps_ret (pe_callB call_len_seq (by rfl) B.len PySem.boot_len (pa_cons (pe_meth0 (pv 0) T.cl LF.m LF.ok hr LF.b .nil pass0) pa_nil))), ?_⟩
    obtain ⟨dx, tn, on, wg, ws, wd, e, h1, hn, h2, h3, h4⟩ := hb.ex
    refine ⟨.ref b, rfl, b, dx, _, rfl, e, bf_no (NoF.mk' (by decide +kernel)), b, M, rfl, hb, ok, fun r xs H' s' nr hr' hl => ?_⟩
    refine ⟨r, xs, rfl, .inl (.inl (.inl hr')), ?_⟩
    rw [hl]
    exact q H' s'
theorem lenM_le {M : Bk} (ok : M.Ok) : lenM M ≤ 60 := Nat.le_trans (leftM_len M ok _) (Nat.le_trans (sum_take_le _ _) ok.many)
/-- len(book) -/
def rLenB (K : PySem.W.Frag) (C : Addr) : List V → Hp → VK → Prop := fun xs H Q => ∃ b M, xs = [.ref b] ∧ BookAt K C H b M ∧ M.Ok ∧ ∀ H', Same H H' → Q (.int (lenM M : Nat)) H'
theorem call_lenB {X : Cx} {C f : Addr} {fd : FuncData} (G : FnOk X.prog X.w X.K X.mg X.base CX0 7 f fd ["self"] (spLenB X.K C)) (bd : Binds X.K fd ["self"] []) (hm : Meth X.K C "__len__" f) (hr : Room 8 X.A) : CallR X (.builtin "len") (rLenB X.K C) := by
  intro pins s σ H xs us Q I r h
  obtain ⟨b, M, rfl, hb, ok, q⟩ := h
  obtain ⟨u, rfl, ru⟩ := vals1 r
  cases ru
  obtain ⟨dx, tn, on, wg, ws, wd, e, h1, hn, h2, h3, h4⟩ := hb.ex
  obtain ⟨m, Fm⟩ := I.fr
  obtain ⟨mA, O, _⟩ := ins_get I.hok e
  obtain ⟨od, J, _⟩ := O.look
  refine PySem.W.len_K Fm I.ok.mod.kin J hm.at_ hm.fn ?_
  have e0 := I.env0
  refine wpAny_call (codeAny_mono (G.run X.A.in1 X.stack s H ⟨[.ref b], []⟩ [.ref b] [.ref b] (fun v H' => v = .int (lenM M : Nat) ∧ Q (.int (lenM M : Nat)) H') E0 hr.in1 e0.in1 (bd s [.ref b] I.kIn rfl) (.cons rfl .nil) ⟨b, M, rfl, hb, ok, fun H' s' => ⟨rfl, q H' s'⟩⟩) fun r s' hq => ?_)
  match r, hq with
  | .error e, hq => exact hq.elim
  | .ok .next, hq => exact hq.elim
  | .ok .brk, hq => exact hq.elim
  | .ok .cont, hq => exact hq.elim
  | .ok (.ret u), hq =>
    obtain ⟨v, H', I', rv, ev, q'⟩ := I.after hq
    subst ev
    obtain ⟨t, rfl⟩ := rv
    have := lenM_le ok
    exact ⟨⟨by omega, by omega⟩, ⟨.int _, H', I'.tok _, ⟨_, rfl⟩, q'⟩⟩
end
end Rc

namespace Rc
/-! ### own exceptions by super().__init__(text); self.f = f; .. -/
namespace EX
open PySem PySem.W PySem.Calls PyProof.Rows PySem.HandSPX
open L2 (defScope defBody defArgs)
abbrev supS (t : Str) (p0 p1 p2 p3 p4 p5 : Pos) : Stmt := .Expr (.Call (.Attribute (.Call (.Name "super" p0) [] [] p1) "__init__" p2) [.Constant (.str t) 0 p3] [] p4) p5
abbrev fldS (f : Str) (q1 q2 q3 q4 : Pos) : Stmt := .Assign [.Attribute (.Name "self" q1) f q2] (.Name f q3) q4
/-- an instance, its dict or none -/
abbrev exI (C t : Addr) (d : Option Addr) : Obj := { cls := .ref C, dict := d, data := .fields #[.ref t, .none, .none, .none, .bool false, .none] }
section
variable {prog : Program} {w : World} {A : Around} {E : Value → Shared → Prop} {K : Frag} {x C : Addr} {f : Str} {v : Value} {cd : ClassData} {B newId initId : String} {bmB : List Value} {s : Shared}
theorem st_new {t0 : Addr} {Q : Unit → Shared → Prop} (SF : StoreFacts B bmB "object.__setattr__" "object") (X : K.In s.heap) (hx : s.heap.get? x = some (exI C t0 none))
    (hcd : clsIn K C = some cd) (hh : cd.hasDict = true) (ov : excOver K C bmB = true) (sa : findIn K (.ref C) "__setattr__" = some (some (.builtin "object.__setattr__"))) (nf : findIn K (.ref C) f = some none)
    (hq : ∀ h' tk dx, (∀ b o, b ≠ x → s.heap.get? b = some o → h'.get? b = some o) → s.heap.objs.size ≤ dx → dx ≠ x → s.heap.objs.size ≤ h'.objs.size →
      h'.get? x = some (exI C t0 (some dx)) → h'.Ns1 dx (fun y => if y = f then some v else none) → Q () { s with heap := h', toks := tk }) :
    wpAny (model prog w) A (setAttr (.ref x) f v) Q E s := by
  obtain ⟨hp, g, d, t, os⟩ := s
  have I : InstAt hp x (exI C t0 none) C none := ⟨hx, rfl, rfl, trivial⟩
  have xs : x ≠ hp.objs.size := Nat.ne_of_lt (Heap.lt_size hx)
  have L : Looks (model prog w) hp (classData C) cd := looks_clsIn X hcd
  have tk : takerIn K C f = some none := by unfold takerIn; rw [nf]; rfl
  refine set_plain X I sa (osa_openX (s := ⟨hp, g, d, t + 1, os⟩) SF X I ov tk fun b => ?_)
  obtain ⟨c1, c2, c3, c4, c5, c6, c7, c8, c9, c10, c11⟩ := cd
  dsimp only at hh
  subst hh
  dsimp only
  unfold Builtin.ObjectAttr.storeInOwnDict Builtin.ObjectAttr.ownDictForStores
  repeat (first | with_reducible refine store_in_new ?_ ?_ | with_reducible refine wpAny_loadPart_at hx ?_ | with_reducible refine L.at ?_ | wp_step)
  · exact ⟨_, #[], _, (Heap.get?_update_ne _ _ _ _ xs.symm).trans (Heap.get?_push_at rfl rfl), rfl, fun e he => absurd he (by simp), fun _ => rfl⟩
  · intro h' tk' hn' hs
    have hx1 : (hp.push { cls := .type "dict", data := .dict #[] }).get? x = some (exI C t0 none) := Heap.get?_push_of_some _ hx
    refine hq h' tk' hp.objs.size (fun b o hb ho => ?_) (Nat.le_refl _) xs.symm ?_ ?_ hn'
    · have z1 := Heap.get?_push_of_some { cls := .type "dict", data := .dict #[] } ho
      exact (hs.2 b (Nat.ne_of_lt (Heap.lt_size ho))).trans ((Heap.get?_update_ne _ _ _ _ hb).trans z1)
    · have z := (hn'.lt : hp.objs.size < h'.objs.size)
      exact Nat.le_of_lt z
    · exact (hs.2 x xs).trans (Heap.get?_update_self _ hx1 rfl)
theorem st_old {t0 dx : Addr} {m0 : Str → Option Value} {nl : List Str} {Q : Unit → Shared → Prop} (SF : StoreFacts B bmB "object.__setattr__" "object") (X : K.In s.heap) (hx : s.heap.get? x = some (exI C t0 (some dx)))
    (hns : s.heap.Ns1 dx m0) (hw : Within m0 nl) (hz : nl.length ≤ 1000)
    (hcd : clsIn K C = some cd) (hh : cd.hasDict = true) (ov : excOver K C bmB = true) (sa : findIn K (.ref C) "__setattr__" = some (some (.builtin "object.__setattr__"))) (nf : findIn K (.ref C) f = some none)
    (hq : ∀ h' tk, (∀ b o, b ≠ dx → s.heap.get? b = some o → h'.get? b = some o) → s.heap.objs.size ≤ h'.objs.size → h'.Ns1 dx (fun y => if y = f then some v else m0 y) → Q () { s with heap := h', toks := tk }) :
    wpAny (model prog w) A (setAttr (.ref x) f v) Q E s := by
  obtain ⟨hp, g, d, t, os⟩ := s
  obtain ⟨oD, _, _, hoD, _, _⟩ := hns.count hw
  have I : InstAt hp x (exI C t0 (some dx)) C (some oD) := ⟨hx, rfl, rfl, hoD⟩
  have L : Looks (model prog w) hp (classData C) cd := looks_clsIn X hcd
  have tk : takerIn K C f = some none := by unfold takerIn; rw [nf]; rfl
  refine set_plain X I sa (osa_openX (s := ⟨hp, g, d, t + 1, os⟩) SF X I ov tk fun b => ?_)
  obtain ⟨c1, c2, c3, c4, c5, c6, c7, c8, c9, c10, c11⟩ := cd
  dsimp only at hh
  subst hh
  dsimp only
  unfold Builtin.ObjectAttr.storeInOwnDict Builtin.ObjectAttr.ownDictForStores
  repeat (first | with_reducible refine ESX.store_in_old hns hw hz ?_ | with_reducible refine wpAny_loadPart_at hx ?_ | with_reducible refine L.at ?_ | wp_step)
  intro h' tk' hn' hs
  exact hq h' tk' (fun b o hb ho => (hs.2 b hb).trans ho) (Nat.le_of_eq hs.1.symm) hn'
/-- initId bound to x, called -/
theorem run_bound {u t0 : Addr} {rest : List Value} {Q : Value → Shared → Prop} (FB : ExcBaseFacts B newId initId bmB) (X : K.In s.heap) (q : excInitIn K C bmB newId = true)
    (hx : s.heap.get? x = some (exI C t0 none)) (hu : s.heap.get? u = some (kxs_mw initId x)) (hz : rest.length ≤ sizeLine)
    (hq : ∀ h' t1, (∀ b o, b ≠ x → s.heap.get? b = some o → h'.get? b = some o) → s.heap.objs.size ≤ h'.objs.size → h'.get? x = some (exI C t1 none) → Q .none { s with heap := h' }) :
    wpAny (model prog w) A (call (.ref u) rest) Q E s := by
  obtain ⟨nm, N', qn, bs, bm, hdct, sn, sub, ab, col, dd, k0, k1, k2, k3, k5, hC, hT⟩ := excInit_of X q
  obtain ⟨hh, g, d, tk, os⟩ := s
  refine wpAny_call (codeAny_of_tree ?_)
  show wpAny _ A.in1 (callAny (.ref u) ⟨rest, []⟩) _ _ _
  simp only [callAny]
  refine wpAny_bind (wpAny_load hu ?_)
  simp only [kxs_mw, show (Value.type "method-wrapper" == Value.type "method" || Value.type "method-wrapper" == Value.type "builtin_function_or_method" || Value.type "method-wrapper" == Value.type "method-wrapper") = true from by decide, if_true]
  refine KFB.if_so (by decide) ?_
  refine wpAny_bind (check_bound_init FB.toExcCallFacts hC hx rfl (wpAny_bind (wpAny_pure (wpAny_pure ?_))))
  refine ⟨plainId_quiet FB.init.plain _, codeAny_builtin FB.initEntry ?_⟩
  refine exc_init_tree (cls := .ref C) (t0 := t0) (dv := none) (c2 := .none) (c3 := .none) (b4 := .bool false) hx hz fun h' k e et => ?_
  exact hq h' _ k (Nat.le_of_lt (Heap.lt_size et)) e
/-- .. all in one row -/
def OneRow (tx : Str) (p0 p1 p2 p3 p4 : Pos) : Prop := ∃ pl : Sem Bool, ∀ env : Env, eval (.Call (.Attribute (.Call (.Name "super" p0) [] [] p1) "__init__" p2) [.Constant (.str tx) 0 p3] [] p4) env = (do
  let ov ← attributeBase (.Call (.Name "super" p0) [] [] p1) "__init__" env (eval (.Call (.Name "super" p0) [] [] p1) env)
  standAt p2.atName
  let (f, first) ← holding [ov] (getMethod ov "__init__" pl)
  callWith p4 f first (backTo p4 (starEach [.Constant (.str tx) 0 p3] env)) [])
/-- super().__init__(text), in the def's own frame -/
theorem ex_super {t0 L fI cda cc : Addr} {scope : Scope} {qual : Str} {body : List Stmt} {tx : Str} {p0 p1 p2 p3 p4 p5 : Pos} {m mg mb : Str → Option Value} {fd : FuncData} {oc ccl cl : Value} {od cdd cld : Option Addr} {osl ccs csl : Array (Option Value)} {ar : Arg} {vs : Array Value} {file : Str} {tf : Tok} {Q : Flow → Shared → Prop}
    (row : OneRow tx p0 p1 p2 p3 p4) (FB : ExcBaseFacts B newId initId bmB) (KF : KxsFacts B initId) (X : K.In s.heap) (q : excInitIn K C bmB newId = true) (hcd : clsIn K C = some cd)
    (hg : s.heap.Ns mainGlobals mg) (hm : mg "super" = none) (hb : s.heap.Ns builtinsNs mb) (hbs : mb "super" = some (.type "super"))
    (hL : s.heap.Ns L m) (hv : m "self" = some (.ref x)) (hx : s.heap.get? x = some (exI C t0 none))
    (lf : K.lookup fI = some ⟨oc, od, .func fd, osl⟩) (hp : (fd.params.posonlyargs ++ fd.params.args).head? = some ar) (har : ar.arg = "self")
    (lc : K.lookup cda = some ⟨ccl, cdd, .fields vs, ccs⟩) (hvs : vs[2]? = some (.str file tf)) (hfile : ((prog.main.file : Str) == file) = true) (htop : (prog.main.scope.names.lookup ("super" : Str)).isSome = false)
    (lcell : K.lookup cc = some ⟨cl, cld, .cell (some (.ref C)), csl⟩) (hsub : mroIn K C (.ref C) = some true) (opq : nsIn K cStatics "thirdparty.any" = some none)
    (hsup : alongIn K "__init__" ((cd.mro.dropWhile (· != .ref C)).drop 1) = some (some (.builtin initId))) (hB : subIn K (.ref C) (.type B) = some true)
    (hk : scope.kind = .function) (hks : scope.names.lookup ("super" : Str) = some .globalImplicit) (hkc : scope.names.lookup ("__class__" : Str) = some .free) (hka : scope.names.lookup ("self" : Str) = some .local)
    (hq : ∀ h' tk t1, (∀ b o, b ≠ x → s.heap.get? b = some o → h'.get? b = some o) → s.heap.objs.size ≤ h'.objs.size → h'.get? x = some (exI C t1 none) → Q .next { s with heap := h', toks := tk }) :
    _root_.PySem.wpAt (model prog w) A (.func body (ksEnv qual scope L fI (.ref cda) cc)) (exec (supS tx p0 p1 p2 p3 p4 p5) (ksEnv qual scope L fI (.ref cda) cc)) Q E s := by
  have I : InstAt s.heap x (exI C t0 none) C none := ⟨hx, rfl, rfl, trivial⟩
  have xC : x ≠ C := ks_ne X I hcd
  obtain ⟨hh, g, d, t, os⟩ := s
  obtain ⟨oD, hD1, hD2⟩ : ∃ oD, hh.get? C = some oD ∧ oD.data = .cls cd := by
    unfold clsIn at hcd
    split at hcd
    · rename_i c d cd' sl ho
      cases hcd
      exact ⟨_, X _ _ ho, rfl⟩
    · cases hcd
  obtain ⟨pl, row⟩ := row
  obtain ⟨kd, nms, g1, g2, mo⟩ := scope
  dsimp only at hk hks hkc hka
  subst hk
  refine ks_wpAt_Expr_any (ks_wpAt_MethodCall (pl := pl) ?_ (row _))
  refine ks_wpAt_super_base (env := ksEnv qual ⟨.function, nms, g1, g2, mo⟩ L fI (.ref cda) cc) hks hkc (by decide) rfl (X _ _ lf) rfl hp rfl (X _ _ lc) rfl hvs hfile htop ?_
  refine ks_loadName_global rfl hks (loadGlobal_builtin (env := ksEnv qual ⟨.function, nms, g1, g2, mo⟩ L fI (.ref cda) cc) hg hm hb hbs ⟨rfl, ?_⟩)
  refine wpAny_loadName_free rfl hkc rfl ⟨_, X _ _ lcell, rfl⟩ ?_
  rw [har]
  refine wpAny_loadName_local rfl hka hL hv (ks_wpAny_isType_cls hD1 hD2 ⟨rfl, ?_⟩)
  refine ks_wpAny_call_super hD1 hD2 hx rfl (fun c e => by cases e) (looks_mroIn X hsub) (fun h1 e1 k1 => ?_)
  have X1 : K.In h1 := X.keeps k1
  have I1 : InstAt h1 x (exI C t0 none) C none := ⟨k1 _ _ hx, rfl, rfl, trivial⟩
  refine kxs_getMethod KF e1 (looks_opaque X1 opq) (l₀ := cd.mro) ?_ rfl X1 hsup (I1.type.andThen (looks_subIn X1 hB)) xC (by decide) ?_
  · exact fun A Q E s k q => wpAny_bind ((looks_clsIn X1 hcd) A _ E s k (wpAny_pure q))
  have k2 : ∀ b o, hh.get? b = some o → (h1.push (kxs_mw initId x)).get? b = some o := fun b o e => Heap.get?_push_of_some _ (k1 b o e)
  have hu : (h1.push (kxs_mw initId x)).get? h1.objs.size = some (kxs_mw initId x) := Heap.get?_push_at rfl rfl
  refine kxs_callWith (i := initId) (x := x) rfl ?_
  refine evalArgs_plain (spliced_cons (Calls.Constant_str (k := 0) (pos := p3) (spliced_nil ⟨hu, ?_⟩)))
  refine run_bound FB (X.keeps k2) q (k2 _ _ hx) hu (by rw [sizeLine_eq]; exact (by decide : 1 ≤ 16777216)) fun h' t1 k sz e => ?_
  have sz1 : hh.objs.size ≤ h1.objs.size := Nat.le_of_lt (Heap.lt_size e1)
  have sz2 : h1.objs.size ≤ (h1.push (kxs_mw initId x)).objs.size := Nat.le_of_lt (Heap.lt_size hu)
  exact hq h' _ t1 (fun b o hb ho => k b o hb (k2 b o ho)) (Nat.le_trans sz1 (Nat.le_trans sz2 sz)) e
inductive Flds : List Stmt → List Str → Prop
  | nil : Flds [] []
  | cons {f : Str} {q1 q2 q3 q4 : Pos} {r : List Stmt} {fs : List Str} : Flds r fs → Flds (fldS f q1 q2 q3 q4 :: r) (f :: fs)
/-- the exception at x, with these fields so far -/
def Held (h : Heap) (lo : Nat) (x C : Addr) : List (Str × Value) → Prop
  | [] => ∃ t1, h.get? x = some (exI C t1 none)
  | m => ∃ t1 dx, lo ≤ dx ∧ dx ≠ x ∧ h.get? x = some (exI C t1 (some dx)) ∧ h.Ns1 dx (fun y => m.lookup y)
theorem look_put (f y : Str) (v : Value) (m : List (Str × Value)) : ((f, v) :: m).lookup y = if y = f then some v else m.lookup y := by
  by_cases h : y = f
  · subst h
    simp [List.lookup]
  · have e : (y == f) = false := by simpa using h
    rw [if_neg h]
    simp [List.lookup, e]
theorem look_in : ∀ (m : List (Str × Value)), Within (fun y => m.lookup y) (m.map (·.1))
  | [], y, h => absurd rfl h
  | (f, v) :: m, y, h => by
    have h' : ((f, v) :: m).lookup y ≠ none := h
    rw [look_put] at h'
    by_cases e : y = f
    · rw [e]
      exact List.mem_cons_self
    · rw [if_neg e] at h'
      exact List.mem_cons_of_mem _ (look_in m y h')
theorem run_flds {L fI : Addr} {cdv : Value} {cc : Addr} {h0 : Heap} {nms : List (Str × NameKind)} {g1 g2 : Bool} {mo : List (Str × Const)} {qual : Str} {m : Str → Option Value} {Q : Flow → Shared → Prop}
    (SF : StoreFacts B bmB "object.__setattr__" "object") (X : K.In h0) (hnx : K.lookup x = none) (hL : h0.Ns L m) (hLx : L ≠ x) (hself : m "self" = some (.ref x)) (hka : nms.lookup ("self" : Str) = some .local)
    (hcd : clsIn K C = some cd) (hh : cd.hasDict = true) (ov : excOver K C bmB = true) (sa : findIn K (.ref C) "__setattr__" = some (some (.builtin "object.__setattr__"))) :
    ∀ {rest : List Stmt} {fs : List Str}, Flds rest fs → ∀ (acc : List (Str × Value)) (us : List Value) (s : Shared), (∀ b o, b ≠ x → h0.get? b = some o → s.heap.get? b = some o) → h0.objs.size ≤ s.heap.objs.size → Held s.heap h0.objs.size x C acc →
      (∀ p ∈ fs.zip us, m p.1 = some p.2) → us.length = fs.length → acc.length + fs.length ≤ 900 → (∀ f ∈ fs, nms.lookup f = some .local ∧ findIn K (.ref C) f = some none ∧ (f == ("__debug__" : Str)) = false) →
      (∀ h' tk, (∀ b o, b ≠ x → h0.get? b = some o → h'.get? b = some o) → h0.objs.size ≤ h'.objs.size → Held h' h0.objs.size x C ((fs.zip us).reverse ++ acc) → Q .next { s with heap := h', toks := tk }) →
      wpAny (model prog w) A (execs rest (ksEnv qual ⟨.function, nms, g1, g2, mo⟩ L fI cdv cc)) Q E s := by
  intro rest fs hF
  induction hF with
  | nil =>
    intro acc us s k sz hd _ hl _ _ hq
    obtain rfl : us = [] := List.eq_nil_of_length_eq_zero hl
    exact wpAny_execs_nil (hq s.heap s.toks k sz hd)
  | @cons f q1 q2 q3 q4 r fs hr ih =>
    intro acc us s k sz hd hv hl hz hf hq
    obtain ⟨u, us, rfl⟩ : ∃ u us', us = u :: us' := by
      cases us with
      | nil => simp at hl
      | cons u us => exact ⟨u, us, rfl⟩
    obtain ⟨f1, f2, f3⟩ := hf f List.mem_cons_self
    have eu : m f = some u := hv (f, u) List.mem_cons_self
    have XK : K.In s.heap := fun a o e => k a o (fun z => by rw [z, hnx] at e; cases e) (X a o e)
    have nsL : s.heap.Ns L m := by
      obtain ⟨oL, es, ep, eL, r⟩ := hL
      exact ⟨oL, es, ep, k _ _ hLx eL, r⟩
    refine wpAny_execs_cons (plainObj_wpAny_Assign_Attribute (wpAny_Name (wpAny_loadName_local rfl f1 nsL eu (wpAny_Name (wpAny_loadName_local rfl hka nsL hself ?_) (by decide))) f3))
    have fin : ∀ h' tk, (∀ b o, b ≠ x → h0.get? b = some o → h'.get? b = some o) → h0.objs.size ≤ h'.objs.size → Held h' h0.objs.size x C ((f, u) :: acc) →
        wpAny (model prog w) A (execs r (ksEnv qual ⟨.function, nms, g1, g2, mo⟩ L fI cdv cc)) Q E { s with heap := h', toks := tk } := fun h' tk k' sz' hd' => by
      refine ih ((f, u) :: acc) us { s with heap := h', toks := tk } k' sz' hd' (fun p hp => hv p (List.mem_cons_of_mem _ hp)) (by simpa using hl) (by simp at hz ⊢; omega) (fun g hg => hf g (List.mem_cons_of_mem _ hg)) fun h2 tk2 k2 sz2 hd2 => ?_
      refine hq h2 tk2 k2 sz2 ?_
      show Held h2 _ x C (((f, u) :: fs.zip us).reverse ++ acc)
      rw [List.reverse_cons, List.append_assoc]
      exact hd2
    have lt0 : ∀ {b : Addr} {o : Obj} {dx : Nat}, h0.get? b = some o → h0.objs.size ≤ dx → b ≠ dx := fun {b o dx} e z => Nat.ne_of_lt (Nat.lt_of_lt_of_le (Heap.lt_size e) z)
    cases acc with
    | nil =>
      obtain ⟨t1, hx⟩ := hd
      refine st_new SF XK hx hcd hh ov sa f2 fun h' tk dx kk dn dne szn hx' hn => fin h' tk (fun b o hb e => kk b o hb (k b o hb e)) (Nat.le_trans sz szn) ⟨t1, dx, Nat.le_trans sz dn, dne, hx', ?_⟩
      have e : (fun y => List.lookup y [(f, u)]) = fun y => if y = f then some u else none := by
        funext y
        exact look_put f y u []
      rw [e]
      exact hn
    | cons a acc =>
      obtain ⟨t1, dx, dn, dne, hx, hn⟩ := hd
      refine st_old SF XK hx hn (look_in (a :: acc)) (by simp at hz ⊢; omega) hcd hh ov sa f2 fun h' tk kk szn hn' => fin h' tk (fun b o hb e => kk b o (lt0 e dn) (k b o hb e)) (Nat.le_trans sz szn) ⟨t1, dx, dn, dne, kk x _ dne.symm hx, ?_⟩
      have e : (fun y => List.lookup y ((f, u) :: a :: acc)) = fun y => if y = f then some u else List.lookup y (a :: acc) := by
        funext y
        exact look_put f y u _
      rw [e]
      exact hn'
end
/-- the written text of such an __init__ -/
structure Txt (st : Stmt) (fs : List Str) : Prop where
  ne : fs ≠ []
  few : fs.length ≤ 900
  kind : (defScope st).kind = .function
  co : (defScope st).isCoroutine = false
  gen : (defScope st).isGenerator = false
  nocell : ∀ x ∈ (defScope st).names, x.2 ≠ .cell
  ls : (defScope st).names.lookup ("super" : Str) = some .globalImplicit
  lc : (defScope st).names.lookup ("__class__" : Str) = some .free
  lself : (defScope st).names.lookup ("self" : Str) = some .local
  lf : ∀ f ∈ fs, (defScope st).names.lookup f = some .local ∧ (f == ("__debug__" : Str)) = false ∧ f ≠ "self"
  nd : fs.Nodup
  ar : ∃ a : Arg, ((defArgs st).posonlyargs ++ (defArgs st).args).head? = some a ∧ a.arg = "self"
  bd : ∀ (qual : Str) (doc pm cdv ct : Value) (an : Option Addr) (cc : Addr) (u : Value) (vs : List Value), vs.length = fs.length →
    bindArgs (ksFn "__init__" qual (defArgs st) (defBody st) (defScope st) .none .none doc pm an cdv ct cc) ⟨u :: vs, []⟩ = pure ((("self" : Str), u) :: fs.zip vs)
  body : ∃ tx p0 p1 p2 p3 p4 p5 rest, defBody st = supS tx p0 p1 p2 p3 p4 p5 :: rest ∧ OneRow tx p0 p1 p2 p3 p4 ∧ Flds rest fs
/-- what the top leaves of such a class -/
structure Cx' (P : Program) (K : Frag) (mg : Str → Option Value) (nm : Str) (st : Stmt) (fs : List Str) (B newId initId : String) (bmB : List Value) (C : Addr) : Prop where
  gC : mg nm = some (.ref C)
  ini : excInitIn K C bmB newId = true
  over : excOver K C bmB = true
  hd : hasDictIn K C = true
  sa : findIn K (.ref C) "__setattr__" = some (some (.builtin "object.__setattr__"))
  ga : findIn K (.ref C) "__getattribute__" = some (some (.builtin "BaseException.__getattribute__"))
  gg : findIn K (.ref C) "__getattr__" = some none
  noF : ∀ f ∈ fs, findIn K (.ref C) f = some none
  kC : keepIn K (.ref C) = true
  exC : subIn K (.ref C) (.type "BaseException") = some true
  tyC : typeIn K (.ref C) = some (.type "type")
  hB : subIn K (.ref C) (.type B) = some true
  hsub : mroIn K C (.ref C) = some true
  opq : nsIn K cStatics "thirdparty.any" = some none
  sup : ks_superIn K C C "__init__" = some (some (.builtin initId))
  mgs : mg "super" = none
  top : (P.main.scope.names.lookup ("super" : Str)).isSome = false
  fn : ∃ (fI : Addr) (oc : Value) (od : Option Addr) (qual : Str) (doc pm : Value) (an : Option Addr) (cda : Addr) (ct : Value) (cc : Addr) (osl : Array (Option Value)), findIn K (.ref C) "__init__" = some (some (.ref fI)) ∧ typeIn K (.ref fI) = some (.type "function") ∧
    K.lookup fI = some ⟨oc, od, .func (ksFn "__init__" qual (defArgs st) (defBody st) (defScope st) .none .none doc pm an (.ref cda) ct cc), osl⟩ ∧ codeIn K (.ref cda) qual = true ∧
    (∃ (cl : Value) (cld : Option Addr) (csl : Array (Option Value)), K.lookup cc = some ⟨cl, cld, .cell (some (.ref C)), csl⟩) ∧
    ∃ (ccl : Value) (cdd : Option Addr) (vs : Array Value) (ccs : Array (Option Value)) (file : Str) (tf : Tok), K.lookup cda = some ⟨ccl, cdd, .fields vs, ccs⟩ ∧ vs[2]? = some (.str file tf) ∧ ((P.main.file : Str) == file) = true
structure Base (B newId initId : String) (bmB : List Value) : Prop where
  FB : ExcBaseFacts B newId initId bmB
  KF : KxsFacts B initId
  SF : StoreFacts B bmB "object.__setattr__" "object"
theorem base_Lookup : Base "LookupError" "LookupError.__new__" "LookupError.__init__" [.type "LookupError", .type "Exception", .type "BaseException", .type "object"] := ⟨F.excBase_LookupError, kxs_LookupError, F.store_LookupError⟩
theorem base_Runtime : Base "RuntimeError" "RuntimeError.__new__" "RuntimeError.__init__" [.type "RuntimeError", .type "Exception", .type "BaseException", .type "object"] := ⟨F.excBase_RuntimeError, kxs_RuntimeError, F.store_RuntimeError⟩
theorem base_Arith : Base "ArithmeticError" "ArithmeticError.__new__" "ArithmeticError.__init__" [.type "ArithmeticError", .type "Exception", .type "BaseException", .type "object"] := ⟨F.excBase_ArithmeticError, kxs_ArithmeticError, F.store_ArithmeticError⟩
theorem base_Value : Base "ValueError" "ValueError.__new__" "ValueError.__init__" [.type "ValueError", .type "Exception", .type "BaseException", .type "object"] := ⟨F.excBase_ValueError, kxs_ValueError, F.store_ValueError⟩
theorem zip_look {β : Type} : ∀ {fs : List Str} {us : List β} (p : Str × β), fs.Nodup → p ∈ fs.zip us → (fs.zip us).reverse.lookup p.1 = some p.2
  | [], _, p, _, h => by simp at h
  | _ :: _, [], p, _, h => by simp at h
  | f :: fs, u :: us, p, nd, h => by
    rw [List.zip_cons_cons, List.reverse_cons, List.lookup_append]
    obtain ⟨n1, n2⟩ := List.nodup_cons.mp nd
    rcases List.mem_cons.mp h with rfl | h
    · have e : List.lookup f (fs.zip us).reverse = none := by
        rw [List.lookup_eq_none_iff]
        intro q hq
        have := (List.of_mem_zip (List.mem_reverse.mp hq)).1
        have hne : q.1 ≠ f := fun z => n1 (by rw [← z]; exact this)
        exact by simpa using Ne.symm hne
      rw [e]
      simp [List.lookup]
    · rw [zip_look p n2 h]
      rfl
section
variable {P : Program} {w : World} {A : Around} {R : Result → Shared → Prop} {K : Frag} {mg mb : Str → Option Value} {nm : Str} {st : Stmt} {fs : List Str} {B newId initId : String} {bmB : List Value} {C : Addr} {s : Shared}
theorem run_init {x t0 : Addr} {us : List Value} (T : Cx' P K mg nm st fs B newId initId bmB C) (TT : Txt st fs) (BB : Base B newId initId bmB) {fI : Addr} (iC : findIn K (.ref C) "__init__" = some (some (.ref fI)))
    (X : K.In s.heap) (hg : s.heap.Ns mainGlobals mg) (hb : s.heap.Ns builtinsNs mb) (hbs : mb "super" = some (.type "super")) (hlim : s.heap.NoLimit) (hx : s.heap.get? x = some (exI C t0 none)) (hnx : K.lookup x = none)
    (hroom : A.depth < recursionLimit) (hl : us.length = fs.length)
    (hq : ∀ h' tk t1 dx, (∀ b o, b ≠ x → s.heap.get? b = some o → h'.get? b = some o) → s.heap.objs.size ≤ dx → dx ≠ x → h'.get? x = some (exI C t1 (some dx)) → h'.Ns1 dx (fun y => (fs.zip us).reverse.lookup y) → R (.ok (.ret .none)) { s with heap := h', toks := tk }) :
    codeAny (model P w) A (.call (.ref fI) ⟨.ref x :: us, []⟩) R s := by
  obtain ⟨fI', oc, od, qual, doc, pm, an, cda, ct, cc, osl, i1, i2, i3, i4, ⟨cl, cld, csl, i5⟩, ccl, cdd, vs, ccs, file, tf, i6, i7, i8⟩ := T.fn
  have e := i1.symm.trans iC
  cases e
  obtain ⟨tx, p0, p1, p2, p3, p4, p5, rest, eb, row, hF⟩ := TT.body
  obtain ⟨ar, a1, a2⟩ := TT.ar
  obtain ⟨cd, hcd, hh⟩ : ∃ cd, clsIn K C = some cd ∧ cd.hasDict = true := by
    have z := T.hd
    unfold hasDictIn at z
    cases c : clsIn K C with
    | none => rw [c] at z; cases z
    | some cd => exact ⟨cd, rfl, by rw [c] at z; exact z⟩
  have hsup : alongIn K "__init__" ((cd.mro.dropWhile (· != .ref C)).drop 1) = some (some (.builtin initId)) := by
    have z := T.sup
    unfold ks_superIn at z
    rw [hcd] at z
    exact z
  have kd := TT.kind
  have loc : ∀ y ∈ ((("self" : Str), Value.ref x) :: fs.zip us), (defScope st).names.lookup y.1 = some .local := fun y hy => by
    rcases List.mem_cons.mp hy with rfl | hy
    · exact TT.lself
    · exact (TT.lf _ (List.of_mem_zip hy).1).1
  refine ks_codeAny_call_defAt (fd := ksFn "__init__" qual (defArgs st) (defBody st) (defScope st) .none .none doc pm an (.ref cda) ct cc) (body := defBody st) (binds := (("self" : Str), .ref x) :: fs.zip us) hroom (X _ _ i3) rfl hlim
    (codeRec_of X i4) rfl (BindsTo.of_eq (TT.bd _ _ _ _ _ _ _ _ _ hl)) TT.nocell loc (fun h0 hns k => ?_) TT.co TT.gen TT.kind
  have X0 : K.In h0 := X.keeps k
  have Lx : s.heap.objs.size ≠ x := Nat.ne_of_gt (Heap.lt_size hx)
  have hm0 : ((("self" : Str), Value.ref x) :: fs.zip us).reverse.lookup ("self" : Str) = some (Value.ref x) := by
    rw [List.reverse_cons, List.lookup_append]
    have e : List.lookup ("self" : Str) (fs.zip us).reverse = none := by
      rw [List.lookup_eq_none_iff]
      intro q hq
      have := (TT.lf _ (List.of_mem_zip (List.mem_reverse.mp hq)).1).2.2
      exact by simpa using Ne.symm this
    rw [e]
    rfl
  have hmf : ∀ p ∈ fs.zip us, ((("self" : Str), Value.ref x) :: fs.zip us).reverse.lookup p.1 = some p.2 := fun p hp => by
    rw [List.reverse_cons, List.lookup_append, zip_look p TT.nd hp]
    rfl
  have hlf := TT.lf
  have hls := TT.ls
  have hlc := TT.lc
  have hlself := TT.lself
  have eE : callEnv (ksFn "__init__" qual (defArgs st) (defBody st) (defScope st) .none .none doc pm an (.ref cda) ct cc) s.heap.objs.size fI = ksEnv qual (defScope st) s.heap.objs.size fI (.ref cda) cc := rfl
  rw [eE]
  generalize hsc : defScope st = sc at i3 kd hlf hls hlc hlself
  obtain ⟨kk, nms, g1, g2, mo⟩ := sc
  dsimp only at kd hlf hls hlc hlself
  subst kd
  have szL : s.heap.objs.size < h0.objs.size := hns.lt
  rw [eb]
  refine ks_wpAt_execs_cons (ex_super (s := { s with heap := h0, toks := _ }) (fd := ksFn "__init__" qual (defArgs st) (defBody st) ⟨.function, nms, g1, g2, mo⟩ .none .none doc pm an (.ref cda) ct cc) row BB.FB BB.KF X0 T.ini hcd (hg.keeps k) T.mgs (hb.keeps k) hbs hns hm0 (k _ _ hx) i3 a1 a2 i6 i7 i8 T.top i5 T.hsub T.opq hsup T.hB rfl hls hlc hlself
    fun h1 tk t1 k1 sz1 e1 => ?_)
  refine wpAt_of_wpAny (run_flds (h0 := h0) BB.SF X0 hnx hns Lx hm0 hlself hcd hh T.over T.sa hF [] us { s with heap := h1, toks := tk } k1 sz1 ⟨t1, e1⟩ hmf hl (by have := TT.few; simpa using this) (fun f hf => ⟨(hlf f hf).1, T.noF f hf, (hlf f hf).2.1⟩) fun h2 tk2 k2 sz2 hd2 => ?_)
  rw [List.append_nil] at hd2
  have nn : (fs.zip us).reverse ≠ [] := by
    have := TT.ne
    cases fs with
    | nil => exact absurd rfl this
    | cons f fs =>
      cases us with
      | nil => simp at hl
      | cons u us => simp
  cases er : (fs.zip us).reverse with
  | nil => exact absurd er nn
  | cons a m =>
    rw [er] at hd2
    obtain ⟨t2, dx, dn, dne, hx2, hn2⟩ := hd2
    rw [er] at hq
    exact hq h2 tk2 t2 dx (fun b o hb e => k2 b o hb (k b o e)) (Nat.le_of_lt (Nat.lt_of_lt_of_le szL dn)) dne hx2 hn2
end
end EX
end Rc

namespace Rc
namespace EX
open PySem PySem.W PySem.Calls PyProof.Rows PySem.HandSPX
open L2 (defScope defBody defArgs)
section
variable {P : Program} {w : World} {A : Around} {R : Result → Shared → Prop} {K : Frag} {mg mb : Str → Option Value} {nm : Str} {st : Stmt} {fs : List Str} {B newId initId : String} {bmB : List Value} {C : Addr} {s : Shared}
/-- a new exception of the class, from its place e -/
structure Made (h h' : Heap) (e C d : Addr) (m : List (Str × Value)) : Prop where
  keep : ∀ b o, h.get? b = some o → h'.get? b = some o
  new : h.objs.size ≤ e
  obj : ∃ t1, h'.get? e = some (exI C t1 (some d))
  dbig : h.objs.size ≤ d
  dne : d ≠ e
  ns : h'.Ns1 d (fun y => m.lookup y)
theorem made {us : List Value} (T : Cx' P K mg nm st fs B newId initId bmB C) (TT : Txt st fs) (BB : Base B newId initId bmB)
    (X : K.In s.heap) (hg : s.heap.Ns mainGlobals mg) (hb : s.heap.Ns builtinsNs mb) (hbs : mb "super" = some (.type "super")) (hlim : s.heap.NoLimit)
    (hroom : A.depth + 1 < recursionLimit) (hl : us.length = fs.length)
    (hq : ∀ h' tk e d, Made s.heap h' e C d (fs.zip us).reverse → R (.ok (.ret (.ref e))) { s with heap := h', toks := tk }) :
    codeAny (model P w) A (.call (.ref C) ⟨us, []⟩) R s := by
  obtain ⟨nm', N', qn, bs, bm, hdct, sn, sub, ab, col, dd, k0, k1, k2, k3, k5, hC, hT⟩ := excInit_of X T.ini
  obtain ⟨fI, oc, od, qual, doc, pm, an, cda, ct, cc, osl, i1, i2, _⟩ := T.fn
  obtain ⟨hp, g, dr, tk, os⟩ := s
  have kp : ∀ b o, hp.get? b = some o → ((hp.push (kdv_tup us)).push (excO C hp.objs.size)).get? b = some o := fun b o e => Heap.get?_push_of_some _ (Heap.get?_push_of_some _ e)
  have hget : ((hp.push (kdv_tup us)).push (excO C hp.objs.size)).get? (hp.objs.size + 1) = some (exI C hp.objs.size none) := by heap_get
  have hnx : K.lookup (hp.objs.size + 1) = none := by
    cases e : K.lookup (hp.objs.size + 1) with
    | none => rfl
    | some o => exact absurd (Nat.lt_of_succ_lt (Heap.lt_size (X _ _ e))) (Nat.lt_irrefl _)
  have hfew : us.length ≤ sizeLine := by
    have := TT.few
    rw [hl, sizeLine_eq]
    omega
  refine call_own BB.FB hT hC (looks_findIn X i1) (fun self => bind_fn X self i2) hfew ?_
  refine run_init (s := ⟨(hp.push (kdv_tup us)).push (excO C hp.objs.size), g, dr, tk, os⟩) T TT BB i1 (X.keeps kp) (hg.keeps kp) (hb.keeps kp) hbs (hlim.keeps kp) hget hnx ?_ hl fun h' tk' t1 dx k' dn dne hx hns => ?_
  · show A.depth + 1 < recursionLimit
    exact hroom
  · have sz : hp.objs.size + 1 + 1 ≤ dx := by
      have q := dn
      simp only [Heap.size_push] at q
      exact q
    exact ⟨rfl, hq h' tk' (hp.objs.size + 1) dx ⟨fun b o e => k' b o (Nat.ne_of_lt (Nat.lt_succ_of_lt (Heap.lt_size e))) (kp b o e), Nat.le_succ _, ⟨_, hx⟩, (show hp.objs.size ≤ dx by omega), dne, hns⟩⟩
end
end EX
open PySem PySem.Spec PyProof.Rows L2
theorem look_rel : ∀ {fs : List Str} {vs : List V} {us : List Value}, Vals vs us → ∀ f : Str, RelO ((fs.zip vs).reverse.lookup f) ((fs.zip us).reverse.lookup f)
  | [], _, _, _, f => trivial
  | _ :: _, _, _, .nil, f => trivial
  | g :: fs, v :: vs, u :: us, .cons r rs, f => by
    rw [List.zip_cons_cons, List.zip_cons_cons, List.reverse_cons, List.reverse_cons, List.lookup_append, List.lookup_append]
    have ih := look_rel (fs := fs) rs f
    cases e1 : (fs.zip vs).reverse.lookup f with
    | some a =>
      cases e2 : (fs.zip us).reverse.lookup f with
      | some b => rw [e1, e2] at ih; exact ih
      | none => rw [e1, e2] at ih; exact ih.elim
    | none =>
      cases e2 : (fs.zip us).reverse.lookup f with
      | some b => rw [e1, e2] at ih; exact ih.elim
      | none =>
        show RelO (List.lookup f [(g, v)]) (List.lookup f [(g, u)])
        by_cases h : f = g
        · subst h
          simp [List.lookup]
          exact r
        · have hb : (f == g) = false := by simpa using h
          simp [List.lookup, hb]
          trivial
section
variable {X : Cx} {nm : Str} {st : Stmt} {fs : List Str} {B newId initId : String} {bmB : List Value} {C : Addr}
/-- C(e, ..) -/
def tMkE (C : Addr) (fs : List Str) (ta : TA) : L2.St → Hp → XK → Prop := fun σ H Q => ta σ H fun vs H1 => vs.length = fs.length ∧ ∀ d, H1 d = none → Q (.ref C) (some d) (upd H1 d (.xd (fs.zip vs).reverse))
theorem pmk_ex {e : Expr} {es : List Expr} {ta : TA} {p pos : Pos} {k : Nat} (T : EX.Cx' X.prog X.K X.mg nm st fs B newId initId bmB C) (TT : EX.Txt st fs) (BB : EX.Base B newId initId bmB) (hr : Room (k + 1) X.A) (ha : PA X (e :: es) ta) (hg : Gl X nm)
    (hdb : (nm == ("__debug__" : Str)) = false := by decide) (he : starEach (e :: es) X.env = (false, eval e X.env) :: starEach es X.env := by rfl) (hpl : (backTo pos (starEach es X.env)).any (·.1) = false := by rfl) :
    PMk X (.Call (.Name nm p) (e :: es) [] pos) (tMkE C fs ta) := by
  intro pins s σ H Q I h
  refine wpAny_Call_Name_kw (ld_glob I hg T.gC ?_ hdb)
  refine PySem.W.callWith_K (h₀ := X.base) I.ok.mod.kin T.kC (thn (ha.run pos pins s σ H _ I h) fun us s1 hh => ?_) he hpl
  obtain ⟨vs, H1, I1, r1, hl, q1⟩ := hh
  refine ⟨I1.kIn, ?_⟩
  show wpAny _ _ (call (.ref C) us) _ _ _
  obtain ⟨mb, b1, b2⟩ := I1.ok.mod.blt
  have hlim := I1.nolimit
  have kb := I1.bk
  obtain ⟨hp, g, dr, tk, os⟩ := s1
  refine wpAny_call (EX.made T TT BB I1.kIn (I1.ok.mod.glob.keeps kb) (b1.keeps kb) ((b2 _ (by decide)).trans (by decide +kernel : bootBuiltins "super" = some (.type "super"))) hlim (by have := hr.dp; omega) (r1.length.symm.trans hl) fun h' tk' a d M => ?_)
  show MkP X pins σ Q (.ref a) ⟨h', g, dr, tk', os⟩
  obtain ⟨t1, hoe⟩ := M.obj
  obtain ⟨G, g1, g2⟩ := restrict h' fun b => decide (b ≠ a)
  have gk : ∀ b, b ≠ a → G.get? b = h'.get? b := fun b hb => g1 b (decide_eq_true hb)
  have ge : G.get? a = none := g2 a (by simp)
  have old : ∀ b o, hp.get? b = some o → G.get? b = some o := fun b o q => (gk b (Nat.ne_of_lt (Nat.lt_of_lt_of_le (Heap.lt_size q) M.new))).trans (M.keep b o q)
  have ob : ObjOk X.prog X.w (upd H1 d (.xd (fs.zip vs).reverse)) G d (.xd (fs.zip vs).reverse) := ⟨_, M.ns.at (fun o q => (gk d M.dne).trans q), look_rel r1⟩
  have J : Inv X pins σ (upd H1 d (.xd (fs.zip vs).reverse)) ⟨G, g, dr, tk', os⟩ := I1.laid (t' := tk') old M.dbig ob
  refine ⟨a, _, _, ⟨G, g, dr, tk', os⟩, _, .ref C, some d, rfl, J, fun b o q => ?_, ge, hoe, ⟨rfl, rfl⟩, rfl, rfl, ?_, rfl, I1.bare, raises_own T.exC T.tyC, q1 d (I1.hok.fresh M.dbig)⟩
  · by_cases hb : b = a
    · have q' : G.get? b = some o := q
      rw [hb, ge] at q'
      cases q'
    · exact (gk b hb).symm.trans q
  · rw [upd_ne (Ne.symm M.dne)]
    exact I1.hok.fresh M.new
end
end Rc

namespace Rc
open PySem PySem.Spec PyProof.Rows L2
/-! ### several except clauses, with names or without -/
abbrev Suite := Addr → Value → Option Addr → TS
/-- behind a suite its name has gone -/
abbrev offD (i : Nat) (D : Ends) : Ends := { nx := fun τ G => D.nx (τ.set i none) G, rt := D.rt, bk := fun τ G => D.bk (τ.set i none) G, ct := fun τ G => D.ct (τ.set i none) G }
def wMix (K : PySem.W.Frag) (Wo : WX) (D : Ends) : List (Value × Option Nat × Suite) → WX
  | [] => Wo
  | (c, none, ts) :: r => fun cls d σ H => ∃ y, PySem.W.exmOne K cls c = some y ∧ (y = true → ∀ a, H a = none → ts a cls d D σ H) ∧ (y = false → wMix K Wo D r cls d σ H)
  | (c, some i, ts) :: r => fun cls d σ H => ∃ y, PySem.W.exmOne K cls c = some y ∧ (y = true → ∀ a, H a = none → ts a cls d (offD i D) (σ.set i (some (.ref a))) H) ∧ (y = false → wMix K Wo D r cls d σ H)
abbrev SuiteOk (X : Cx) (ss : List Stmt) (ts : Suite) : Prop := ∀ (a : Addr) (oe : Obj) (cls : Value) (d : Option Addr) (pn : List (Addr × Obj)), Zc cls d oe → (∃ vs, oe.data = .fields vs) → PSs (X.suite a ((a, oe) :: pn)) ss (ts a cls d)
inductive HdsX (X : Cx) : List ExceptHandler → List (Value × Option Nat × Suite) → Prop
  | nil : HdsX X [] []
  | plain {x : Str} {c : Value} {ts : Suite} {s0 : Stmt} {ss : List Stmt} {p1 p2 : Pos} {hs : List ExceptHandler} {l : List (Value × Option Nat × Suite)} (hc : Names X x c) (ok : SuiteOk X (s0 :: ss) ts) (r : HdsX X hs l) :
      HdsX X (.ExceptHandler (some (.Name x p1)) none (s0 :: ss) p2 :: hs) ((c, none, ts) :: l)
  | named {x n : Str} {i : Nat} {c : Value} {ts : Suite} {s0 : Stmt} {ss : List Stmt} {p1 p2 : Pos} {hs : List ExceptHandler} {l : List (Value × Option Nat × Suite)} (hi : X.N[i]? = some n) (hn : X.env.kindOf n = some .local) (hc : Names X x c) (ok : SuiteOk X (s0 :: ss) ts) (r : HdsX X hs l) :
      HdsX X (.ExceptHandler (some (.Name x p1)) (some n) (s0 :: ss) p2 :: hs) ((c, some i, ts) :: l)
section
variable {X : Cx} {body : List Stmt} {hd : ExceptHandler} {hds : List ExceptHandler} {l : List (Value × Option Nat × Suite)} {pos : Pos} {tb : WX → TS} {Wo : WX}
theorem ps_try_mix (est : X.stack = X.env :: X.outer) (efr : X.env.frame = some X.env.locals) (nd : X.N.Nodup) (tk : Takes X Wo)
    (hb : ∀ (W : WX) (pn : List (Addr × Obj)) (xe : Value → Shared → Prop), Takes (X.tr pn xe) W → PassesOwn (model X.prog X.w) X.A X.env xe → PSs (X.tr pn xe) body (tb W))
    (hh : HdsX X (hd :: hds) l) : PS X (.Try body (hd :: hds) [] [] pos) (fun D σ H => tb (wMix X.K Wo D l) D σ H) := by
  refine ⟨fun pins s σ H D I hw => ?_⟩
  have ok := I.ok
  have frs1 : X.A.frames = some (X.env :: X.outer) := ok.frames.trans (congrArg some est)
  refine wpAny_Try_except (wpAny_mono ((hb (wMix X.K Wo D l) (X.pn ++ pins) (fun u s1 => wpAny (model X.prog X.w) X.A (noteFrame u X.env) (fun _ s2 => wpAny (model X.prog X.w) X.A (setFlight u none) (fun _ s3 =>
    wpAny (model X.prog X.w) X.A (handleBy u X.env (hd :: hds)) (SP X pins D) X.xe s3) X.xe s2) X.xe s1) (fun u s' z => ?_) PassesOwn.looking).run [] s σ H D (I.toTry _) hw) (fun fl s1 z => ?_) (fun _ _ z => z))
  · obtain ⟨a, Bs, sI, pins', τ, G, cls, d, rfl, J', nb, up, sky, na, os, ag, ww⟩ := z
    have J : Inv X pins τ G sI := J'.ofTry ok
    have sky1 : Sky Bs (X.env :: X.outer) a (Zc cls d) X.env.locals s'.heap := est ▸ sky
    show wpAny (model X.prog X.w) X.A (noteFrame (.ref a) X.env) _ _ _
    refine Sky.land Zc.steady frs1 efr sky1 fun h3 fl3 up3 => ?_
    have J3 : Inv X pins τ G { s' with heap := h3 } := J.landed nb fl3.1 (up.trans up3) os ag
    obtain ⟨o3, v3, e3, z3, d3⟩ := fl3.there
    have nfr : a ∉ frs (X.env :: X.outer) := fun hm => by
      obtain ⟨_, o', e', no'⟩ := fl3.2.2.1.mem hm
      rw [e3] at e'
      cases e'
      exact no' _ d3
    have nL : a ≠ X.env.locals := fun y => nfr (List.mem_filterMap.mpr ⟨X.env, List.mem_cons_self, by rw [efr, y]⟩)
    have nF : a ∉ X.fs := fun hm => by
      obtain ⟨e, he, q⟩ := List.mem_filterMap.mp hm
      exact nfr (List.mem_filterMap.mpr ⟨e, .tail _ he, q⟩)
    have S3 := J3.suite e3 d3 na nL nF
    have LT : PySem.W.Looks (model X.prog X.w) h3 (typeOf (.ref a)) cls := fun A Q E s k q => wpAny_typeOf_ref (k _ _ e3) (by rw [z3.1]; exact q)
    have look : ∀ {x : Str} {c : Value} {np : Pos} {Q : Value → Shared → Prop} {E : Value → Shared → Prop}, Names X x c → Q c { s' with heap := h3 } → wpAny (model X.prog X.w) (X.A.mark (some (.ref a))) (eval (.Name x np) X.env) Q E { s' with heap := h3 } := fun {x c np Q E} hc q => by
      obtain ⟨hg, hdb, hm | ⟨hm, hv, hnn⟩⟩ := hc
      · exact ld_glob (X := X.suite a ((a, o3) :: (X.pn ++ pins))) S3 hg hm q hdb
      · exact ld_blt (X := X.suite a ((a, o3) :: (X.pn ++ pins))) S3 hg hm hv q hnn hdb
    have go : ∀ {hs' : List ExceptHandler} {l' : List (Value × Option Nat × Suite)}, HdsX X hs' l' → wMix X.K Wo D l' cls d τ G → wpAny (model X.prog X.w) X.A (handleBy (.ref a) X.env hs') (SP X pins D) X.xe { s' with heap := h3 } := by
      intro hs' l' hk
      induction hk with
      | nil =>
        intro wo
        refine wpAny_handleBy_nil ?_
        obtain ⟨k1, k2, k3, oe, vs, TB, oT, ts', he, hz, hdd, h1, hr⟩ := id fl3
        unfold PySem.passOn
        refine wpAny_bind (wpAny_field he hdd h1 ?_)
        rw [if_neg (show ¬ ((Value.ref TB == Value.none) = true) from by simp)]
        have last : wpAny (model X.prog X.w) X.A (setFlight (.ref a) X.env.frame) (fun _ s4 => wpAny (model X.prog X.w) X.A (throw (.ref a) : Sem Flow) (SP X pins D) X.xe s4) X.xe { s' with heap := h3 } := by
          rw [efr]
          refine HandSPX.setFlight_upZ fl3 fun h4 hh4 up4 => wpAny_throw (tk _ _ ⟨a, Bs, sI, pins, τ, G, cls, d, rfl, J, nb, (up.trans up3).trans up4, .inr (.inr (by rw [est]; exact hh4)), na, os, ag, wo⟩)
        first
          | exact wpAny_bind (wpAny_pure (wpAny_bind last))
          | exact wpAny_bind last
      | @plain x c ts s0 ss p1 p2 hs2 l2 hc sok r ih =>
        intro ⟨y, hy, yes, no⟩
        refine wpAny_handleBy_cons (codeAny_handlers_test ?_) (by intro q; cases q)
        refine look hc ((PySem.W.exm_one (M := model X.prog X.w) J3.kIn LT hy).here ?_)
        cases y with
        | false =>
          show wpAny _ X.A (handleBy (.ref a) X.env hs2) _ _ _
          exact ih (no rfl)
        | true =>
          refine codeAny_handlers_suite (HandSPX.lands_againZ fl3 fun h4 fl4 up4 => ?_)
          have J4 : Inv X pins τ G { s' with heap := h4 } := J.landed nb fl4.1 ((up.trans up3).trans up4) os ag
          obtain ⟨o4, v4, e4, z4, d4⟩ := fl4.there
          refine wpAny_mono ((sok a o4 cls d (X.pn ++ pins) z4 ⟨_, d4⟩).run [] _ _ G _ (J4.suite e4 d4 na nL nF) (yes rfl a na)) (fun fl s6 z6 => ?_) (fun _ _ z => False.elim z)
          cases fl with
          | next => exact let ⟨_, _, S6, q6⟩ := z6; ⟨_, _, S6.unsuite ok, q6⟩
          | brk => exact let ⟨_, _, S6, q6⟩ := z6; ⟨_, _, S6.unsuite ok, q6⟩
          | cont => exact let ⟨_, _, S6, q6⟩ := z6; ⟨_, _, S6.unsuite ok, q6⟩
          | ret u => exact let ⟨_, _, _, S6, r6, q6⟩ := z6; ⟨_, _, _, S6.unsuite ok, r6, q6⟩
      | @named x n i c ts s0 ss p1 p2 hs2 l2 hi hn hc sok r ih =>
        intro ⟨y, hy, yes, no⟩
        refine wpAny_handleBy_cons (codeAny_handlers_test ?_) (by intro q; cases q)
        refine look hc ((PySem.W.exm_one (M := model X.prog X.w) J3.kIn LT hy).here ?_)
        cases y with
        | false =>
          show wpAny _ X.A (handleBy (.ref a) X.env hs2) _ _ _
          exact ih (no rfl)
        | true =>
          refine codeAny_handlers_suite_as (HandSPX.lands_againZ fl3 fun h4 fl4 up4 => ?_)
          have J4 : Inv X pins τ G { s' with heap := h4 } := J.landed nb fl4.1 ((up.trans up3).trans up4) os ag
          obtain ⟨o4, v4, e4, z4, d4⟩ := fl4.there
          refine store_ok (X := X.suite a ((a, o4) :: (X.pn ++ pins))) (v := .ref a) (J4.suite e4 d4 na nL nF) nd hi (.inl hn) rfl (fun s5 S5 => ?_) (.inr hn)
          refine wpAny_mono ((sok a o4 cls d (X.pn ++ pins) z4 ⟨_, d4⟩).run [] s5 _ G _ S5 (yes rfl a na)) (fun fl s6 z6 => ?_) (fun _ _ z => False.elim z)
          have off : ∀ {σ6 : L2.St} {H6 : Hp} {Q : Shared → Prop}, Inv (X.suite a ((a, o4) :: (X.pn ++ pins))) [] σ6 H6 s6 → (∀ s7, Inv X pins (σ6.set i none) H6 s7 → Q s7) →
              wpAny (model X.prog X.w) X.A (do bindName X.env n .none; unbindBehindTheSuite X.env n p2) (fun _ s7 => Q s7) X.xe s6 := fun {σ6 H6 Q} S6 q => gone_ok (S6.unsuite ok) nd hi hn q
          cases fl with
          | next => exact let ⟨_, _, S6, q6⟩ := z6; off S6 fun s7 J7 => ⟨_, _, J7, q6⟩
          | brk => exact let ⟨_, _, S6, q6⟩ := z6; off S6 fun s7 J7 => ⟨_, _, J7, q6⟩
          | cont => exact let ⟨_, _, S6, q6⟩ := z6; off S6 fun s7 J7 => ⟨_, _, J7, q6⟩
          | ret u => exact let ⟨_, _, _, S6, r6, q6⟩ := z6; off S6 fun s7 J7 => ⟨_, _, _, J7, r6, q6⟩
    exact go hh ww
  · cases fl with
    | next => exact let ⟨_, _, J', q⟩ := z; wpAny_execs_nil ⟨_, _, J'.ofTry ok, q⟩
    | brk => exact let ⟨_, _, J', q⟩ := z; ⟨_, _, J'.ofTry ok, q⟩
    | cont => exact let ⟨_, _, J', q⟩ := z; ⟨_, _, J'.ofTry ok, q⟩
    | ret u => exact let ⟨_, _, _, J', r, q⟩ := z; ⟨_, _, _, J'.ofTry ok, r, q⟩
end
end Rc

namespace Rc
open PySem PySem.Spec PyProof.Rows L2
/-! ### except clauses with a tuple of classes, of any length -/
theorem any_one {K : PySem.W.Frag} {cls c : Value} {b : Bool} (h : PySem.W.exmOne K cls c = some b) : PySem.W.exmAny K cls [c] = some b := by
  unfold PySem.W.exmAny
  rw [h]
  show some (b || false) = some b
  rw [Bool.or_false]
theorem any_hit {K : PySem.W.Frag} {cls c : Value} {r : List Value} {d : Bool} (h : PySem.W.exmOne K cls c = some true) (hr : PySem.W.exmAny K cls r = some d) : PySem.W.exmAny K cls (c :: r) = some true := by
  show (match PySem.W.exmOne K cls c, PySem.W.exmAny K cls r with
    | some b, some d => some (b || d)
    | _, _ => none) = _
  rw [h, hr]
  rfl
theorem any_miss {K : PySem.W.Frag} {cls c : Value} {r : List Value} {d : Bool} (h : PySem.W.exmOne K cls c = some false) (hr : PySem.W.exmAny K cls r = some d) : PySem.W.exmAny K cls (c :: r) = some d := by
  show (match PySem.W.exmOne K cls c, PySem.W.exmAny K cls r with
    | some b, some d => some (b || d)
    | _, _ => none) = _
  rw [h, hr]
  rfl
section
variable {M : Model} {K : PySem.W.Frag} {A : Around} {E : Value → Shared → Prop} {s : Shared}
theorem loop_unit {cs : List Value} {body : Value → PUnit → Sem (ForInStep PUnit)} {Q : PUnit → Shared → Prop} (hb : ∀ c ∈ cs, ∀ R : ForInStep PUnit → Shared → Prop, R (.yield .unit) s → wpAny M A (body c .unit) R E s) (q : Q .unit s) :
    wpAny M A (forIn cs PUnit.unit body) Q E s := by
  induction cs with
  | nil => rw [List.forIn_nil]; exact wpAny_pure q
  | cons c r ih =>
    rw [List.forIn_cons]
    refine wpAny_bind (hb c (.head _) _ ?_)
    exact ih fun c' m => hb c' (.tail _ m)
theorem loop_any {cls : Value} {cs : List Value} {b : Bool} {body : Value → Option Bool × PUnit → Sem (ForInStep (Option Bool × PUnit))} {Q : Option Bool × PUnit → Shared → Prop} (hx : PySem.W.exmAny K cls cs = some b)
    (hb : ∀ c ∈ cs, ∀ d, PySem.W.exmOne K cls c = some d → ∀ R : ForInStep (Option Bool × PUnit) → Shared → Prop, R (if d = true then .done (some true, .unit) else .yield (none, .unit)) s → wpAny M A (body c (none, .unit)) R E s)
    (q : Q (if b = true then some true else none, .unit) s) : wpAny M A (forIn cs ((none, PUnit.unit) : Option Bool × PUnit) body) Q E s := by
  induction cs generalizing b with
  | nil =>
    rw [List.forIn_nil]
    cases (show some false = some b from hx)
    exact wpAny_pure q
  | cons c r ih =>
    obtain ⟨b1, d1, x1, y1, z1⟩ := PySem.W.exmAny_cons hx
    subst z1
    rw [List.forIn_cons]
    refine wpAny_bind (hb c (.head _) b1 x1 _ ?_)
    cases b1 with
    | true => exact wpAny_pure q
    | false => exact ih y1 (fun c' m => hb c' (.tail _ m)) q
theorem exm_list {cs : List Value} {cls : Value} {tp e : Addr} {b : Bool} {h : Heap} (X : K.In h) (LT : PySem.W.Looks M h (typeOf (.ref e)) cls) (hp : h.get? tp = some { cls := .type "tuple", data := .seq cs.toArray }) (hx : PySem.W.exmAny K cls cs = some b) :
    PySem.W.Looks M h (excMatches (.ref e) (.ref tp)) b := by
  have all : ∀ c ∈ cs, ∃ d, PySem.W.exmOne K cls c = some d := by
    clear hp
    induction cs generalizing b with
    | nil => exact fun c m => nomatch m
    | cons c0 r ih =>
      obtain ⟨b1, d1, x1, y1, z1⟩ := PySem.W.exmAny_cons hx
      intro c m
      cases m with
      | head => exact ⟨b1, x1⟩
      | tail _ m => exact ih y1 c m
  intro A Q E s k q
  have LT0 : PySem.W.Looks M h (isInstance (.ref tp) (.type "tuple")) true := ((PySem.W.Looks.ld hp).andThen .now).andThen (PySem.W.Looks.of_pure isSubtype_tuple_tuple)
  have LT1 := LT.keeps k
  have LT0 := LT0.keeps k
  have hp' := k _ _ hp
  unfold excMatches
  refine wpAny_bind (LT0.at ?_)
  dsimp only
  rw [if_pos rfl]
  first
    | refine wpAny_bind (wpAny_seqItems hp' rfl ?_)
    | refine wpAny_bind (wpAny_bind (wpAny_seqItems hp' rfl (wpAny_pure ?_)))
  dsimp only [Option.getD_some, Option.getD]
  first
    | refine wpAny_bind (wpAny_pure (wpAny_bind (loop_unit (cs := cs) (fun c m R r => ?_) ?_)))
    | refine wpAny_pure (wpAny_bind (loop_unit (cs := cs) (fun c m R r => ?_) ?_))
    | refine wpAny_bind (loop_unit (cs := cs) (fun c m R r => ?_) ?_)
  · obtain ⟨d, x⟩ := all c m
    obtain ⟨e1, _⟩ := PySem.W.exm_cls (M := M) X x
    refine wpAny_bind ((e1.keeps k).at ?_)
    simp only [Bool.not_true, Bool.false_eq_true, if_false]
    first
      | exact wpAny_pure r
      | exact wpAny_bind (wpAny_pure (wpAny_pure r))
      | exact wpAny_bind (wpAny_pure r)
  · refine wpAny_bind (LT1.at ?_)
    refine wpAny_bind (loop_any (cls := cls) (cs := cs) hx (fun c m d x R r => ?_) ?_)
    · obtain ⟨_, S1⟩ := PySem.W.exm_cls (M := M) X x
      refine wpAny_bind ((S1.keeps k).at ?_)
      cases d <;> exact wpAny_pure r
    · cases b <;> exact wpAny_pure q
end

def wMixT (K : PySem.W.Frag) (Wo : WX) (D : Ends) : List (List Value × Option Nat × Suite) → WX
  | [] => Wo
  | (c, none, ts) :: r => fun cls d σ H => ∃ y, PySem.W.exmAny K cls c = some y ∧ (y = true → ∀ a, H a = none → ts a cls d D σ H) ∧ (y = false → wMixT K Wo D r cls d σ H)
  | (c, some i, ts) :: r => fun cls d σ H => ∃ y, PySem.W.exmAny K cls c = some y ∧ (y = true → ∀ a, H a = none → ts a cls d (offD i D) (σ.set i (some (.ref a))) H) ∧ (y = false → wMixT K Wo D r cls d σ H)
/-- the names of a tuple -/
inductive NamesL (X : Cx) : List Expr → List Value → Prop
  | nil : NamesL X [] []
  | cons {x : Str} {c : Value} {p : Pos} {es : List Expr} {cs : List Value} (hc : Names X x c) (r : NamesL X es cs) : NamesL X (.Name x p :: es) (c :: cs)
inductive SpecX (X : Cx) : Expr → List Value → Prop
  | one {x : Str} {c : Value} {p : Pos} (hc : Names X x c) : SpecX X (.Name x p) [c]
  | many {es : List Expr} {cs : List Value} {k : Nat} {p : Pos} (h : NamesL X es cs) (hl : cs.length ≤ sizeLine) : SpecX X (.Tuple es k p) cs
/-- a suite, the caught one not of the base -/
abbrev SuiteOkB (X : Cx) (ss : List Stmt) (ts : Suite) : Prop := ∀ (a : Addr) (oe : Obj) (cls : Value) (d : Option Addr) (pn : List (Addr × Obj)), X.base.get? a = none → Zc cls d oe → (∃ vs, oe.data = .fields vs) → PSs (X.suite a ((a, oe) :: pn)) ss (ts a cls d)
inductive HdsT (X : Cx) : List ExceptHandler → List (List Value × Option Nat × Suite) → Prop
  | nil : HdsT X [] []
  | plain {t : Expr} {c : List Value} {ts : Suite} {s0 : Stmt} {ss : List Stmt} {p2 : Pos} {hs : List ExceptHandler} {l : List (List Value × Option Nat × Suite)} (hc : SpecX X t c) (ok : SuiteOkB X (s0 :: ss) ts) (r : HdsT X hs l) :
      HdsT X (.ExceptHandler (some t) none (s0 :: ss) p2 :: hs) ((c, none, ts) :: l)
  | named {t : Expr} {n : Str} {i : Nat} {c : List Value} {ts : Suite} {s0 : Stmt} {ss : List Stmt} {p2 : Pos} {hs : List ExceptHandler} {l : List (List Value × Option Nat × Suite)} (hi : X.N[i]? = some n) (hn : X.env.kindOf n = some .local) (hc : SpecX X t c) (ok : SuiteOkB X (s0 :: ss) ts) (r : HdsT X hs l) :
      HdsT X (.ExceptHandler (some t) (some n) (s0 :: ss) p2 :: hs) ((c, some i, ts) :: l)
theorem fly_push {base h : Heap} {l : List Env} {e : Addr} {Z : Obj → Prop} {o : Obj} (x : HandSPX.FlyingZ base l e Z h) : HandSPX.FlyingZ base l e Z (h.push o) := by
  obtain ⟨f1, f2, f3, oe, vs, T, oT, ts, he, hz, hd, h1, hnT, hTe, hT, hdT, h3⟩ := x
  exact ⟨fun b o e => Heap.get?_push_of_some _ (f1 b o e), f2, f3.of_keeps fun b o e _ => ⟨o, Heap.get?_push_of_some _ e, rfl⟩, oe, vs, T, oT, ts, Heap.get?_push_of_some _ he, hz, hd, h1, hnT, hTe, Heap.get?_push_of_some _ hT, hdT, h3⟩
theorem up_push {h h' : Heap} {o : Obj} (u : h.UpToSlots h') : h.UpToSlots (h'.push o) := u.trans (Heap.UpToSlots.of_keeps fun b o e => Heap.get?_push_of_some _ e)
theorem kp_push {h : Heap} {o : Obj} : ∀ b u, h.get? b = some u → (h.push o).get? b = some u := fun _ _ e => Heap.get?_push_of_some _ e
section
variable {X : Cx} {body : List Stmt} {hd : ExceptHandler} {hds : List ExceptHandler} {l : List (List Value × Option Nat × Suite)} {pos : Pos} {tb : WX → TS} {Wo : WX}
/-- the names of a tuple are looked up -/
theorem names_run {A : Around} {E : Value → Shared → Prop} {s : Shared} {env : Env} {p : Pos} (look : ∀ {x : Str} {c : Value} {np : Pos} {Q : Value → Shared → Prop}, Names X x c → Q c s → wpAny (model X.prog X.w) A (eval (.Name x np) env) Q E s) :
    ∀ {es : List Expr} {cs : List Value}, NamesL X es cs → ∀ {Q : List Value → Shared → Prop}, Q cs s → wpAny (model X.prog X.w) A (spliced (backTo p (starEach es env))) Q E s := by
  intro es cs h
  induction h with
  | nil => exact fun q => wpAny_items_nil q
  | cons hc r ih => exact fun q => wpAny_items_cons (look hc (ih q))
theorem ps_try_mixT (est : X.stack = X.env :: X.outer) (efr : X.env.frame = some X.env.locals) (nd : X.N.Nodup) (tk : Takes X Wo)
    (hb : ∀ (W : WX) (pn : List (Addr × Obj)) (xe : Value → Shared → Prop), Takes (X.tr pn xe) W → PassesOwn (model X.prog X.w) X.A X.env xe → PSs (X.tr pn xe) body (tb W))
    (hh : HdsT X (hd :: hds) l) : PS X (.Try body (hd :: hds) [] [] pos) (fun D σ H => tb (wMixT X.K Wo D l) D σ H) := by
  refine ⟨fun pins s σ H D I hw => ?_⟩
  have ok := I.ok
  have frs1 : X.A.frames = some (X.env :: X.outer) := ok.frames.trans (congrArg some est)
  refine wpAny_Try_except (wpAny_mono ((hb (wMixT X.K Wo D l) (X.pn ++ pins) (fun u s1 => wpAny (model X.prog X.w) X.A (noteFrame u X.env) (fun _ s2 => wpAny (model X.prog X.w) X.A (setFlight u none) (fun _ s3 =>
    wpAny (model X.prog X.w) X.A (handleBy u X.env (hd :: hds)) (SP X pins D) X.xe s3) X.xe s2) X.xe s1) (fun u s' z => ?_) PassesOwn.looking).run [] s σ H D (I.toTry _) hw) (fun fl s1 z => ?_) (fun _ _ z => z))
  · obtain ⟨a, Bs, sI, pins', τ, G, cls, d, rfl, J', nb, up, sky, na, os, ag, ww⟩ := z
    have J : Inv X pins τ G sI := J'.ofTry ok
    have sky1 : Sky Bs (X.env :: X.outer) a (Zc cls d) X.env.locals s'.heap := est ▸ sky
    show wpAny (model X.prog X.w) X.A (noteFrame (.ref a) X.env) _ _ _
    refine Sky.land Zc.steady frs1 efr sky1 fun h3 fl3 up3 => ?_
    have off : ∀ {h5 : Heap} {o4 : Obj} {v4 : Array Value}, HandSPX.FlyingZ Bs (X.env :: X.outer) a (Zc cls d) h5 → h5.get? a = some o4 → o4.data = .fields v4 → a ≠ X.env.locals ∧ a ∉ X.fs := fun {h5 o4 v4} fl5 e4 d4 => by
      have nfr : a ∉ frs (X.env :: X.outer) := fun hm => by
        obtain ⟨_, o', e', no'⟩ := fl5.2.2.1.mem hm
        rw [e4] at e'
        cases e'
        exact no' _ d4
      refine ⟨fun y => nfr (List.mem_filterMap.mpr ⟨X.env, List.mem_cons_self, by rw [efr, y]⟩), fun hm => ?_⟩
      obtain ⟨e, he, q⟩ := List.mem_filterMap.mp hm
      exact nfr (List.mem_filterMap.mpr ⟨e, .tail _ he, q⟩)
    have nB : ∀ {h5 : Heap}, HandSPX.FlyingZ Bs (X.env :: X.outer) a (Zc cls d) h5 → X.base.get? a = none := fun {h5} fl5 => by
      cases e : X.base.get? a with
      | none => rfl
      | some o =>
        have h1 := (J.bs a o e).1
        have nf : a ∉ frs X.stack := fun hm => by
          rcases List.mem_cons.mp (J.stkSub a hm) with z | z
          · have lt : a < X.base.objs.size := Heap.lt_size e
            have le := Nat.le_trans ok.bsz ok.above
            rw [z] at lt
            exact absurd lt (Nat.not_lt.mpr le)
          · exact ok.nofr e z
        have h2 := nb a o h1 nf
        rw [fl5.2.1] at h2
        cases h2
    have look : ∀ {h3 : Heap} {x : Str} {c : Value} {np : Pos} {Q : Value → Shared → Prop} {E : Value → Shared → Prop}, HandSPX.FlyingZ Bs (X.env :: X.outer) a (Zc cls d) h3 → sI.heap.UpToSlots h3 → Names X x c → Q c { s' with heap := h3 } → wpAny (model X.prog X.w) (X.A.mark (some (.ref a))) (eval (.Name x np) X.env) Q E { s' with heap := h3 } := fun {h3 x c np Q E} fl3 up3 hc q => by
      have J3 : Inv X pins τ G { s' with heap := h3 } := J.landed nb fl3.1 up3 os ag
      obtain ⟨o3, v3, e3, z3, d3⟩ := fl3.there
      obtain ⟨nL, nF⟩ := off fl3 e3 d3
      have S3 := J3.suite e3 d3 na nL nF
      obtain ⟨hg, hdb, hm | ⟨hm, hv, hnn⟩⟩ := hc
      · exact ld_glob (X := X.suite a ((a, o3) :: (X.pn ++ pins))) S3 hg hm q hdb
      · exact ld_blt (X := X.suite a ((a, o3) :: (X.pn ++ pins))) S3 hg hm hv q hnn hdb
    have test : ∀ {h3 : Heap} {t : Expr} {c : List Value} {y : Bool} {Q : Bool → Shared → Prop} {E E' : Value → Shared → Prop}, HandSPX.FlyingZ Bs (X.env :: X.outer) a (Zc cls d) h3 → sI.heap.UpToSlots h3 → SpecX X t c → PySem.W.exmAny X.K cls c = some y →
        (∀ h4, HandSPX.FlyingZ Bs (X.env :: X.outer) a (Zc cls d) h4 → sI.heap.UpToSlots h4 → Q y { s' with heap := h4 }) →
        wpAny (model X.prog X.w) (X.A.mark (some (.ref a))) (eval t X.env) (fun u s1 => wpAny (model X.prog X.w) (X.A.mark (some (.ref a))) (excMatches (.ref a) u) Q E s1) E' { s' with heap := h3 } := fun {h3 t c y Q E E'} fl3 up3 hc hy q => by
      have J3 : Inv X pins τ G { s' with heap := h3 } := J.landed nb fl3.1 up3 os ag
      obtain ⟨o3, v3, e3, z3, d3⟩ := fl3.there
      have LT : PySem.W.Looks (model X.prog X.w) h3 (typeOf (.ref a)) cls := fun A Q E s k q => wpAny_typeOf_ref (k _ _ e3) (by rw [z3.1]; exact q)
      cases hc with
      | @one x c p hc =>
        obtain ⟨b1, d1, x1, y1, z1⟩ := PySem.W.exmAny_cons hy
        cases (show some false = some d1 from y1)
        have e1 : PySem.W.exmOne X.K cls c = some y := by rw [x1, z1, Bool.or_false]
        exact look fl3 up3 hc ((PySem.W.exm_one (M := model X.prog X.w) J3.kIn LT e1).here (q h3 fl3 up3))
      | @many es cs k p hn hl =>
        refine wpAny_Tuple (names_run (fun hc q => look fl3 up3 hc q) hn ⟨hl, ?_⟩)
        exact (exm_list (M := model X.prog X.w) (J3.kIn.keeps kp_push) (LT.keeps kp_push) (Heap.get?_push_size _ rfl) hy).here (q _ (fly_push fl3) (up_push up3))
    have go : ∀ {hs' : List ExceptHandler} {l' : List (List Value × Option Nat × Suite)}, HdsT X hs' l' → wMixT X.K Wo D l' cls d τ G → ∀ h3, HandSPX.FlyingZ Bs (X.env :: X.outer) a (Zc cls d) h3 → sI.heap.UpToSlots h3 → wpAny (model X.prog X.w) X.A (handleBy (.ref a) X.env hs') (SP X pins D) X.xe { s' with heap := h3 } := by
      intro hs' l' hk
      induction hk with
      | nil =>
        intro wo h3 fl3 up3
        have J3 : Inv X pins τ G { s' with heap := h3 } := J.landed nb fl3.1 up3 os ag
        refine wpAny_handleBy_nil ?_
        obtain ⟨k1, k2, k3, oe, vs, TB, oT, ts', he, hz, hdd, h1, hr⟩ := id fl3
        unfold PySem.passOn
        refine wpAny_bind (wpAny_field he hdd h1 ?_)
        rw [if_neg (show ¬ ((Value.ref TB == Value.none) = true) from by simp)]
        have last : wpAny (model X.prog X.w) X.A (setFlight (.ref a) X.env.frame) (fun _ s4 => wpAny (model X.prog X.w) X.A (throw (.ref a) : Sem Flow) (SP X pins D) X.xe s4) X.xe { s' with heap := h3 } := by
          rw [efr]
          refine HandSPX.setFlight_upZ fl3 fun h4 hh4 up4 => wpAny_throw (tk _ _ ⟨a, Bs, sI, pins, τ, G, cls, d, rfl, J, nb, up3.trans up4, .inr (.inr (by rw [est]; exact hh4)), na, os, ag, wo⟩)
        first
          | exact wpAny_bind (wpAny_pure (wpAny_bind last))
          | exact wpAny_bind last
      | @plain t c ts s0 ss p2 hs2 l2 hc sok r ih =>
        intro ⟨y, hy, yes, no⟩ h3 fl3 up3
        refine wpAny_handleBy_cons (codeAny_handlers_test ?_) (by intro q; cases q)
        refine test fl3 up3 hc hy fun h4 fl4 up4 => ?_
        cases y with
        | false =>
          show wpAny _ X.A (handleBy (.ref a) X.env hs2) _ _ _
          exact ih (no rfl) h4 fl4 up4
        | true =>
          refine codeAny_handlers_suite (HandSPX.lands_againZ fl4 fun h5 fl5 up5 => ?_)
          obtain ⟨o4, v4, e4, z4, d4⟩ := fl5.there
          have J4 : Inv X pins τ G { s' with heap := h5 } := J.landed nb fl5.1 (up4.trans up5) os ag
          obtain ⟨nL, nF⟩ := off fl5 e4 d4
          refine wpAny_mono ((sok a o4 cls d (X.pn ++ pins) (nB fl5) z4 ⟨_, d4⟩).run [] _ _ G _ (J4.suite e4 d4 na nL nF) (yes rfl a na)) (fun fl s6 z6 => ?_) (fun _ _ z => False.elim z)
          cases fl with
          | next => exact let ⟨_, _, S6, q6⟩ := z6; ⟨_, _, S6.unsuite ok, q6⟩
          | brk => exact let ⟨_, _, S6, q6⟩ := z6; ⟨_, _, S6.unsuite ok, q6⟩
          | cont => exact let ⟨_, _, S6, q6⟩ := z6; ⟨_, _, S6.unsuite ok, q6⟩
          | ret u => exact let ⟨_, _, _, S6, r6, q6⟩ := z6; ⟨_, _, _, S6.unsuite ok, r6, q6⟩
      | @named t n i c ts s0 ss p2 hs2 l2 hi hn hc sok r ih =>
        intro ⟨y, hy, yes, no⟩ h3 fl3 up3
        refine wpAny_handleBy_cons (codeAny_handlers_test ?_) (by intro q; cases q)
        refine test fl3 up3 hc hy fun h4 fl4 up4 => ?_
        cases y with
        | false =>
          show wpAny _ X.A (handleBy (.ref a) X.env hs2) _ _ _
          exact ih (no rfl) h4 fl4 up4
        | true =>
          refine codeAny_handlers_suite_as (HandSPX.lands_againZ fl4 fun h5 fl5 up5 => ?_)
          obtain ⟨o4, v4, e4, z4, d4⟩ := fl5.there
          have J4 : Inv X pins τ G { s' with heap := h5 } := J.landed nb fl5.1 (up4.trans up5) os ag
          obtain ⟨nL, nF⟩ := off fl5 e4 d4
          refine store_ok (X := X.suite a ((a, o4) :: (X.pn ++ pins))) (v := .ref a) (J4.suite e4 d4 na nL nF) nd hi (.inl hn) rfl (fun s5 S5 => ?_) (.inr hn)
          refine wpAny_mono ((sok a o4 cls d (X.pn ++ pins) (nB fl5) z4 ⟨_, d4⟩).run [] s5 _ G _ S5 (yes rfl a na)) (fun fl s6 z6 => ?_) (fun _ _ z => False.elim z)
          have off : ∀ {σ6 : L2.St} {H6 : Hp} {Q : Shared → Prop}, Inv (X.suite a ((a, o4) :: (X.pn ++ pins))) [] σ6 H6 s6 → (∀ s7, Inv X pins (σ6.set i none) H6 s7 → Q s7) →
              wpAny (model X.prog X.w) X.A (do bindName X.env n .none; unbindBehindTheSuite X.env n p2) (fun _ s7 => Q s7) X.xe s6 := fun {σ6 H6 Q} S6 q => gone_ok (S6.unsuite ok) nd hi hn q
          cases fl with
          | next => exact let ⟨_, _, S6, q6⟩ := z6; off S6 fun s7 J7 => ⟨_, _, J7, q6⟩
          | brk => exact let ⟨_, _, S6, q6⟩ := z6; off S6 fun s7 J7 => ⟨_, _, J7, q6⟩
          | cont => exact let ⟨_, _, S6, q6⟩ := z6; off S6 fun s7 J7 => ⟨_, _, J7, q6⟩
          | ret u => exact let ⟨_, _, _, S6, r6, q6⟩ := z6; off S6 fun s7 J7 => ⟨_, _, _, J7, r6, q6⟩
    exact go hh ww h3 fl3 (up.trans up3)
  · cases fl with
    | next => exact let ⟨_, _, J', q⟩ := z; wpAny_execs_nil ⟨_, _, J'.ofTry ok, q⟩
    | brk => exact let ⟨_, _, J', q⟩ := z; ⟨_, _, J'.ofTry ok, q⟩
    | cont => exact let ⟨_, _, J', q⟩ := z; ⟨_, _, J'.ofTry ok, q⟩
    | ret u => exact let ⟨_, _, _, J', r, q⟩ := z; ⟨_, _, _, J'.ofTry ok, r, q⟩
end
end Rc

namespace Rc
open PySem PySem.Spec PyProof.Rows L2
/-! ### refusals whose context is None; a suite that raises from None -/
section
variable {P : Program} {w : World} {K : PySem.W.Frag} {mg : Str → Option Value} {base : Heap}
theorem okXN {x qual : Str} {st : Stmt} {f : Addr} {fd : FuncData} {N ps : List Str} {k : Nat} {sp : Sp} (F : Fun K x qual st f fd) (S : FnScope N ps (defScope st)) (len : ∀ vs H Q E, sp vs H Q E → vs.length = ps.length)
    (hbody : ∀ (cdv : Value) (A : Around) (outer : List Env) (s : Shared) (H : Hp) (vs : List V) (Q : VK) (E : XK), Room k (A.deeper (envOfC qual (defScope st) s.heap.objs.size f cdv)) → sp vs H Q E →
      ∃ t, PSs (cxOf (L2N.CX P w) P w K mg base N qual (defScope st) f cdv A outer s H E) (defBody st) t ∧ t { nx := fun _ H' => Q .non H', rt := Q } (start N vs) H) : FnOk P w K mg base (L2N.CX P w) (k + 1) f fd ps sp := by
  obtain ⟨oc, od, kV, doc, pm, an, cdv, ct, osl, rfl, lk, hcd⟩ := F.ex
  exact fn_of lk hcd S len fun A outer s H vs Q E hr hsp => hbody cdv A outer s H vs Q E hr hsp
/-- what never raises -/
theorem FnOk.upN {k : Nat} {f : Addr} {fd : FuncData} {ps : List Str} {sp : Sp} (F : FnOk P w K mg base CX0 k f fd ps sp) : FnOk P w K mg base (L2N.CX P w) k f fd ps sp :=
  ⟨F.len, fun A outer s H args us vs Q E hr he hb hv hs => PySem.codeAny_mono (F.run A outer s H args us vs Q E hr he hb hv hs) fun r s' h => by
    cases r with
    | ok c => cases c <;> exact h
    | error e => exact h.elim⟩
end
section
variable {X : Cx} {nm : Str} {st : Stmt} {fs : List Str} {B newId initId : String} {bmB : List Value} {C : Addr}
/-- C(e, ..), whatever is handled -/
theorem pmk5_ex {e : Expr} {es : List Expr} {ta : TA} {p pos : Pos} (T : EX.Cx' X.prog X.K X.mg nm st fs B newId initId bmB C) (TT : EX.Txt st fs) (BB : EX.Base B newId initId bmB) (hd : X.A.depth + 1 < recursionLimit) (ha : PA X (e :: es) ta) (hg : Gl X nm)
    (hdb : (nm == ("__debug__" : Str)) = false := by decide) (he : starEach (e :: es) X.env = (false, eval e X.env) :: starEach es X.env := by rfl) (hpl : (backTo pos (starEach es X.env)).any (·.1) = false := by rfl) :
    L2H.PMk5 X (.Call (.Name nm p) (e :: es) [] pos) (tMkE C fs ta) := by
  intro pins s σ H Q I h
  refine wpAny_Call_Name_kw (ld_glob I hg T.gC ?_ hdb)
  refine PySem.W.callWith_K (h₀ := X.base) I.ok.mod.kin T.kC (thn (ha.run pos pins s σ H _ I h) fun us s1 hh => ?_) he hpl
  obtain ⟨vs, H1, I1, r1, hl, q1⟩ := hh
  refine ⟨I1.kIn, ?_⟩
  show wpAny _ _ (call (.ref C) us) _ _ _
  obtain ⟨mb, b1, b2⟩ := I1.ok.mod.blt
  have hlim := I1.nolimit
  have kb := I1.bk
  obtain ⟨hp, g, dr, tk, os⟩ := s1
  refine wpAny_call (EX.made T TT BB I1.kIn (I1.ok.mod.glob.keeps kb) (b1.keeps kb) ((b2 _ (by decide)).trans (by decide +kernel : bootBuiltins "super" = some (.type "super"))) hlim (by first | exact hd | (have := hd; omega)) (r1.length.symm.trans hl) fun h' tk' a d M => ?_)
  show L2N.MkP X pins σ Q (.ref a) ⟨h', g, dr, tk', os⟩ ∧ L2H.Six (.ref a) ⟨h', g, dr, tk', os⟩
  obtain ⟨t1, hoe⟩ := M.obj
  obtain ⟨G, g1, g2⟩ := restrict h' fun b => decide (b ≠ a)
  have gk : ∀ b, b ≠ a → G.get? b = h'.get? b := fun b hb => g1 b (decide_eq_true hb)
  have ge : G.get? a = none := g2 a (by simp)
  have old : ∀ b o, hp.get? b = some o → G.get? b = some o := fun b o q => (gk b (Nat.ne_of_lt (Nat.lt_of_lt_of_le (Heap.lt_size q) M.new))).trans (M.keep b o q)
  have ob : ObjOk X.prog X.w (upd H1 d (.xd (fs.zip vs).reverse)) G d (.xd (fs.zip vs).reverse) := ⟨_, M.ns.at (fun o q => (gk d M.dne).trans q), look_rel r1⟩
  have J : Inv X pins σ (upd H1 d (.xd (fs.zip vs).reverse)) ⟨G, g, dr, tk', os⟩ := I1.laid (t' := tk') old M.dbig ob
  refine ⟨⟨a, _, _, ⟨G, g, dr, tk', os⟩, _, .ref C, some d, rfl, J, fun b o q => ?_, ge, hoe, ⟨rfl, rfl, fun vs hv => by cases hv; rfl⟩, rfl, rfl, ?_, rfl, I1.bare, raises_own T.exC T.tyC, q1 d (I1.hok.fresh M.dbig)⟩, fun a2 oe2 vs2 ea hg2 hd2 => ?_⟩
  · by_cases hb : b = a
    · have q' : G.get? b = some o := q
      rw [hb, ge] at q'
      cases q'
    · exact (gk b hb).symm.trans q
  · rw [upd_ne (Ne.symm M.dne)]
    exact I1.hok.fresh M.new
  · cases ea
    have hg3 : h'.get? a = some oe2 := hg2
    rw [hoe] at hg3
    cases hg3
    cases hd2
    show (4 : Nat) < 6
    decide
theorem pmkN_ex {e : Expr} {es : List Expr} {ta : TA} {p pos : Pos} {k : Nat} (T : EX.Cx' X.prog X.K X.mg nm st fs B newId initId bmB C) (TT : EX.Txt st fs) (BB : EX.Base B newId initId bmB) (hr : Room (k + 1) X.A) (ha : PA X (e :: es) ta) (hg : Gl X nm)
    (hdb : (nm == ("__debug__" : Str)) = false := by decide) (he : starEach (e :: es) X.env = (false, eval e X.env) :: starEach es X.env := by rfl) (hpl : (backTo pos (starEach es X.env)).any (·.1) = false := by rfl) :
    L2N.PMk X (.Call (.Name nm p) (e :: es) [] pos) (tMkE C fs ta) := (pmk5_ex T TT BB (by have := hr.dp; omega) ha hg hdb he hpl).pmk
end
/-! ### a clause with a tuple of classes, its suite raises -/
/-- what the suite and those who ask behind it say -/
def wTup (K : PySem.W.Frag) (cs : List Value) (ts : Addr → Value → Option Addr → TS) (Wout : WX) (D : Ends) : WX := fun cls d σ H =>
  ∃ b, PySem.W.exmAny K cls cs = some b ∧ (b = true → ∀ a, H a = none → ts a cls d D σ H) ∧ (b = false → Wout cls d σ H)
section
variable {X : Cx} {t : Expr} {cs : List Value} {body suite : List Stmt} {b₀ : Stmt} {pos pos' : Pos} {tb : WX → TS} {ts : Addr → Value → Option Addr → TS} {Wout : WX}
theorem ps_tryTupX (hs : X.stack = X.env :: X.outer) (hf : X.env.frame = some X.env.locals) (hc : SpecX X t cs) (hpa : ∀ hd : Option Value, PassesOwnAt (model X.prog X.w) (X.A.mark hd) X.A X.env X.xe) (tk : L2.Takes X Wout)
    (hb : ∀ (W : WX) (pn : List (Addr × Obj)) (xe : Value → Shared → Prop), L2N.Takes (X.tr pn xe) W → PassesOwn (model X.prog X.w) X.A X.env xe → PSs (X.tr pn xe) body (tb W))
    (hsu : ∀ (a : Addr) (oe : Obj) (cls : Value) (d : Option Addr) (pn : List (Addr × Obj)), L2N.Zn cls d oe → (∃ vs, oe.data = .fields vs) → L2.Takes (L2H.suiteX X a ((a, oe) :: pn)) Wout → L2H.HotC (L2H.suiteX X a ((a, oe) :: pn)) →
      PSs (L2H.suiteX X a ((a, oe) :: pn)) (b₀ :: suite) (ts a cls d)) :
    PS X (.Try body [.ExceptHandler (some t) none (b₀ :: suite) pos'] [] [] pos) (fun D σ H => tb (wTup X.K cs ts Wout D) D σ H) := by
  refine ⟨fun pins s σ H D I h => ?_⟩
  have ok := I.ok
  have hfr : X.A.frames = some (X.env :: X.outer) := by rw [ok.frames, hs]
  have notFr : ∀ {B h : Heap} {a : Addr} {o : Obj} {vs : Array Value}, h.FunFrames B (X.env :: X.outer) → h.get? a = some o → o.data = .fields vs → a ∉ frs (X.env :: X.outer) := fun {B h a o vs} ff e dd hm => by
    obtain ⟨_, o', e', hnf⟩ := ff.mem hm
    rw [e] at e'; cases e'
    exact hnf _ dd
  refine wpAny_Try_except ?_
  refine wpAny_mono ((hb (wTup X.K cs ts Wout D) (X.pn ++ pins) (fun e s₁ => wpAny (model X.prog X.w) X.A (noteFrame e X.env) (fun _ s₂ => wpAny (model X.prog X.w) X.A (setFlight e none) (fun _ s₃ =>
    wpAny (model X.prog X.w) X.A (handleBy e X.env [.ExceptHandler (some t) none (b₀ :: suite) pos']) (SP X pins D) X.xe s₃) X.xe s₂) X.xe s₁) (fun u s' xx => ?_) PassesOwn.looking).run [] s σ H D (I.toTry _) h) (fun f s1 hsp => ?_) (fun e s1 he => he)
  · obtain ⟨a, B, sI, pins', σ', H', cls, d, rfl, J', nb, up, sky, na, os, ag, b, hb1, hyes, hno⟩ := xx
    have J : Inv X pins σ' H' sI := J'.ofTry ok
    have sky' : Sky B (X.env :: X.outer) a (L2N.Zn cls d) X.env.locals s'.heap := by rw [← hs]; exact sky
    show wpAny (model X.prog X.w) X.A (noteFrame (.ref a) X.env) _ _ _
    refine L2N.Sky.land L2N.Zn.steady hfr hf sky' fun h3 fl3 up3 => ?_
    have offs : ∀ {h5 : Heap} {o5 : Obj} {v5 : Array Value}, HandSPX.FlyingZ B (X.env :: X.outer) a (L2N.Zn cls d) h5 → h5.get? a = some o5 → o5.data = .fields v5 → a ≠ X.env.locals ∧ a ∉ X.fs := fun {h5 o5 v5} fl5 e5 d5 => by
      have nfr : a ∉ frs (X.env :: X.outer) := notFr fl5.2.2.1 e5 d5
      refine ⟨fun z => nfr (List.mem_filterMap.mpr ⟨X.env, List.mem_cons_self, by rw [hf, z]⟩), fun hm => ?_⟩
      obtain ⟨e, he, q⟩ := List.mem_filterMap.mp hm
      exact nfr (List.mem_filterMap.mpr ⟨e, List.mem_cons_of_mem _ he, q⟩)
    have look : ∀ {h3 : Heap} {x : Str} {c : Value} {np : Pos} {Q : Value → Shared → Prop} {E : Value → Shared → Prop}, HandSPX.FlyingZ B (X.env :: X.outer) a (L2N.Zn cls d) h3 → sI.heap.UpToSlots h3 → Names X x c → Q c { s' with heap := h3 } → wpAny (model X.prog X.w) (X.A.mark (some (.ref a))) (eval (.Name x np) X.env) Q E { s' with heap := h3 } := fun {h3 x c np Q E} fl3 up3 hc q => by
      have J3 : Inv X pins σ' H' { s' with heap := h3 } := J.landed nb fl3.1 up3 os ag
      obtain ⟨o3, v3, e3, z3, d3⟩ := fl3.there
      obtain ⟨nL, nF⟩ := offs fl3 e3 d3
      have S3 := J3.suite e3 d3 na nL nF
      obtain ⟨hg, hdb, hm | ⟨hm, hv, hnn⟩⟩ := hc
      · exact ld_glob (X := X.suite a ((a, o3) :: (X.pn ++ pins))) S3 hg hm q hdb
      · exact ld_blt (X := X.suite a ((a, o3) :: (X.pn ++ pins))) S3 hg hm hv q hnn hdb
    have test : ∀ {h3 : Heap} {Q : Bool → Shared → Prop} {E E' : Value → Shared → Prop}, HandSPX.FlyingZ B (X.env :: X.outer) a (L2N.Zn cls d) h3 → sI.heap.UpToSlots h3 →
        (∀ h4, HandSPX.FlyingZ B (X.env :: X.outer) a (L2N.Zn cls d) h4 → sI.heap.UpToSlots h4 → Q b { s' with heap := h4 }) →
        wpAny (model X.prog X.w) (X.A.mark (some (.ref a))) (eval t X.env) (fun u s1 => wpAny (model X.prog X.w) (X.A.mark (some (.ref a))) (excMatches (.ref a) u) Q E s1) E' { s' with heap := h3 } := fun {h3 Q E E'} fl3 up3 q => by
      have J3 : Inv X pins σ' H' { s' with heap := h3 } := J.landed nb fl3.1 up3 os ag
      obtain ⟨o3, v3, e3, z3, d3⟩ := fl3.there
      have LT : PySem.W.Looks (model X.prog X.w) h3 (typeOf (.ref a)) cls := fun A Q E s k q => wpAny_typeOf_ref (k _ _ e3) (by rw [z3.1]; exact q)
      cases hc with
      | @one x c p hc =>
        obtain ⟨b1, d1, x1, y1, z1⟩ := PySem.W.exmAny_cons hb1
        cases (show some false = some d1 from y1)
        have e1 : PySem.W.exmOne X.K cls c = some b := by rw [x1, z1, Bool.or_false]
        exact look fl3 up3 hc ((PySem.W.exm_one (M := model X.prog X.w) J3.kIn LT e1).here (q h3 fl3 up3))
      | @many es cs k p hn hl =>
        refine wpAny_Tuple (names_run (fun hc q => look fl3 up3 hc q) hn ⟨hl, ?_⟩)
        exact (exm_list (M := model X.prog X.w) (J3.kIn.keeps kp_push) (LT.keeps kp_push) (Heap.get?_push_size _ rfl) hb1).here (q _ (fly_push fl3) (up_push up3))
    refine wpAny_handleBy_cons (codeAny_handlers_test ?_) (by intro q; cases q)
    refine test fl3 (up.trans up3) fun h4 fl4 up4 => ?_
    cases b with
    | true =>
      refine codeAny_handlers_suite ?_
      refine HandSPX.lands_againZ fl4 fun h5 fl5 up5 => ?_
      have J5 : Inv X pins σ' H' { s' with heap := h5 } := J.landed nb fl5.1 (up4.trans up5) os ag
      obtain ⟨oe4, vs4, he4, hz4, hd4⟩ := fl5.there
      obtain ⟨nL, nF⟩ := offs fl5 he4 hd4
      have S4 := J5.suite he4 hd4 na nL nF
      have tkS : L2.Takes (L2H.suiteX X a ((a, oe4) :: (X.pn ++ pins))) Wout := fun u2 s2 x2 => by
        obtain ⟨a2, B2, sI2, pn2, σ2, H2, cls2, d2, e2, I2, nb2, up2, sky2, na2, os2, ag2, w2⟩ := x2
        exact tk u2 s2 ⟨a2, B2, sI2, pins, σ2, H2, cls2, d2, e2, L2H.unsuiteX I2 ok, nb2, up2, sky2, na2, os2, ag2, w2⟩
      have hot : L2H.HotC (L2H.suiteX X a ((a, oe4) :: (X.pn ++ pins))) := ⟨(a, oe4), ⟨rfl, vs4, hd4, hz4.2.2 vs4 hd4⟩, List.mem_cons_self⟩
      refine wpAny_mono ((hsu a oe4 cls d (X.pn ++ pins) hz4 ⟨_, hd4⟩ tkS hot).run [] _ _ H' _ (L2H.suiteX_of S4) (hyes rfl a na)) (fun f s6 hsp => ?_) (fun e6 s6 z => hpa (some (.ref a)) e6 s6 z)
      cases f with
      | next =>
        obtain ⟨σ6, H6, S6, q6⟩ := hsp
        exact ⟨_, _, L2H.unsuiteX S6 ok, q6⟩
      | brk =>
        obtain ⟨σ6, H6, S6, q6⟩ := hsp
        exact ⟨_, _, L2H.unsuiteX S6 ok, q6⟩
      | cont =>
        obtain ⟨σ6, H6, S6, q6⟩ := hsp
        exact ⟨_, _, L2H.unsuiteX S6 ok, q6⟩
      | ret u =>
        obtain ⟨v6, σ6, H6, S6, r6, q6⟩ := hsp
        exact ⟨_, _, _, L2H.unsuiteX S6 ok, r6, q6⟩
    | false =>
      show wpAny _ X.A (handleBy (.ref a) X.env []) _ _ _
      refine wpAny_handleBy_nil ?_
      obtain ⟨k1, k2, k3, oe, vs, T, oT, ts', he, hz, hd, h1, hr⟩ := id fl4
      unfold PySem.passOn
      refine wpAny_bind (wpAny_field he hd h1 ?_)
      rw [if_neg (show ¬ ((Value.ref T == Value.none) = true) from by simp)]
      have fin : wpAny (model X.prog X.w) X.A (setFlight (.ref a) X.env.frame) (fun _ s4 => wpAny (model X.prog X.w) X.A (throw (.ref a) : Sem Flow) (SP X pins D) X.xe s4) X.xe { s' with heap := h4 } := by
        rw [hf]
        refine HandSPX.setFlight_upZ (L2H.flyingZ_imp (fun o z => L2N.Zn.zc z) fl4) fun h5 hh5 up5 => wpAny_throw (tk _ _ ?_)
        exact ⟨a, B, sI, pins, σ', H', cls, d, rfl, J, nb, up4.trans up5, .inr (.inr (by rw [hs]; exact hh5)), na, os, ag, hno rfl⟩
      first
        | exact wpAny_bind (wpAny_pure (wpAny_bind fin))
        | exact wpAny_bind fin
  · cases f with
    | next =>
      obtain ⟨σ', H', J', q⟩ := hsp
      exact wpAny_execs_nil ⟨σ', H', J'.ofTry ok, q⟩
    | brk =>
      obtain ⟨σ', H', J', q⟩ := hsp
      exact ⟨σ', H', J'.ofTry ok, q⟩
    | cont =>
      obtain ⟨σ', H', J', q⟩ := hsp
      exact ⟨σ', H', J'.ofTry ok, q⟩
    | ret u =>
      obtain ⟨v, σ', H', J', r, q⟩ := hsp
      exact ⟨v, σ', H', J'.ofTry ok, r, q⟩
end
end Rc

namespace Rc
open PySem PySem.Spec PyProof.Rows L2
/-! ### NoSuch -/
abbrev sNoS : Stmt := inClass (topS 6) 0
theorem txNoS : EX.Txt sNoS ["who"] :=
  ⟨by simp, by decide, rfl, rfl, rfl, by decide +kernel, rfl, rfl, rfl, fun f hf => by
      obtain rfl := List.mem_singleton.mp hf
      exact ⟨rfl, by decide, by decide⟩, by decide, ⟨_, rfl, rfl⟩,
    fun _ _ _ _ _ _ _ _ vs hl => match vs, hl with | [v], _ => rfl, ⟨_, _, _, _, _, _, _, _, rfl, ⟨_, fun _ => rfl⟩, .cons .nil⟩⟩
abbrev ClsN (P : Program) (K : PySem.W.Frag) (mg : Str → Option Value) (CN : Addr) : Prop :=
  EX.Cx' P K mg "NoSuch" sNoS ["who"] "LookupError" "LookupError.__new__" "LookupError.__init__" [.type "LookupError", .type "Exception", .type "BaseException", .type "object"] CN
/-- dead code -/
def tNot : TE := fun _ _ _ => False
theorem pe_not_here {X : Cx} {e : Expr} : PE X e tNot := ⟨fun _ _ _ _ _ _ h => h.elim⟩
section
variable {P : Program} {w : World} {K : PySem.W.Frag} {mg : Str → Option Value} {base : Heap}
/-- what is no person is refused -/
def spNo (K : PySem.W.Frag) (C CN : Addr) : Sp := fun vs H _ E => ∃ b M v d, vs = [.ref b, v] ∧ BookAt K C H b M ∧ NamesOk M.names ∧ Dt K H v d ∧ ShortD d ∧ hasD M d = false ∧
  ∀ H' dd, Same H H' → H dd = none → H' dd = some (.xd [("who", v)]) → E (.ref CN) (some dd) H'
theorem spNo_len {C CN : Addr} {a b : Str} : ∀ vs H Q E, spNo K C CN vs H Q E → vs.length = [a, b].length := fun vs H Q E h => by
  obtain ⟨_, _, _, _, rfl, _⟩ := h
  rfl
/-- a def that refuses -/
structure HasXN (P : Program) (w : World) (K : PySem.W.Frag) (mg : Str → Option Value) (base : Heap) (k : Nat) (nm : Str) (ps : List Str) (sp : Sp) (f : Addr) (fd : FuncData) : Prop where
  ok : FnOk P w K mg base (L2N.CX P w) k f fd ps sp
  g : mg nm = some (.ref f)
  kp : PySem.W.keepIn K (.ref f) = true
  b : Binds K fd ps []
structure HasMXN (P : Program) (w : World) (K : PySem.W.Frag) (mg : Str → Option Value) (base : Heap) (C : Addr) (k : Nat) (nm : Str) (ps : List Str) (sp : Sp) (f : Addr) (fd : FuncData) : Prop where
  ok : FnOk P w K mg base (L2N.CX P w) k f fd ps sp
  m : Meth K C nm f
  b : Binds K fd ps []
theorem no_place {f fh C CN : Addr} {fd fdh : FuncData} (F : Fun K "place_of" "Book.place_of" sPlace f fd) (T : ClsF K C) (N : ClsN P K mg CN) (HS : HasM P w K mg base C 2 "has" ["self", "who"] (spHas K C) fh fdh) :
    FnOk P w K mg base (L2N.CX P w) 3 f fd ["self", "who"] (spNo K C CN) := by
  refine okXN F scPlace spNo_len (fun cdv A outer s H vs Q E hr h => ?_)
  obtain ⟨b, M, v, d, rfl, hb, ok, hv, hs, hn, q⟩ := h
  refine ⟨_, pss_cons (ps_if (pt_not (pt_val (pe_meth (pv 0) T.cl HS.m HS.ok hr HS.b .nil pass0 (pa_cons (pv 1) pa_nil))))
      (pss_one (L2N.ps_raise rfl (L2N.takes_of rfl rfl rfl rfl) (pmkN_ex N txNoS EX.base_Lookup hr (pa_cons (pv 1) pa_nil) (by rfl)))) pss_nil) pss_never, ?_⟩
  obtain ⟨dx, tn, on, wg, ws, wd, e, h1, hn', h2, h3, h4⟩ := hb.ex
  refine ⟨.ref b, rfl, b, dx, _, rfl, e, bf_no (NoF.mk' (by decide +kernel)), v, rfl, b, M, v, d, rfl, hb, ok, hv, hs, fun H1 s1 => ⟨_, rfl, ?_⟩⟩
  rw [hn]
  refine iteT ⟨v, rfl, rfl, fun dd nd => ?_⟩
  exact q _ dd (s1.trans (same_upd nd)) (s1.free nd) upd_same
theorem no_notes {f fp C CN : Addr} {fd fdp : FuncData} (F : Fun K "notes" "Book.notes" sNotes f fd) (T : ClsF K C) (B3 : Blt3 mg) (PL : HasMXN P w K mg base C 3 "place_of" ["self", "who"] (spNo K C CN) fp fdp) :
    FnOk P w K mg base (L2N.CX P w) 4 f fd ["self", "who"] (spNo K C CN) := by
  refine okXN F scNotes spNo_len (fun cdv A outer s H vs Q E hr h => ?_)
  obtain ⟨b, M, v, d, rfl, hb, ok, hv, hs, hn, q⟩ := h
  refine ⟨_, pss_one (ps_ret (pe_callTy call_listD (by rfl) B3.list (by decide +kernel) (pa_cons (pe_ix ix_tupD (pe_fld (pv 0) rfl) (pe_meth (pv 0) T.cl PL.m PL.ok hr PL.b .nil (L2N.passes_call (L2N.takes_of rfl rfl rfl rfl) fun _ _ _ _ z => z) (pa_cons (pv 1) pa_nil)) (fun _ _ => rfl)) pa_nil))), ?_⟩
  obtain ⟨dx, tn, on, wg, ws, wd, e, h1, hn', h2, h3, h4⟩ := hb.ex
  exact ⟨.ref b, rfl, b, C, dx, _, _, rfl, e, T.cl, T.n3, bf_stacks, .ref b, rfl, b, dx, _, rfl, e, bf_no (NoF.mk' (by decide +kernel)), v, rfl, b, M, v, d, rfl, hb, ok, hv, hs, hn, q⟩
theorem no_pile {f fs fn C CN : Addr} {fd fds fdn : FuncData} (F : Fun K "pile" "Book.pile" sPile f fd) (T : ClsF K C) (SP : Has P w K mg base 1 "split_notes" ["notes", "fallen"] (spSplit K) fs fds)
    (NT : HasMXN P w K mg base C 4 "notes" ["self", "who"] (spNo K C CN) fn fdn) : FnOk P w K mg base (L2N.CX P w) 5 f fd ["self", "who"] (spNo K C CN) := by
  refine okXN F scPile spNo_len (fun cdv A outer s H vs Q E hr h => ?_)
  obtain ⟨b, M, v, d, rfl, hb, ok, hv, hs, hn, q⟩ := h
  refine ⟨_, pss_cons (ps_asg (pe_call SP.ok (hr.mono (by decide)) (by rfl) SP.g SP.kp SP.b .nil pass0 (pa_cons (pe_meth (pv 0) T.cl NT.m NT.ok hr NT.b .nil (L2N.passes_call (L2N.takes_of rfl rfl rfl rfl) fun _ _ _ _ z => z) (pa_cons (pv 1) pa_nil)) (pa_cons pe_not_here pa_nil)))
      (pg_tup rfl (pgs_cons (pg_name (i := 2) scPile.nd rfl (.inl rfl)) (pgs_cons (pg_name (i := 3) scPile.nd rfl (.inl rfl)) pgs_nil)))) pss_never, ?_⟩
  obtain ⟨dx, tn, on, wg, ws, wd, e, h1, hn', h2, h3, h4⟩ := hb.ex
  exact ⟨.ref b, rfl, b, dx, _, rfl, e, bf_no (NoF.mk' (by decide +kernel)), v, rfl, b, M, v, d, rfl, hb, ok, hv, hs, hn, q⟩
end
end Rc

namespace Rc
open PySem PySem.Spec PyProof.Rows L2 RZ
def abcS : Str := "abcdefghijklmnopqrstuvwxyz"
theorem abcS_len : abcS.length = 26 := by decide +kernel
theorem abcS_abc : abcS.cps.toList = abc := letters_abc
theorem nodup_le {α : Type} [DecidableEq α] : ∀ (l zs : List α), l.Nodup → (∀ x ∈ l, x ∈ zs) → l.length ≤ zs.length
  | [], _, _, _ => Nat.zero_le _
  | a :: r, zs, nd, h => by
    have hn := List.nodup_cons.mp nd
    have ha : a ∈ zs := h a List.mem_cons_self
    have ih := nodup_le r (zs.erase a) hn.2 fun x hx => by
      have ne : x ≠ a := fun e => hn.1 (e ▸ hx)
      exact (List.mem_erase_of_ne ne).mpr (h x (List.mem_cons_of_mem _ hx))
    rw [List.length_erase_of_mem ha] at ih
    have : 0 < zs.length := List.length_pos_of_mem ha
    rw [List.length_cons]
    omega
def oneS (c : Nat) : Str := ⟨#[c]⟩
theorem oneS_name {c : Nat} (h : c ∈ abc) : nameT (oneS c) = true := by
  have e1 : (oneS c).length = 1 := rfl
  have e2 : (oneS c).cps.toList = [c] := rfl
  unfold nameT
  rw [e1, e2]
  simp [h]
theorem abc_nodup : (abc.map oneS).Nodup := by decide +kernel
/-- some letter is not among thirteen names -/
theorem free_letter {zs : List Str} (h : zs.length ≤ 13) : (abc.filter fun c => !decide (oneS c ∈ zs)) ≠ [] := fun e => by
  have hall : ∀ x ∈ abc.map oneS, x ∈ zs := fun x hx => by
    obtain ⟨c, hc, rfl⟩ := List.mem_map.mp hx
    by_cases hz : oneS c ∈ zs
    · exact hz
    · have hm : c ∈ abc.filter fun c => !decide (oneS c ∈ zs) := List.mem_filter.mpr ⟨hc, by simp [hz]⟩
      rw [e] at hm
      cases hm
  have := nodup_le _ _ abc_nodup hall
  rw [List.length_map] at this
  have e26 : abc.length = 26 := by decide
  omega
theorem nameT_of {z : Str} (h1 : 1 ≤ z.length) (h2 : z.length ≤ 8) (h3 : ∀ c ∈ z.cps.toList, c ∈ abc) : nameT z = true := by
  unfold nameT
  rw [decide_eq_true h1, decide_eq_true h2]
  simp only [Bool.true_and, List.all_eq_true, decide_eq_true_eq]
  exact h3
def wordsL : List Str := ["person", "persons", "pay", "clear", "settle", "put", "give", "yes"]
theorem words_ok : ∀ z ∈ wordsL, nameT z = true := by decide +kernel
section
variable {P : Program} {w : World} {K : PySem.W.Frag} {mg : Str → Option Value} {base : Heap}
/-! ### _law_name -/
abbrev sLNm : Stmt := topS 43
abbrev nLNm : List Str := ["_law_pot_here", "_law_used", "_law_letters", "_law_name_here", "_law_k", "_law_letter"]
theorem scLNm : FnScope nLNm ["_law_pot_here", "_law_used"] (defScope sLNm) := ⟨rfl, rfl, rfl, by decide +kernel, rfl, by decide +kernel, by decide +kernel⟩
def spLNm : Sp := fun vs H Q _ => ∃ p u zs, vs = [.ref p, .ref u] ∧ Pot H p ∧ u ≠ p ∧ H u = some (.lst (List.map V.str zs)) ∧ zs.length ≤ 13 ∧ ∀ z H', nameT z = true → z ∉ zs → Pot H' p → But p H H' → Q (.str z) H'
theorem ok_lnm {f fT : Addr} {fd fdT : FuncData} (F : Fun K "_law_name" "_law_name" sLNm f fd) (B : Blt mg) (B2 : Blt2 mg) (T : HasTake P w K mg base fT fdT) : FnOk P w K mg base CX0 2 f fd ["_law_pot_here", "_law_used"] spLNm := by
  refine F.ok scLNm (fun vs H Q E h => ?_) (fun cdv Ar outer s H vs Q E hr h => ?_)
  · obtain ⟨_, _, _, rfl, _⟩ := h
    rfl
  · obtain ⟨p, u, zs, rfl, hp, up, hu, hz, q⟩ := h
    refine ⟨_, pss_cons (ps_set (i := 2) scLNm.nd rfl (.inr rfl) pe_str)
      (pss_cons (ps_set (i := 3) scLNm.nd rfl (.inl rfl) (pe_join pe_str
        (pe_lc (own := [("_law_k", 4)]) (g := gName 4) (tt := tYes) rfl scLNm.nd (pi_range1 (by rfl) B2.range (pa_cons (pe_op op_add pe_int (pe_call T.ok hr (by rfl) T.g T.kp T.b .nil pass0 (pa_cons (pv 0) (pa_cons pe_int pa_nil)))) pa_nil))
          (blkOk_by (N := nLNm) (sc := defScope sLNm) (own := [("_law_k", 4)]) (by decide +kernel))
          (fun _ _ _ _ _ => pg_name (i := 4) scLNm.nd rfl (.inl rfl)) (fun _ _ _ _ _ => pts_nil)
          (fun _ _ _ _ _ => pe_ix ix_str (pv 2) (pe_call T.ok hr (by rfl) T.g T.kp T.b .nil pass0 (pa_cons (pv 0) (pa_cons pe_int pa_nil))) (fun _ _ => rfl)))))
      (C8.pss_cut (ps_if (pt_cmpR op_eq (pe_call T.ok hr (by rfl) T.g T.kp T.b .nil pass0 (pa_cons (pv 0) (pa_cons pe_int pa_nil))) pe_int (nomark _))
        (pss_one (ps_set (i := 3) scLNm.nd rfl (.inl rfl) (pe_ix ix_list (pe_lst (pa_cons pe_str (pa_cons pe_str (pa_cons pe_str (pa_cons pe_str (pa_cons pe_str (pa_cons pe_str (pa_cons pe_str (pa_cons pe_str pa_nil)))))))))
          (pe_call T.ok hr (by rfl) T.g T.kp T.b .nil pass0 (pa_cons (pv 0) (pa_cons pe_int pa_nil))) (fun _ _ => rfl)))) pss_nil)
      (pss_cons (ps_if (pt_cmpR op_in_seq (pv 3) (pv 1) (by rfl))
        (pss_one (ps_ret (pe_ix ix_list (pe_lc (own := [("_law_letter", 5)]) (g := gName 5) (tt := tTest (tOp (rIn K true) (tVar 5) (tVar 1))) (te := tVar 5) rfl scLNm.nd (pi_str (pv 2)) (blkOk_by (N := nLNm) (sc := defScope sLNm) (own := [("_law_letter", 5)]) (by decide +kernel))
          (fun _ _ _ _ _ => pg_name (i := 5) scLNm.nd rfl (.inl rfl)) (fun _ _ _ _ _ => pts_one (pt_cmpR op_notIn_seq (pv 5) (pv 1) (by rfl))) (fun _ _ _ _ _ => pv 5)) pe_int (fun _ _ => rfl)))) pss_nil)
      (pss_one (ps_ret (pv 3)))))), ?_⟩
    refine ⟨⟨_, rfl⟩, .ref p, rfl, p, 8, rfl, hp, litM _ (by decide) (by decide), fun d H1 d0 d1 hp1 hb1 => ⟨_, _, rfl, rfl, 1 + d, rfl, by omega, by omega, fun D nD => ?_⟩⟩
    have nDp : D ≠ p := by
      obtain ⟨x, y, e, _⟩ := hp1
      exact (ne_of_none e nD).symm
    refine lc_it walk_range (fun i H' => ∃ cs : List Nat, cs.length = i ∧ (∀ c ∈ cs, c ∈ abc) ∧ H' D = some (.lst (cs.map fun c => .str ⟨#[c]⟩)) ∧ Pot H' p ∧ But p H H')
      ⟨[], rfl, fun c hc => absurd hc List.not_mem_nil, upd_same, hp1.new nD, hb1.trans (But.new nD)⟩ (fun _ _ _ _ => trivial) (fun i x H2 H3 hi hP hY => ?_) (fun H2 hP => ?_)
    · obtain ⟨rfl, rfl⟩ := hY
      obtain ⟨cs, lc, hc, hD, hp2, hb2⟩ := hP
      refine ⟨rfl, .str abcS, rfl, .ref p, rfl, p, 26, rfl, hp2, litM _ (by decide) (by decide), fun e H4 e0 e1 hp4 hb4 => ?_⟩
      have el : abcS.cps.toList.length = 26 := abcS_len
      obtain ⟨c, p1, p2⟩ := pick (xs := abcS.cps.toList) e0 (by rw [el]; exact e1)
      refine ⟨abcS, e, c, rfl, rfl, small_line (by rw [abcS_len]; decide), p1, _, hb4 _ _ nDp hD, ?_, cs ++ [c], by rw [List.length_append, lc]; rfl, fun k hk => ?_, ?_, ?_, fun b o n eb => ?_⟩
      · rw [List.length_map, lc]
        exact small1000 (by omega)
      · rcases List.mem_append.mp hk with z | z
        · exact hc k z
        · rw [List.mem_singleton.mp z, ← abcS_abc]
          exact p2
      · rw [upd_same, List.map_append]
        rfl
      · obtain ⟨x, y, z, r⟩ := hp4
        exact ⟨x, y, by rw [upd_ne nDp.symm]; exact z, r⟩
      · have nb : b ≠ D := ne_of_none (hb1 b o n eb) nD
        rw [upd_ne nb]
        exact hb4 _ _ n (hb2 _ _ n eb)
    · obtain ⟨cs, lc, hc, hD, hp2, hb2⟩ := hP
      have ej := join_ones cs
      have nm : nameT (Txt.join "" (cs.map fun c => (⟨#[c]⟩ : Str))) = true := by
        have el : (Txt.join "" (cs.map fun c => (⟨#[c]⟩ : Str))).length = cs.length := by
          show (Txt.join "" (cs.map fun c => (⟨#[c]⟩ : Str))).cps.size = cs.length
          rw [← Array.length_toList, ej]
        refine nameT_of (by rw [el]; omega) (by rw [el]; omega) (by rw [ej]; exact hc)
      refine ⟨"", D, cs.map fun c => ⟨#[c]⟩, rfl, rfl, .inl (.inl (.inl (by rw [hD, List.map_map]; rfl))), ?_, ?_⟩
      · rw [lens_ones]
        show cs.length + _ * 0 ≤ _
        omega
      generalize Txt.join "" (cs.map fun c => (⟨#[c]⟩ : Str)) = z at nm
      refine ⟨fun σ' H' => ∃ z' y4 y5, σ' = [some (.ref p), some (.ref u), some (.str abcS), some (.str z'), y4, y5] ∧ nameT z' = true ∧ Pot H' p ∧ But p H H', ?_, ?_⟩
      · refine ⟨.ref p, rfl, p, 8, rfl, hp2, litM _ (by decide) (by decide), fun k H3 k0 k1 hp3 hb3 => ⟨rfl, _, rfl, ite2 (fun e => ?_) (fun e => ?_)⟩⟩
        · refine ⟨by show 8 ≤ sizeLine; decide, fun l nl => ?_⟩
          have nlp : l ≠ p := by
            obtain ⟨x, y, e, _⟩ := hp3
            exact (ne_of_none e nl).symm
          refine ⟨.ref p, rfl, p, 8, rfl, hp3.new nl, litM _ (by decide) (by decide), fun e H5 e0 e1 hp5 hb5 => ?_⟩
          obtain ⟨v, p1, p2⟩ := pick (xs := wordsL.map V.str) e0 e1
          refine ⟨l, _, e, v, rfl, rfl, .inl (.inl (hb5 _ _ nlp upd_same)), p1, ?_⟩
          obtain ⟨z', hz', rfl⟩ := List.mem_map.mp p2
          exact ⟨z', _, _, rfl, words_ok z' hz', hp5, hb2.trans (hb3.trans ((But.new nl).trans hb5))⟩
        · exact ⟨z, _, _, rfl, nm, hp3, hb2.trans hb3⟩
      · rintro σ' H' ⟨z', y4, y5, rfl, nm', hp', hb'⟩
        have hu' := hb' _ _ up hu
        refine ⟨.str z', rfl, .ref u, rfl, u, _, rfl, .inl (.inl (.inl hu')), rfl, flat_strs _, _, rfl, ?_⟩
        show if inV (.str z') (zs.map V.str) = true then _ else _
        rw [inV_strs]
        refine ite2 (fun e => ?_) (fun e => ?_)
        · refine ⟨.str abcS, rfl, abcS, rfl, fun D' nD' => ?_⟩
          refine lc_it walk_str (fun i H'' => Same H' H'' ∧ H'' D' = some (.lst (((abc.take i).filter fun c => !decide (oneS c ∈ zs)).map fun c => .str (oneS c)))) ⟨same_upd nD', upd_same⟩ (fun _ _ _ _ => trivial) (fun i x H3' H3 hi hP hY => ?_) (fun H3 hP => ?_)
          · obtain ⟨rfl, c, hc', rfl⟩ := hY
            have hc2 : abc[i]? = some c := by
              rw [← abcS_abc, Array.getElem?_toList]
              exact hc'
            refine ⟨rfl, _, rfl, .ref u, rfl, u, _, rfl, .inl (.inl (.inl (hP.1 _ _ hu'))), rfl, flat_strs _, _, rfl, ?_⟩
            have tk : abc.take (i + 1) = abc.take i ++ [c] := by
              rw [List.take_add_one, hc2]
              rfl
            show if (!inV (.str (oneS c)) (zs.map V.str)) = true then _ else _
            rw [inV_strs]
            refine ite2 (fun e' => ?_) (fun e' => ?_)
            · refine ⟨_, rfl, _, hP.2, ?_, fun b o eb => ?_, ?_⟩
              · rw [List.length_map]
                have h1 := List.length_filter_le (fun c => !decide (oneS c ∈ zs)) (abc.take i)
                have h2 : (abc.take i).length ≤ 26 := by
                  rw [List.length_take]
                  exact Nat.min_le_right _ _
                exact small1000 (by omega)
              · rw [upd_ne (ne_of_none eb nD')]
                exact hP.1 b o eb
              · rw [upd_same, tk, List.filter_append, List.map_append]
                simp only [List.filter_cons, e', if_true, List.filter_nil, List.map_cons, List.map_nil]
                rfl
            · refine ⟨hP.1, ?_⟩
              rw [hP.2, tk, List.filter_append]
              simp only [List.filter_cons, e', List.filter_nil, Bool.false_eq_true, if_false, List.append_nil]
          · have esz : abc.take abcS.cps.size = abc := List.take_of_length_le (by decide +kernel)
            rw [esz] at hP
            have ne := free_letter hz
            cases hl : (abc.filter fun c => !decide (oneS c ∈ zs)) with
            | nil => exact absurd hl ne
            | cons c r =>
              have hm : c ∈ abc.filter fun c => !decide (oneS c ∈ zs) := by
                rw [hl]
                exact List.mem_cons_self
              obtain ⟨m1, m2⟩ := List.mem_filter.mp hm
              rw [hl] at hP
              refine ⟨D', _, 0, .str (oneS c), rfl, rfl, .inl (.inl hP.2), atI_nat (j := 0) rfl, ?_⟩
              exact q _ _ (oneS_name m1) (by simpa using m2) (hp'.same hP.1) (hb'.trans (same_but hP.1))
        · exact ⟨_, rfl, q z' H' nm' (fun c => e (decide_eq_true c)) hp' hb'⟩
end
end Rc

namespace Rc
open PySem PySem.Spec PyProof.Rows L2 RZ
section
variable {P : Program} {w : World} {K : PySem.W.Frag} {mg : Str → Option Value} {base : Heap}
/-! ### _law_names -/
abbrev sLNms : Stmt := topS 44
theorem scLNms : FnScope ["_law_pot_here", "_law_many", "_law_found", "_law_k"] ["_law_pot_here", "_law_many"] (defScope sLNms) := ⟨rfl, rfl, rfl, by decide +kernel, rfl, by decide +kernel, by decide +kernel⟩
def spLNms : Sp := fun vs H Q _ => ∃ (p : Addr) (m : Nat), vs = [.ref p, .int (m : Nat)] ∧ Pot H p ∧ m ≤ 13 ∧ ∀ r zs H', H r = none → r ≠ p → H' r = some (.lst (List.map V.str zs)) → zs.length = m → zs.Nodup → (∀ z ∈ zs, nameT z = true) → Pot H' p → But p H H' → Q (.ref r) H'
theorem ok_lnms {f fN : Addr} {fd fdN : FuncData} (F : Fun K "_law_names" "_law_names" sLNms f fd) (B2 : Blt2 mg) (N : Has P w K mg base 2 "_law_name" ["_law_pot_here", "_law_used"] spLNm fN fdN) :
    FnOk P w K mg base CX0 3 f fd ["_law_pot_here", "_law_many"] spLNms := by
  refine F.ok scLNms (fun vs H Q E h => ?_) (fun cdv Ar outer s H vs Q E hr h => ?_)
  · obtain ⟨_, _, rfl, _⟩ := h
    rfl
  · obtain ⟨p, m, rfl, hp, hm, q⟩ := h
    refine ⟨_, pss_cons (ps_set (i := 2) scLNms.nd rfl (.inl rfl) (pe_lst pa_nil))
      (pss_cons (ps_for PassesOwn.never rfl (pi_range1 (by rfl) B2.range (pa_cons (pv 1) pa_nil)) (pg_name (i := 3) scLNms.nd rfl (.inl rfl))
        (pss_one (ps_expr (pe_bm PySem.F.plainAttrs_list PySem.F.slot_list_append PySem.F.type_list_append mt_append (pv 2) (pa_cons (pe_call N.ok hr (by rfl) N.g N.kp N.b .nil pass0 (pa_cons (pv 0) (pa_cons (pv 2) pa_nil))) pa_nil)))))
      (pss_one (ps_ret (pv 2)))), ?_⟩
    refine ⟨Nat.zero_le _, fun r nr => ?_⟩
    have rp : r ≠ p := by
      obtain ⟨x, y, e, _⟩ := hp
      exact (ne_of_none e nr).symm
    refine ⟨_, rfl, _, rfl, by omega, by omega, ?_⟩
    refine for_it walk_range (fun i σ H' => ∃ zs y3, σ = [some (.ref p), some (.int (m : Nat)), some (.ref r), y3] ∧ H' r = some (.lst (List.map V.str zs)) ∧ zs.length = i ∧ zs.Nodup ∧ (∀ z ∈ zs, nameT z = true) ∧ Pot H' p ∧ But p H H')
      ⟨[], _, rfl, upd_same, rfl, List.nodup_nil, fun z hz => absurd hz List.not_mem_nil, hp.new nr, But.new nr⟩ (fun _ _ _ _ _ => trivial) (fun i x σ H1' H1 hi hP hY => ?_) (fun σ H1 hP => ?_)
    · obtain ⟨rfl, rfl⟩ := hY
      obtain ⟨zs, y3, rfl, hr1, lz, nd, nm, hp1, hb1⟩ := hP
      have hi' : i < m := by simpa using hi
      refine ⟨.ref r, rfl, .inl ⟨rfl, _, .inl (.inl hr1)⟩, .ref p, rfl, .ref r, rfl, p, r, zs, rfl, hp1, rp, hr1, by omega, fun z H2 nz nin hp2 hb2 => ?_⟩
      refine ⟨r, _, _, rfl, rfl, hb2 _ _ rp hr1, by rw [List.length_map]; exact small1000 (by omega), ?_⟩
      refine ⟨zs ++ [z], _, rfl, by rw [upd_same, List.map_append]; rfl, by rw [List.length_append, lz]; rfl, ?_, fun y hy => ?_, ?_, fun b o n e => ?_⟩
      · rw [List.nodup_append]
        refine ⟨nd, by simp, fun a ha b hb e => ?_⟩
        rw [List.mem_singleton.mp hb] at e
        exact nin (e ▸ ha)
      · rcases List.mem_append.mp hy with h | h
        · exact nm y h
        · rw [List.mem_singleton.mp h]
          exact nz
      · obtain ⟨x, y, e, rr⟩ := hp2
        exact ⟨x, y, by rw [upd_ne rp.symm]; exact e, rr⟩
      · rw [upd_ne (ne_of_none e nr)]
        exact hb2 _ _ n (hb1 _ _ n e)
    · obtain ⟨zs, y3, rfl, hr1, lz, nd, nm, hp1, hb1⟩ := hP
      exact ⟨.ref r, rfl, q r zs H1 nr rp hr1 (by simpa using lz) nd nm hp1 hb1⟩
end
end Rc

namespace Rc
open PySem PySem.Spec PyProof.Rows L2 RZ
section
variable {P : Program} {w : World} {K : PySem.W.Frag} {mg : Str → Option Value} {base : Heap}
/-! ### _law_amount -/
abbrev sLAm : Stmt := topS 46
theorem scLAm : FnScope ["_law_pot_here", "_law_size", "_law_kind"] ["_law_pot_here", "_law_size"] (defScope sLAm) := ⟨rfl, rfl, rfl, by decide +kernel, rfl, by decide +kernel, by decide +kernel⟩
def Amt (n : Int) : Prop := 1 ≤ n ∧ n ≤ 10 ^ 58
def spLAm : Sp := fun vs H Q _ => ∃ (p : Addr) (s : Int), vs = [.ref p, .int s] ∧ (s = 0 ∨ s = 1) ∧ Pot H p ∧ ∀ n H', Amt n → Pot H' p → But p H H' → Q (.int n) H'
theorem ok_lam {f fT : Addr} {fd fdT : FuncData} (F : Fun K "_law_amount" "_law_amount" sLAm f fd) (T : HasTake P w K mg base fT fdT) : FnOk P w K mg base CX0 2 f fd ["_law_pot_here", "_law_size"] spLAm := by
  refine F.ok scLAm (fun vs H Q E h => ?_) (fun cdv Ar outer s H vs Q E hr h => ?_)
  · obtain ⟨_, _, rfl, _⟩ := h
    rfl
  · obtain ⟨p, sz, rfl, hsz, hp, q⟩ := h
    refine ⟨_, pss_cons (ps_set (i := 2) scLAm.nd rfl (.inl rfl) (pe_call T.ok hr (by rfl) T.g T.kp T.b .nil pass0 (pa_cons (pv 0) (pa_cons pe_int pa_nil))))
      (pss_one (ps_ret (pe_op op_add pe_int (pe_call T.ok hr (by rfl) T.g T.kp T.b .nil pass0 (pa_cons (pv 0) (pa_cons
        (pe_ix ix_list (pe_ix ix_list (pe_lst (pa_cons (pe_lst (pa_cons pe_int (pa_cons pe_int (pa_cons pe_int (pa_cons pe_int pa_nil))))) (pa_cons (pe_lst (pa_cons pe_int (pa_cons pe_int (pa_cons pe_int (pa_cons (pe_op op_pow pe_int pe_int) pa_nil))))) pa_nil))) (pv 1) (fun _ _ => rfl)) (pv 2) (fun _ _ => rfl)) pa_nil)))))), ?_⟩
    refine ⟨.ref p, rfl, p, 4, rfl, hp, litM _ (by decide) (by decide), fun d H1 d0 d1 hp1 hb1 => ?_⟩
    refine ⟨.ref p, rfl, by show 4 ≤ sizeLine; decide, fun l1 n1 => ⟨_, _, rfl, rfl, ⟨by decide, by decide, by decide⟩, by show 4 ≤ sizeLine; decide, fun l2 n2 => ⟨by show 2 ≤ sizeLine; decide, fun l3 n3 => ?_⟩⟩⟩
    have s3 := (same_upd (o := .lst [V.int 1, V.int 3, V.int 9, V.int 9]) n1).trans ((same_upd (o := .lst [V.int 1, V.int 9, V.int 1000, V.int (10 ^ (58 : Int).toNat)]) n2).trans (same_upd (o := .lst [V.ref l1, V.ref l2]) n3))
    have fin : ∀ m : Int, 0 < m → m ≤ 10 ^ 58 → ∃ (p' : Addr) (m' : Int), [V.ref p, V.int m] = [.ref p', .int m'] ∧ Pot (upd (upd (upd H1 l1 (.lst [V.int 1, V.int 3, V.int 9, V.int 9])) l2 (.lst [V.int 1, V.int 9, V.int 1000, V.int (10 ^ (58 : Int).toNat)])) l3 (.lst [V.ref l1, V.ref l2])) p' ∧ LitM m' ∧
        ∀ t H4, 0 ≤ t → t < m' → Pot H4 p' → But p' (upd (upd (upd H1 l1 (.lst [V.int 1, V.int 3, V.int 9, V.int 9])) l2 (.lst [V.int 1, V.int 9, V.int 1000, V.int (10 ^ (58 : Int).toNat)])) l3 (.lst [V.ref l1, V.ref l2])) H4 → ∃ x y : Int, V.int 1 = .int x ∧ V.int t = .int y ∧ Q (.int (x + y)) H4 := fun m m0 m1 => by
      have m2 : (10 : Int) ^ 58 < 2 ^ 250 := by decide
      exact ⟨p, m, rfl, hp1.same s3, litM _ m0 (by omega), fun t H4 t0 t1 hp4 hb4 => ⟨1, t, rfl, rfl, q _ _ ⟨by omega, by omega⟩ hp4 (hb1.trans ((same_but s3).trans hb4))⟩⟩
    rcases hsz with rfl | rfl
    · obtain ⟨c, e1, e2⟩ := pick (xs := [V.int 1, V.int 3, V.int 9, V.int 9]) d0 d1
      refine ⟨.int 0, rfl, l3, _, 0, .ref l1, rfl, rfl, .inl (.inl upd_same), rfl, .int d, rfl, l1, _, d, c, rfl, rfl, .inl (.inl (same_upd n3 _ _ (same_upd n2 _ _ upd_same))), e1, ?_⟩
      have ec : ∃ m : Int, c = .int m ∧ 0 < m ∧ m ≤ 10 ^ 58 := by
        simp only [List.mem_cons, List.not_mem_nil, or_false] at e2
        rcases e2 with e | e | e | e <;> exact ⟨_, e, by decide, by decide⟩
      obtain ⟨m, rfl, m0, m1⟩ := ec
      exact fin m m0 m1
    · obtain ⟨c, e1, e2⟩ := pick (xs := [V.int 1, V.int 9, V.int 1000, V.int (10 ^ (58 : Int).toNat)]) d0 d1
      refine ⟨.int 1, rfl, l3, _, 1, .ref l2, rfl, rfl, .inl (.inl upd_same), rfl, .int d, rfl, l2, _, d, c, rfl, rfl, .inl (.inl (same_upd n3 _ _ upd_same)), e1, ?_⟩
      have ec : ∃ m : Int, c = .int m ∧ 0 < m ∧ m ≤ 10 ^ 58 := by
        simp only [List.mem_cons, List.not_mem_nil, or_false] at e2
        rcases e2 with e | e | e | e <;> exact ⟨_, e, by decide, by decide⟩
      obtain ⟨m, rfl, m0, m1⟩ := ec
      exact fin m m0 m1
end
end Rc

namespace Rc
open PySem PySem.Spec PyProof.Rows L2 RZ
/-! ### dicts by names -/
def dct (zs : List Str) (vs : List V) : List (Key × V) := (zs.zip vs).map fun p => (Sum.inr p.1, p.2)
theorem dct_cons (z : Str) (zs : List Str) (v : V) (vs : List V) : dct (z :: zs) (v :: vs) = (Sum.inr z, v) :: dct zs vs := rfl
theorem dct_mem {zs : List Str} {vs : List V} {kv : Key × V} (h : kv ∈ dct zs vs) : ∃ z ∈ zs, kv.1 = Sum.inr z := by
  unfold dct at h
  obtain ⟨p, hp, rfl⟩ := List.mem_map.mp h
  exact ⟨p.1, (List.of_mem_zip hp).1, rfl⟩
theorem dct_val : ∀ {zs : List Str} {vs : List V} {j : Nat} {z : Str} {v : V}, zs.Nodup → zs[j]? = some z → vs[j]? = some v → valV (dct zs vs) (Sum.inr z : Key) = some v
  | [], _, _, _, _, _, h, _ => by simp at h
  | _ :: _, [], _, _, _, _, _, h => by simp at h
  | y :: zs, u :: vs, 0, z, v, nd, h1, h2 => by
    simp at h1 h2
    subst h1 h2
    rw [dct_cons]
    exact valV_pos rfl
  | y :: zs, u :: vs, j + 1, z, v, nd, h1, h2 => by
    have hn := List.nodup_cons.mp nd
    have h1' : zs[j]? = some z := by simpa using h1
    rw [dct_cons, valV_neg (fun e => hn.1 (by
      have e' : y = z := Sum.inr.inj e
      rw [e']
      exact List.mem_of_getElem? h1'))]
    exact dct_val hn.2 h1' (by simpa using h2)
theorem dct_nokey {zs : List Str} {vs : List V} {z : Str} (h : z ∉ zs) : ∀ kv ∈ dct zs vs, ¬ kv.1 = (Sum.inr z : Key) := fun kv hk e => by
  obtain ⟨y, hy, e'⟩ := dct_mem hk
  rw [e'] at e
  exact h (Sum.inr.inj e ▸ hy)
theorem map_nokey {kvs : List (Key × V)} {k : Key} {v : V} (h : ∀ kv ∈ kvs, ¬ kv.1 = k) : kvs.map (fun kv => if kv.1 = k then (kv.1, v) else kv) = kvs := by
  induction kvs with
  | nil => rfl
  | cons a r ih =>
    rw [List.map_cons, if_neg (h a List.mem_cons_self), ih fun kv hk => h kv (List.mem_cons_of_mem _ hk)]
theorem dct_map : ∀ {zs : List Str} {vs : List V} {j : Nat} {z : Str} {v : V}, zs.Nodup → zs[j]? = some z → (dct zs vs).map (fun kv => if kv.1 = (Sum.inr z : Key) then (kv.1, v) else kv) = dct zs (vs.set j v)
  | [], _, _, _, _, _, h => by simp at h
  | y :: zs, [], _, _, _, _, _ => by simp [dct]
  | y :: zs, u :: vs, 0, z, v, nd, h1 => by
    simp at h1
    subst h1
    have hn := List.nodup_cons.mp nd
    rw [List.set_cons_zero, dct_cons, dct_cons, List.map_cons, if_pos rfl, map_nokey (dct_nokey hn.1)]
  | y :: zs, u :: vs, j + 1, z, v, nd, h1 => by
    have hn := List.nodup_cons.mp nd
    have h1' : zs[j]? = some z := by simpa using h1
    have ne : ¬ (Sum.inr y : Key) = Sum.inr z := fun e => hn.1 (by
      have e' : y = z := Sum.inr.inj e
      rw [e']
      exact List.mem_of_getElem? h1')
    rw [List.set_cons_succ, dct_cons, dct_cons, List.map_cons, if_neg ne, dct_map hn.2 h1']
theorem dct_put {zs : List Str} {vs : List V} {j : Nat} {z : Str} {v : V} (nd : zs.Nodup) (h1 : zs[j]? = some z) (h2 : j < vs.length) : putK (dct zs vs) (Sum.inr z) v = dct zs (vs.set j v) := by
  unfold putK
  have hv := dct_val nd h1 (List.getElem?_eq_getElem h2)
  rw [valV_any, hv, if_pos (show (some vs[j]).isSome = true from rfl)]
  exact dct_map nd h1
theorem put_new {kvs : List (Key × V)} {k : Key} {v : V} (h : ∀ kv ∈ kvs, ¬ kv.1 = k) : putK kvs k v = kvs ++ [(k, v)] := by
  unfold putK
  rw [if_neg]
  rw [List.any_eq_true]
  rintro ⟨kv, hk, e⟩
  exact h kv hk (of_decide_eq_true e)
theorem merge_dct : ∀ (zs : List Str) (vs : List V) (acc : List (Key × V)), zs.Nodup → (∀ kv ∈ acc, ∀ z ∈ zs, ¬ kv.1 = (Sum.inr z : Key)) → mergeK acc (dct zs vs) = acc ++ dct zs vs
  | [], _, acc, _, _ => by simp [dct, mergeK]
  | _ :: _, [], acc, _, _ => by simp [dct, mergeK]
  | z :: zs, v :: vs, acc, nd, h => by
    have hn := List.nodup_cons.mp nd
    rw [dct_cons]
    show mergeK (putK acc (Sum.inr z) v) (dct zs vs) = acc ++ (Sum.inr z, v) :: dct zs vs
    rw [put_new fun kv hk => h kv hk z List.mem_cons_self, merge_dct zs vs _ hn.2 fun kv hk y hy => ?_]
    · rw [List.append_assoc]
      rfl
    · rcases List.mem_append.mp hk with hk | hk
      · exact h kv hk y (List.mem_cons_of_mem _ hy)
      · rw [List.mem_singleton.mp hk]
        intro e
        exact hn.1 (Sum.inr.inj e ▸ hy)
theorem merge_new {zs : List Str} {vs : List V} (nd : zs.Nodup) : mergeK [] (dct zs vs) = dct zs vs := by
  rw [merge_dct zs vs [] nd fun kv hk => absurd hk List.not_mem_nil]
  rfl
theorem dct_len {zs : List Str} {vs : List V} (h : vs.length = zs.length) : (dct zs vs).length = zs.length := by
  unfold dct
  rw [List.length_map, List.length_zip, h, Nat.min_self]
/-! ### the law's model -/
structure MdA where
  m : Addr
  lo : Addr
  dg : Addr
  df : Addr
  dn : Addr
  rs : List Addr
structure Md where
  given : List Int
  fallen : List Int
  notes : List (List (Str × Int))
def MdA.Has (a : MdA) (b : Addr) : Prop := b = a.m ∨ b = a.lo ∨ b = a.dg ∨ b = a.df ∨ b = a.dn ∨ b ∈ a.rs
def keysM : List Str := ["order", "given", "fallen", "notes"]
theorem keysM_nd : keysM.Nodup := by decide +kernel
def MdA.main (a : MdA) : List (Key × V) := dct keysM [.ref a.lo, .ref a.dg, .ref a.df, .ref a.dn]
structure ModelAt (K : PySem.W.Frag) (H : Hp) (zs : List Str) (a : MdA) (D : Md) : Prop where
  hm : H a.m = some (.dK a.main)
  ho : H a.lo = some (.lst (zs.map V.str))
  hg : H a.dg = some (.dK (dct zs (D.given.map V.int)))
  hf : H a.df = some (.dK (dct zs (D.fallen.map V.int)))
  hn : H a.dn = some (.dK (dct zs (a.rs.map V.ref)))
  rows : ∀ (i : Nat) (r : Addr) (l : List (Str × Int)), a.rs[i]? = some r → D.notes[i]? = some l → ∃ xs, H r = some (.lst xs) ∧ DtAll K H xs (notesD l)
  nd : a.rs.Nodup
  olo : a.lo ∉ a.rs
  ogf : a.dg ≠ a.df
  ogn : a.dg ≠ a.dn
  ogm : a.dg ≠ a.m
  omn : a.m ≠ a.dn
  zn : zs.Nodup
  lg : D.given.length = zs.length
  lf : D.fallen.length = zs.length
  ln : D.notes.length = zs.length
  lr : a.rs.length = zs.length
theorem ModelAt.keep {K : PySem.W.Frag} {H H' : Hp} {zs : List Str} {a : MdA} {D : Md} (h : ModelAt K H zs a D) (k : ∀ b o, a.Has b → H b = some o → H' b = some o) (kt : KT H H') : ModelAt K H' zs a D where
  hm := k _ _ (.inl rfl) h.hm
  ho := k _ _ (.inr (.inl rfl)) h.ho
  hg := k _ _ (.inr (.inr (.inl rfl))) h.hg
  hf := k _ _ (.inr (.inr (.inr (.inl rfl)))) h.hf
  hn := k _ _ (.inr (.inr (.inr (.inr (.inl rfl))))) h.hn
  rows := fun i r l e1 e2 => by
    obtain ⟨xs, e, d⟩ := h.rows i r l e1 e2
    exact ⟨xs, k _ _ (.inr (.inr (.inr (.inr (.inr (List.mem_of_getElem? e1)))))) e, DtAll.keepT kt _ (tup_notes l) d⟩
  nd := h.nd
  olo := h.olo
  ogf := h.ogf
  ogn := h.ogn
  ogm := h.ogm
  omn := h.omn
  zn := h.zn
  lg := h.lg
  lf := h.lf
  ln := h.ln
  lr := h.lr
theorem model_same {K : PySem.W.Frag} {H H' : Hp} {zs : List Str} {a : MdA} {D : Md} (h : ModelAt K H zs a D) (s : Same H H') : ModelAt K H' zs a D := h.keep (fun b o _ e => s b o e) (kt_same s)
theorem But.kt {p : Addr} {H H' : Hp} (b : But p H H') (hp : Pot H p) : KT H H' := fun c o e t => b c o (fun z => by
  obtain ⟨x, y, e', _⟩ := hp
  rw [z, e'] at e
  cases e
  exact t) e
theorem model_but {K : PySem.W.Frag} {H H' : Hp} {zs : List Str} {a : MdA} {D : Md} {p : Addr} (h : ModelAt K H zs a D) (b : But p H H') (hp : Pot H p) (n : ¬ a.Has p) : ModelAt K H' zs a D :=
  h.keep (fun c o hc e => b c o (fun z => n (z ▸ hc)) e) (b.kt hp)
def zeros (n : Nat) : List Int := List.replicate n 0
def newMd (n : Nat) : Md := ⟨zeros n, zeros n, List.replicate n []⟩
/-- pairs that a comprehension makes -/
def PairsAt (K : PySem.W.Frag) (H : Hp) (ps : List Addr) (kvs : List (Key × V)) : Prop := Paired (fun p kv => SqT K H p [kV kv.1, kv.2]) ps kvs
theorem Paired.snoc {α β : Type} {R : α → β → Prop} : ∀ {l : List α} {m : List β} {a : α} {b : β}, Paired R l m → R a b → Paired R (l ++ [a]) (m ++ [b])
  | _, _, _, _, .nil, h => .cons h .nil
  | _, _, _, _, .cons r t, h => .cons r (Paired.snoc t h)
theorem pairs_kt {K : PySem.W.Frag} {H H' : Hp} (k : KT H H') : ∀ {ps : List Addr} {kvs : List (Key × V)}, PairsAt K H ps kvs → PairsAt K H' ps kvs
  | _, _, .nil => .nil
  | _, _, .cons r t => .cons (by
      rcases r with (r | ⟨o, r⟩) | r
      · exact .inl (.inl (k _ _ r trivial))
      · exact .inl (.inr ⟨o, k _ _ r trivial⟩)
      · exact .inr r) (pairs_kt k t)
theorem dct_snoc {zs : List Str} {vs : List V} {z : Str} {v : V} (h : vs.length = zs.length) : dct (zs ++ [z]) (vs ++ [v]) = dct zs vs ++ [(Sum.inr z, v)] := by
  unfold dct
  rw [List.zip_append h.symm, List.map_append]
  rfl
theorem take_succ {α : Type} {l : List α} {i : Nat} (h : i < l.length) : l.take (i + 1) = l.take i ++ [l[i]] := by
  rw [List.take_add_one, List.getElem?_eq_getElem h]
  rfl
theorem pairs_step {K : PySem.W.Frag} {H0 H' : Hp} {D t : Addr} {ps : List Addr} {zs : List Str} {vs : List V} {z : Str} {v : V} (nD : H0 D = none) (s : Same H0 H') (hD : H' D = some (.lst (ps.map V.ref))) (hp : PairsAt K H' ps (dct zs vs)) (l : vs.length = zs.length) (nt : H' t = none) :
    Same H0 (upd (upd H' t (.tup [.str z, v])) D (.lst (ps.map V.ref ++ [.ref t]))) ∧ upd (upd H' t (.tup [.str z, v])) D (.lst (ps.map V.ref ++ [.ref t])) D = some (.lst ((ps ++ [t]).map V.ref)) ∧
      PairsAt K (upd (upd H' t (.tup [.str z, v])) D (.lst (ps.map V.ref ++ [.ref t]))) (ps ++ [t]) (dct (zs ++ [z]) (vs ++ [v])) ∧ KT H' (upd (upd H' t (.tup [.str z, v])) D (.lst (ps.map V.ref ++ [.ref t]))) := by
  have tD : t ≠ D := (ne_of_none hD nt).symm
  have kt : KT H' (upd (upd H' t (.tup [.str z, v])) D (.lst (ps.map V.ref ++ [.ref t]))) := (kt_same (same_upd nt)).trans (kt_upd (o := .lst (ps.map V.ref)) (by rw [upd_ne tD.symm]; exact hD) fun z => z)
  refine ⟨fun b o e => ?_, by rw [upd_same, List.map_append]; rfl, ?_, kt⟩
  · rw [upd_ne (ne_of_none e nD), upd_ne (ne_of_none (s b o e) nt)]
    exact s b o e
  · rw [dct_snoc l]
    refine Paired.snoc (pairs_kt kt hp) (.inl (.inl ?_))
    rw [upd_ne tD, upd_same]
    rfl
theorem Paired.len {α β : Type} {R : α → β → Prop} : ∀ {l : List α} {m : List β}, Paired R l m → l.length = m.length
  | _, _, .nil => rfl
  | _, _, .cons _ t => by rw [List.length_cons, List.length_cons, Paired.len t]
section
variable {P : Program} {w : World} {K : PySem.W.Frag} {mg : Str → Option Value} {base : Heap}
abbrev sLMd : Stmt := topS 47
abbrev nLMd : List Str := ["_law_names_here", "_law_name_here"]
theorem scLMd : FnScope nLMd ["_law_names_here"] (defScope sLMd) := ⟨rfl, rfl, rfl, by decide +kernel, rfl, by decide +kernel, by decide +kernel⟩
def spLMd (K : PySem.W.Frag) : Sp := fun vs H Q _ => ∃ (nl : Addr) (zs : List Str), vs = [.ref nl] ∧ H nl = some (.lst (zs.map V.str)) ∧ zs.Nodup ∧ zs.length ≤ 13 ∧ ∀ a H', Same H H' → (∀ b, MdA.Has a b → H b = none) → ModelAt K H' zs a (newMd zs.length) → Q (.ref a.m) H'
theorem ok_lmd {f : Addr} {fd : FuncData} (F : Fun K "_law_model" "_law_model" sLMd f fd) (B3 : Blt3 mg) : FnOk P w K mg base CX0 1 f fd ["_law_names_here"] (spLMd K) := by
  refine F.ok scLMd (fun vs H Q E h => ?_) (fun cdv Ar outer s H vs Q E hr h => ?_)
  · obtain ⟨_, _, rfl, _⟩ := h
    rfl
  · obtain ⟨nl, zs, rfl, hn, nd, lz, q⟩ := h
    refine ⟨_, pss_one (ps_ret (pe_disp (pps_cons pe_str (pe_callTy call_list_of (by rfl) B3.list (by decide +kernel) (pa_cons (pv 0) pa_nil))
      (pps_cons pe_str (pe_callTy (call_dictP rfl) (by rfl) B3.dict (by decide +kernel) (pa_cons (pe_lc (own := [("_law_name_here", 1)]) (g := gName 1) (tt := tYes) rfl scLMd.nd (pi_list (pv 0)) (blkOk_by (N := nLMd) (sc := defScope sLMd) (own := [("_law_name_here", 1)]) (by decide +kernel))
          (fun _ _ _ _ _ => pg_name (i := 1) scLMd.nd rfl (.inl rfl) (hf := .inr rfl)) (fun _ _ _ _ _ => pts_nil) (fun _ _ _ _ _ => pe_tup (pa_cons (pv 1) (pa_cons pe_int pa_nil)))) pa_nil))
      (pps_cons pe_str (pe_callTy (call_dictP rfl) (by rfl) B3.dict (by decide +kernel) (pa_cons (pe_lc (own := [("_law_name_here", 1)]) (g := gName 1) (tt := tYes) rfl scLMd.nd (pi_list (pv 0)) (blkOk_by (N := nLMd) (sc := defScope sLMd) (own := [("_law_name_here", 1)]) (by decide +kernel))
          (fun _ _ _ _ _ => pg_name (i := 1) scLMd.nd rfl (.inl rfl) (hf := .inr rfl)) (fun _ _ _ _ _ => pts_nil) (fun _ _ _ _ _ => pe_tup (pa_cons (pv 1) (pa_cons pe_int pa_nil)))) pa_nil))
      (pps_cons pe_str (pe_callTy (call_dictP rfl) (by rfl) B3.dict (by decide +kernel) (pa_cons (pe_lc (own := [("_law_name_here", 1)]) (g := gName 1) (tt := tYes) rfl scLMd.nd (pi_list (pv 0)) (blkOk_by (N := nLMd) (sc := defScope sLMd) (own := [("_law_name_here", 1)]) (by decide +kernel))
          (fun _ _ _ _ _ => pg_name (i := 1) scLMd.nd rfl (.inl rfl) (hf := .inr rfl)) (fun _ _ _ _ _ => pts_nil) (fun _ _ _ _ _ => pe_tup (pa_cons (pv 1) (pa_cons (pe_lst pa_nil) pa_nil)))) pa_nil)) pps_nil)))) (by rfl) (by rfl) (fun z => by cases z) (by show 4 ≤ 15; decide))), ?_⟩
    intro m nm
    have s1 := same_upd (o := .dK []) nm
    have sq : SqL K H nl (zs.map V.str) := .inl (.inl hn)
    refine ⟨.ref nl, rfl, nl, _, rfl, .inl (s1.seq sq), fun lo nlo => ?_⟩
    have s2 := s1.trans (same_upd (o := .lst (zs.map V.str)) nlo)
    generalize hH2 : upd (upd H m (.dK [])) lo (.lst (zs.map V.str)) = H2 at s2
    have hm2 : H2 m = some (.dK []) := by
      rw [← hH2, upd_ne (by intro e; rw [← e, upd_same] at nlo; cases nlo), upd_same]
    have hl2 : H2 lo = some (.lst (zs.map V.str)) := by
      rw [← hH2, upd_same]
    have nloH : H lo = none := s1.free nlo
    have step0 : ∀ (H0 H' : Hp) (D : Addr) (ps : List Addr) (i : Nat) (hi : i < zs.length), H0 D = none → Same H0 H' → H' D = some (.lst (ps.map V.ref)) → PairsAt K H' ps (dct (zs.take i) ((zeros i).map V.int)) → ∀ t, H' t = none →
        Same H0 (upd (upd H' t (.tup [.str zs[i], .int 0])) D (.lst (ps.map V.ref ++ [.ref t]))) ∧ ∃ ps', upd (upd H' t (.tup [.str zs[i], .int 0])) D (.lst (ps.map V.ref ++ [.ref t])) D = some (.lst (List.map V.ref ps')) ∧
          PairsAt K (upd (upd H' t (.tup [.str zs[i], .int 0])) D (.lst (ps.map V.ref ++ [.ref t]))) ps' (dct (zs.take (i + 1)) ((zeros (i + 1)).map V.int)) := fun H0 H' D ps i hi nD sm hD hp t nt => by
      obtain ⟨a1, a2, a3, _⟩ := pairs_step (z := zs[i]) (v := .int 0) nD sm hD hp (by unfold zeros; rw [List.length_map, List.length_replicate, List.length_take]; omega) nt
      refine ⟨a1, ps ++ [t], a2, ?_⟩
      rw [take_succ hi, show (zeros (i + 1)).map V.int = (zeros i).map V.int ++ [.int 0] by unfold zeros; rw [List.replicate_succ', List.map_append]; rfl]
      exact a3
    have full : zs.take zs.length = zs := List.take_length
    have lenz : (zs.map V.str).length = zs.length := List.length_map ..
    have smallP : ∀ {H' : Hp} {ps : List Addr} {i : Nat} {vs : List V}, i < zs.length → vs.length = i → PairsAt K H' ps (dct (zs.take i) vs) → (ps.map V.ref).length < sizeLine := fun {H' ps i vs} hi hv hp => by
      rw [List.length_map, Paired.len hp]
      unfold dct
      rw [List.length_map, List.length_zip]
      exact small1000 (by omega)
    have lenZ : ∀ i, ((zeros i).map V.int).length = i := fun i => by
      unfold zeros
      rw [List.length_map, List.length_replicate]
    have strAt : ∀ {i : Nat} {x : V} (hi : i < zs.length), (zs.map V.str)[i]? = some x → x = .str zs[i] := fun {i x} hi e => by
      rw [List.getElem?_map, List.getElem?_eq_getElem hi] at e
      exact (Option.some.inj e).symm
    -- 'given'
    refine ⟨.ref nl, rfl, nl, rfl, ⟨_, s2.seq sq⟩, fun D1 nD1 => ?_⟩
    refine lc_it (walk_list (K := K) (a := nl) (xs := zs.map V.str)) (fun i H' => Same H2 H' ∧ ∃ ps, H' D1 = some (.lst (List.map V.ref ps)) ∧ PairsAt K H' ps (dct (zs.take i) ((zeros i).map V.int))) ⟨same_upd nD1, [], upd_same, .nil⟩ (fun i H' _ hP => hP.1.seq (s2.seq sq))
      (fun i x H3' H3 hi hP hY => ?_) (fun H3 hP => ?_)
    · obtain ⟨rfl, hx⟩ := hY
      rw [lenz] at hi
      obtain ⟨sm, ps, hD, hp⟩ := hP
      cases strAt hi hx
      refine ⟨rfl, _, rfl, by show 2 ≤ sizeLine; decide, fun t nt => ⟨_, by rw [upd_ne (ne_of_none hD nt)]; exact hD, smallP hi (lenZ i) hp, ?_⟩⟩
      exact step0 H2 H3 D1 ps i hi nD1 sm hD hp t nt
    obtain ⟨s3, ps1, hD1, hp1⟩ := hP
    rw [lenz, full] at hp1
    refine ⟨D1, ps1, _, rfl, .inl (.inl hD1), hp1, fun dg ndg => ?_⟩
    rw [merge_new nd]
    have s4 := s3.trans (same_upd (o := .dK (dct zs ((zeros zs.length).map V.int))) ndg)
    generalize hH4 : upd H3 dg (.dK (dct zs ((zeros zs.length).map V.int))) = H4 at s4
    have hg4 : H4 dg = some (.dK (dct zs ((zeros zs.length).map V.int))) := by
      rw [← hH4, upd_same]
    have ndgH : H2 dg = none := s3.free ndg
    -- 'fallen'
    refine ⟨.ref nl, rfl, nl, rfl, ⟨_, s4.seq (s2.seq sq)⟩, fun D2 nD2 => ?_⟩
    refine lc_it (walk_list (K := K) (a := nl) (xs := zs.map V.str)) (fun i H' => Same H4 H' ∧ ∃ ps, H' D2 = some (.lst (List.map V.ref ps)) ∧ PairsAt K H' ps (dct (zs.take i) ((zeros i).map V.int))) ⟨same_upd nD2, [], upd_same, .nil⟩ (fun i H' _ hP => hP.1.seq (s4.seq (s2.seq sq)))
      (fun i x H5' H5 hi hP hY => ?_) (fun H5 hP => ?_)
    · obtain ⟨rfl, hx⟩ := hY
      rw [lenz] at hi
      obtain ⟨sm, ps, hD, hp⟩ := hP
      cases strAt hi hx
      refine ⟨rfl, _, rfl, by show 2 ≤ sizeLine; decide, fun t nt => ⟨_, by rw [upd_ne (ne_of_none hD nt)]; exact hD, smallP hi (lenZ i) hp, ?_⟩⟩
      exact step0 H4 H5 D2 ps i hi nD2 sm hD hp t nt
    obtain ⟨s5, ps2, hD2, hp2⟩ := hP
    rw [lenz, full] at hp2
    refine ⟨D2, ps2, _, rfl, .inl (.inl hD2), hp2, fun df ndf => ?_⟩
    rw [merge_new nd]
    have s6 := s5.trans (same_upd (o := .dK (dct zs ((zeros zs.length).map V.int))) ndf)
    generalize hH6 : upd H5 df (.dK (dct zs ((zeros zs.length).map V.int))) = H6 at s6
    have hf6 : H6 df = some (.dK (dct zs ((zeros zs.length).map V.int))) := by
      rw [← hH6, upd_same]
    have ndfH : H4 df = none := s5.free ndf
    -- 'notes'
    have s26 := s4.trans s6
    refine ⟨.ref nl, rfl, nl, rfl, ⟨_, s26.seq (s2.seq sq)⟩, fun D3 nD3 => ?_⟩
    refine lc_it (walk_list (K := K) (a := nl) (xs := zs.map V.str)) (fun i H' => Same H6 H' ∧ ∃ ps rs, H' D3 = some (.lst (List.map V.ref ps)) ∧ rs.length = i ∧ PairsAt K H' ps (dct (zs.take i) (List.map V.ref rs)) ∧ rs.Nodup ∧ (∀ r ∈ rs, H6 r = none ∧ r ≠ D3 ∧ H' r = some (.lst [])))
      ⟨same_upd nD3, [], [], upd_same, rfl, .nil, List.nodup_nil, fun r hr => absurd hr List.not_mem_nil⟩ (fun i H' _ hP => hP.1.seq (s26.seq (s2.seq sq))) (fun i x H7' H7 hi hP hY => ?_) (fun H7 hP => ?_)
    · obtain ⟨rfl, hx⟩ := hY
      rw [lenz] at hi
      obtain ⟨sm, ps, rs, hD, lrs, hp, nrs, hrs⟩ := hP
      cases strAt hi hx
      refine ⟨rfl, _, rfl, Nat.zero_le _, fun e ne => ⟨by show 2 ≤ sizeLine; decide, fun t nt => ?_⟩⟩
      have se := same_upd (o := .lst []) ne
      have hDe := se _ _ hD
      have eD : e ≠ D3 := (ne_of_none hD ne).symm
      have hpe := pairs_kt (kt_same se) hp
      refine ⟨_, by rw [upd_ne (ne_of_none hDe nt)]; exact hDe, smallP hi (by rw [List.length_map, lrs]) hp, ?_⟩
      obtain ⟨a1, a2, a3, a4⟩ := pairs_step (z := zs[i]) (v := .ref e) nD3 (sm.trans se) hDe hpe (by rw [List.length_map, List.length_take, lrs]; omega) nt
      have et : e ≠ t := ne_of_none (upd_same (H := H7)) nt
      refine ⟨a1, ps ++ [t], rs ++ [e], a2, by rw [List.length_append, lrs]; rfl, ?_, ?_, fun r hr => ?_⟩
      · rw [take_succ hi, List.map_append]
        exact a3
      · rw [List.nodup_append]
        refine ⟨nrs, by simp, fun a ha b hb z => ?_⟩
        rw [List.mem_singleton.mp hb] at z
        have := (hrs a ha).2.2
        rw [z, ne] at this
        cases this
      · rcases List.mem_append.mp hr with hr | hr
        · obtain ⟨b1, b2, b3⟩ := hrs r hr
          exact ⟨b1, b2, by rw [upd_ne b2, upd_ne (ne_of_none (se _ _ b3) nt)]; exact se _ _ b3⟩
        · rw [List.mem_singleton.mp hr]
          exact ⟨sm.free ne, eD, by rw [upd_ne eD, upd_ne et, upd_same]⟩
    obtain ⟨s7, ps3, rs, hD3, lrs, hp3, nrs, hrs⟩ := hP
    rw [lenz] at lrs
    rw [lenz, full] at hp3
    refine ⟨D3, ps3, _, rfl, .inl (.inl hD3), hp3, fun dn ndn => ?_⟩
    rw [merge_new nd]
    have s8 := s7.trans (same_upd (o := .dK (dct zs (List.map V.ref rs))) ndn)
    have s28 := s26.trans s8
    refine ⟨s28 _ _ hm2, dct keysM [.ref lo, .ref dg, .ref df, .ref dn], rfl, by show 4 ≤ 15; decide, ?_⟩
    rw [merge_new keysM_nd]
    have hm8 : upd H7 dn (.dK (dct zs (List.map V.ref rs))) m = some (.dK []) := s28 _ _ hm2
    generalize hH8 : upd H7 dn (.dK (dct zs (List.map V.ref rs))) = H8 at s8 s28 hm8
    have hn8 : H8 dn = some (.dK (dct zs (List.map V.ref rs))) := by
      rw [← hH8, upd_same]
    have nH2 : ∀ {b : Addr}, H2 b = none → H b = none := fun {b} h => s2.free h
    have mne : ∀ {b : Addr}, H2 b = none → b ≠ m := fun {b} h => (ne_of_none hm2 h).symm
    have sM : ∀ b o, b ≠ m → H8 b = some o → upd H8 m (.dK (MdA.main ⟨m, lo, dg, df, dn, rs⟩)) b = some o := fun b o n e => by
      rw [upd_ne n]
      exact e
    have dn2 : H2 dn = none := s26.free (s7.free ndn)
    have df2 : H2 df = none := s4.free ndfH
    have rs2 : ∀ r ∈ rs, H2 r = none := fun r hr => s26.free (hrs r hr).1
    have lom : lo ≠ m := fun z => by
      rw [z, hm2] at hl2
      cases hl2
    refine q ⟨m, lo, dg, df, dn, rs⟩ (upd H8 m (.dK (MdA.main ⟨m, lo, dg, df, dn, rs⟩))) (fun b o e => ?_) (fun b hb => ?_) ?_
    · rw [upd_ne (ne_of_none e nm)]
      exact s28 _ _ (s2 _ _ e)
    · rcases hb with h | h | h | h | h | h
      · rw [h]; exact nm
      · rw [h]; exact nloH
      · rw [h]; exact nH2 ndgH
      · rw [h]; exact nH2 df2
      · rw [h]; exact nH2 dn2
      · exact nH2 (rs2 b h)
    · refine ⟨upd_same, sM _ _ lom (s28 _ _ hl2), sM _ _ (mne ndgH) (s8 _ _ (s6 _ _ hg4)), sM _ _ (mne df2) (s8 _ _ hf6), sM _ _ (mne dn2) hn8, fun i r l e1 e2 => ?_, nrs, fun hc => ?_, fun z => ?_, fun z => ?_, mne ndgH, (mne dn2).symm, nd, ?_, ?_, ?_, lrs⟩
      · have hr := List.mem_of_getElem? e1
        have el : l = [] := by
          have e2' : (List.replicate zs.length ([] : List (Str × Int)))[i]? = some l := e2
          rw [List.getElem?_replicate] at e2'
          split at e2'
          · exact (Option.some.inj e2').symm
          · cases e2'
        subst el
        refine ⟨[], sM _ _ (mne (rs2 r hr)) ?_, .nil⟩
        rw [← hH8, upd_ne (ne_of_none (hrs r hr).2.2 ndn)]
        exact (hrs r hr).2.2
      · have := rs2 lo hc
        rw [hl2] at this
        cases this
      · have z' : dg = df := z
        rw [← z', hg4] at ndfH
        cases ndfH
      · have z' : dg = dn := z
        have := s7.free ndn
        rw [← z', s6 _ _ hg4] at this
        cases this
      · unfold newMd zeros
        exact List.length_replicate
      · unfold newMd zeros
        exact List.length_replicate
      · unfold newMd
        exact List.length_replicate
end
end Rc

namespace Rc
open PySem PySem.Spec PyProof.Rows L2 RZ
theorem dget_at {H : Hp} {a : Addr} {zs : List Str} {vs : List V} {j : Nat} {z : Str} {v : V} (h : H a = some (.dK (dct zs vs))) (nd : zs.Nodup) (e1 : zs[j]? = some z) (e2 : vs[j]? = some v) : DGet H a (.str z) (some v) := by
  have := DGet.k (k := Sum.inr z) h
  rw [dct_val nd e1 e2] at this
  exact this
section
variable {K : PySem.W.Frag} {H : Hp} {zs : List Str} {a : MdA} {D : Md}
theorem ModelAt.g0 (h : ModelAt K H zs a D) : DGet H a.m (.str "order") (some (.ref a.lo)) := dget_at (j := 0) h.hm keysM_nd rfl rfl
theorem ModelAt.g1 (h : ModelAt K H zs a D) : DGet H a.m (.str "given") (some (.ref a.dg)) := dget_at (j := 1) h.hm keysM_nd rfl rfl
theorem ModelAt.g2 (h : ModelAt K H zs a D) : DGet H a.m (.str "fallen") (some (.ref a.df)) := dget_at (j := 2) h.hm keysM_nd rfl rfl
theorem ModelAt.g3 (h : ModelAt K H zs a D) : DGet H a.m (.str "notes") (some (.ref a.dn)) := dget_at (j := 3) h.hm keysM_nd rfl rfl
theorem ModelAt.gg (h : ModelAt K H zs a D) {j : Nat} {z : Str} {n : Int} (e : zs[j]? = some z) (e2 : D.given[j]? = some n) : DGet H a.dg (.str z) (some (.int n)) := dget_at h.hg h.zn e (map_get e2)
theorem ModelAt.gf (h : ModelAt K H zs a D) {j : Nat} {z : Str} {n : Int} (e : zs[j]? = some z) (e2 : D.fallen[j]? = some n) : DGet H a.df (.str z) (some (.int n)) := dget_at h.hf h.zn e (map_get e2)
theorem ModelAt.gn (h : ModelAt K H zs a D) {j : Nat} {z : Str} {r : Addr} (e : zs[j]? = some z) (e2 : a.rs[j]? = some r) : DGet H a.dn (.str z) (some (.ref r)) := dget_at h.hn h.zn e (map_get e2)
theorem ModelAt.at_ (h : ModelAt K H zs a D) {j : Nat} {z : Str} (e : zs[j]? = some z) : ∃ g f l r xs, D.given[j]? = some g ∧ D.fallen[j]? = some f ∧ D.notes[j]? = some l ∧ a.rs[j]? = some r ∧ H r = some (.lst xs) ∧ DtAll K H xs (notesD l) := by
  have hj : j < zs.length := (List.getElem?_eq_some_iff.mp e).1
  have h1 : j < D.given.length := by rw [h.lg]; exact hj
  have h2 : j < D.fallen.length := by rw [h.lf]; exact hj
  have h3 : j < D.notes.length := by rw [h.ln]; exact hj
  have h4 : j < a.rs.length := by rw [h.lr]; exact hj
  obtain ⟨xs, e1, e2⟩ := h.rows j _ _ (List.getElem?_eq_getElem h4) (List.getElem?_eq_getElem h3)
  exact ⟨_, _, _, _, xs, List.getElem?_eq_getElem h1, List.getElem?_eq_getElem h2, List.getElem?_eq_getElem h3, List.getElem?_eq_getElem h4, e1, e2⟩
end
theorem min_part (am f : Int) : (if am < f then am else f) = partOf am f := by
  unfold partOf
  split <;> split <;> omega
section
variable {P : Program} {w : World} {K : PySem.W.Frag} {mg : Str → Option Value} {base : Heap}
/-! ### _law_parted -/
abbrev sLPt : Stmt := topS 48
abbrev nLPt : List Str := ["_law_model_here", "_law_who", "_law_gone", "_law_left_here", "_law_rest", "_law_to", "_law_amount_here", "_law_here"]
theorem scLPt : FnScope nLPt ["_law_model_here", "_law_who"] (defScope sLPt) := ⟨rfl, rfl, rfl, by decide +kernel, rfl, by decide +kernel, by decide +kernel⟩
def spLPt (K : PySem.W.Frag) : Sp := fun vs H Q _ => ∃ (a : MdA) (D : Md) (zs : List Str) (z : Str) (j : Nat) (l : List (Str × Int)) (f : Int), vs = [.ref a.m, .str z] ∧ ModelAt K H zs a D ∧ zs[j]? = some z ∧ D.notes[j]? = some l ∧ D.fallen[j]? = some f ∧ l.length ≤ 100 ∧
  ∀ t g m gx mx H', Same H H' → H' t = some (.tup [.ref g, .ref m]) → H g = none → H m = none → H' g = some (.lst gx) → H' m = some (.lst mx) → DtAll K H' gx (notesD (goneN l f)) → DtAll K H' mx (notesD (leftN l f)) → Q (.ref t) H'
theorem rep_if {v : V} (c : Prop) [Decidable c] : (List.replicate (if decide c = true then (1 : Int) else 0).toNat [v]).flatten = if c then [v] else [] := by
  by_cases h : c
  · rw [decide_eq_true h, if_pos h]
    rfl
  · rw [decide_eq_false h, if_neg h]
    rfl
theorem one_note {K : PySem.W.Frag} {H : Hp} {v : V} {n : Str × Int} (c : Prop) [Decidable c] (h : Dt K H v (noteD n)) : DtAll K H (if c then [v] else []) ((if c then [n] else []).map noteD) := by
  by_cases hc : c
  · rw [if_pos hc, if_pos hc]
    exact .cons h .nil
  · rw [if_neg hc, if_neg hc]
    exact .nil
theorem ok_lpt {f : Addr} {fd : FuncData} (F : Fun K "_law_parted" "_law_parted" sLPt f fd) (B : Blt mg) (B2 : Blt2 mg) : FnOk P w K mg base CX0 1 f fd ["_law_model_here", "_law_who"] (spLPt K) := by
  refine F.ok scLPt (fun vs H Q E h => ?_) (fun cdv Ar outer s H vs Q E hr h => ?_)
  · obtain ⟨_, _, _, _, _, _, _, rfl, _⟩ := h
    rfl
  · obtain ⟨a, D, zs, z, j, l, f0, rfl, hM, ej, el, ef, ll, q⟩ := h
    have hu := hu_of hr
    refine ⟨_, pss_cons (ps_par (i := 2) (j := 3) rfl scLPt.nd rfl rfl (by decide) rfl rfl (pa_cons (pe_lst pa_nil) (pa_cons (pe_lst pa_nil) pa_nil)) (by rfl))
      (pss_cons (ps_set (i := 4) scLPt.nd rfl (.inl rfl) (pe_dget hu (pe_dget hu (pv 0) pe_str (fun _ _ => rfl)) (pv 1) (fun _ _ => rfl)))
      (pss_cons (ps_for PassesOwn.never rfl (pi_list (pe_dget hu (pe_dget hu (pv 0) pe_str (fun _ _ => rfl)) (pv 1) (fun _ _ => rfl))) (pg_tup rfl (pgs_cons (pg_name (i := 5) scLPt.nd rfl (.inl rfl)) (pgs_cons (pg_name (i := 6) scLPt.nd rfl (.inl rfl)) pgs_nil)))
        (pss_cons (ps_set (i := 7) scLPt.nd rfl (.inl rfl) (pe_callB (call_min2 rfl) (by rfl) B2.min (by decide +kernel) (pa_cons (pv 4) (pa_cons (pv 6) pa_nil))))
        (pss_cons (ps_set (i := 4) scLPt.nd rfl (.inl rfl) (pe_op op_sub (pv 4) (pv 7)))
        (pss_cons (ps_set (i := 2) scLPt.nd rfl (.inl rfl) (pe_op op_cat (pv 2) (pe_op op_rep (pe_lst (pa_cons (pe_tup (pa_cons (pv 5) (pa_cons (pv 7) pa_nil))) pa_nil)) (pe_callTy call_int1 (by rfl) B.int (by decide +kernel) (pa_cons (pe_cmpR op_gt (pv 7) pe_int (nomark _)) pa_nil)))))
        (pss_one (ps_set (i := 3) scLPt.nd rfl (.inl rfl) (pe_op op_cat (pv 3) (pe_op op_rep (pe_lst (pa_cons (pe_tup (pa_cons (pv 5) (pa_cons (pe_op op_sub (pv 6) (pv 7)) pa_nil))) pa_nil)) (pe_callTy call_int1 (by rfl) B.int (by decide +kernel) (pa_cons (pe_cmpR op_lt (pv 7) (pv 6) (nomark _)) pa_nil))))))))))
      (pss_one (ps_ret (pe_tup (pa_cons (pv 2) (pa_cons (pv 3) pa_nil))))))), ?_⟩
    obtain ⟨gv, f', l', r, xs, eg, ef', el', er, hr0, hd0⟩ := hM.at_ ej
    rw [ef] at ef'
    cases ef'
    rw [el] at el'
    cases el'
    refine ⟨Nat.zero_le _, fun g ng => ⟨Nat.zero_le _, fun m nm => ⟨_, _, rfl, ?_⟩⟩⟩
    have gm : g ≠ m := fun z => by
      rw [← z, upd_same] at nm
      cases nm
    have s0 : Same H (upd (upd H g (.lst [])) m (.lst [])) := (same_upd ng).trans (same_upd nm)
    have nmH : H m = none := (same_upd ng).free nm
    have hM0 := model_same hM s0
    refine ⟨.ref a.m, rfl, a.m, .ref a.df, rfl, hM0.g2, .str z, rfl, a.df, .int f0, rfl, hM0.gf ej ef, ?_⟩
    refine ⟨.ref a.m, rfl, a.m, .ref a.dn, rfl, hM0.g3, .str z, rfl, a.dn, .ref r, rfl, hM0.gn ej er, r, rfl, ⟨_, .inl (.inl (s0 _ _ hr0))⟩, ?_⟩
    refine for_it (walk_list (K := K) (a := r) (xs := xs)) (fun i σ H' => ∃ y5 y6 y7 fi g m gx mx Gs Ms, σ = [some (.ref a.m), some (.str z), some (.ref g), some (.ref m), some (.int fi), y5, y6, y7] ∧ Same H H' ∧ H g = none ∧ H m = none ∧ H' g = some (.lst gx) ∧ H' m = some (.lst mx) ∧
        DtAll K H' gx (notesD Gs) ∧ DtAll K H' mx (notesD Ms) ∧ Gs.length ≤ i ∧ Ms.length ≤ i ∧ Gs ++ goneN (l.drop i) fi = goneN l f0 ∧ Ms ++ leftN (l.drop i) fi = leftN l f0)
      ⟨_, _, _, f0, g, m, [], [], [], [], rfl, s0, ng, nmH, by rw [upd_ne gm, upd_same], upd_same, .nil, .nil, Nat.le_refl _, Nat.le_refl _, rfl, rfl⟩ (fun i σ H' _ hP => ?_) (fun i x σ H1' H1 hi hP hY => ?_) (fun σ H' hP => ?_)
    · obtain ⟨_, _, _, _, _, _, _, _, _, _, _, s1, _⟩ := hP
      exact .inl (.inl (s1 _ _ hr0))
    · obtain ⟨rfl, ex⟩ := hY
      obtain ⟨y5, y6, y7, fi, g, m, gx, mx, Gs, Ms, rfl, s1, ng, nm, hg, hm, dg, dm, lg, lm, eg', em⟩ := hP
      obtain ⟨hil, dn⟩ := (DtAll.same s1 _ hd0).notes_get ex
      obtain ⟨ta, rfl, qt⟩ := note_inv dn
      have ed : l.drop i = l[i] :: l.drop (i + 1) := List.drop_eq_getElem_cons hil
      rw [ed] at eg' em
      obtain ⟨t, am, el1⟩ : ∃ t am, l[i] = (t, am) := ⟨_, _, rfl⟩
      rw [el1] at eg' em qt
      rw [goneN_cons] at eg'
      rw [leftN_cons] at em
      have dgl := dg.len
      have dml := dm.len
      unfold notesD at dgl dml
      rw [List.length_map] at dgl dml
      refine ⟨ta, _, rfl, qt, rfl, _, _, rfl, _, _, rfl, rfl, ?_⟩
      refine ⟨.int fi, rfl, .int am, rfl, _, _, rfl, ?_⟩
      rw [min_part]
      generalize partOf am fi = pt at eg' em
      refine ⟨.int fi, rfl, .int pt, rfl, _, _, rfl, rfl, ?_⟩
      refine ⟨.ref g, rfl, .str t, rfl, .int pt, rfl, by show 2 ≤ sizeLine; decide, fun t1 n1 => ⟨by show 1 ≤ sizeLine; decide, fun l1 nl1 => ?_⟩⟩
      refine ⟨.int pt, rfl, _, _, rfl, rfl, .inr ⟨_, rfl, l1, _, _, rfl, rfl, upd_same, by split <;> decide, by split <;> decide, ?_, fun l2 nl2 => ?_⟩⟩
      · show 1 * _ ≤ sizeLine
        split <;> decide
      rw [rep_if]
      have sA := (same_upd (o := .tup [V.str t, V.int pt]) n1).trans ((same_upd (o := .lst [V.ref t1]) nl1).trans (same_upd (o := .lst (if 0 < pt then [V.ref t1] else [])) nl2))
      generalize hHA : upd (upd (upd H1 t1 (.tup [V.str t, V.int pt])) l1 (.lst [V.ref t1])) l2 (.lst (if 0 < pt then [V.ref t1] else [])) = HA at sA
      have hl2 : HA l2 = some (.lst (if 0 < pt then [V.ref t1] else [])) := by
        rw [← hHA, upd_same]
      have ht1 : HA t1 = some (.tup [V.str t, V.int pt]) := by
        rw [← hHA]
        exact (same_upd nl2) _ _ ((same_upd nl1) _ _ upd_same)
      refine ⟨g, l2, gx, _, rfl, rfl, sA _ _ hg, hl2, ?_, fun g2 ng2 => ?_⟩
      · have : (if 0 < pt then [V.ref t1] else []).length ≤ 1 := by split <;> simp
        exact small_line (by omega)
      have sB := sA.trans (same_upd (o := .lst (gx ++ if 0 < pt then [V.ref t1] else [])) ng2)
      generalize hHB : upd HA g2 (.lst (gx ++ if 0 < pt then [V.ref t1] else [])) = HB at sB
      have hg2 : HB g2 = some (.lst (gx ++ if 0 < pt then [V.ref t1] else [])) := by
        rw [← hHB, upd_same]
      have ht1B : HB t1 = some (.tup [V.str t, V.int pt]) := by
        rw [← hHB]
        exact same_upd ng2 _ _ ht1
      have ng2H : H g2 = none := (s1.trans sA).free ng2
      -- left
      refine ⟨.ref m, rfl, .str t, rfl, .int am, rfl, .int pt, rfl, _, _, rfl, rfl, by show 2 ≤ sizeLine; decide, fun t3 n3 => ⟨by show 1 ≤ sizeLine; decide, fun l3 nl3 => ?_⟩⟩
      refine ⟨.int pt, rfl, .int am, rfl, _, _, rfl, rfl, .inr ⟨_, rfl, l3, _, _, rfl, rfl, upd_same, by split <;> decide, by split <;> decide, ?_, fun l4 nl4 => ?_⟩⟩
      · show 1 * _ ≤ sizeLine
        split <;> decide
      rw [rep_if]
      have sC := (same_upd (o := .tup [V.str t, V.int (am - pt)]) n3).trans ((same_upd (o := .lst [V.ref t3]) nl3).trans (same_upd (o := .lst (if pt < am then [V.ref t3] else [])) nl4))
      generalize hHC : upd (upd (upd HB t3 (.tup [V.str t, V.int (am - pt)])) l3 (.lst [V.ref t3])) l4 (.lst (if pt < am then [V.ref t3] else [])) = HC at sC
      have hl4 : HC l4 = some (.lst (if pt < am then [V.ref t3] else [])) := by
        rw [← hHC, upd_same]
      have ht3 : HC t3 = some (.tup [V.str t, V.int (am - pt)]) := by
        rw [← hHC]
        exact (same_upd nl4) _ _ ((same_upd nl3) _ _ upd_same)
      refine ⟨m, l4, mx, _, rfl, rfl, sC _ _ (sB _ _ hm), hl4, ?_, fun m2 nm2 => ?_⟩
      · have : (if pt < am then [V.ref t3] else []).length ≤ 1 := by split <;> simp
        exact small_line (by omega)
      have sD := sC.trans (same_upd (o := .lst (mx ++ if pt < am then [V.ref t3] else [])) nm2)
      have sE := same_upd (o := .lst (mx ++ if pt < am then [V.ref t3] else [])) nm2
      refine ⟨_, _, _, fi - pt, g2, m2, _, _, Gs ++ (if 0 < pt then [(t, pt)] else []), Ms ++ (if pt < am then [(t, am - pt)] else []), rfl, s1.trans (sB.trans sD), ng2H, ((s1.trans sB).trans sC).free nm2, sD _ _ hg2, upd_same, ?_, ?_, ?_, ?_, by rw [List.append_assoc]; exact eg', by rw [List.append_assoc]; exact em⟩
      · unfold notesD
        rw [List.map_append]
        exact (DtAll.same (sB.trans sD) _ dg).append (one_note _ (.tup (.inl (.inl (sD _ _ ht1B))) (.cons (.str _) (.cons (.int _) .nil))))
      · unfold notesD
        rw [List.map_append]
        exact (DtAll.same (sB.trans sD) _ dm).append (one_note _ (.tup (.inl (.inl (sE _ _ ht3))) (.cons (.str _) (.cons (.int _) .nil))))
      · rw [List.length_append]
        have : (if 0 < pt then [(t, pt)] else []).length ≤ 1 := by split <;> simp
        omega
      · rw [List.length_append]
        have : (if pt < am then [(t, am - pt)] else []).length ≤ 1 := by split <;> simp
        omega
    · obtain ⟨y5, y6, y7, fi, g, m, gx, mx, Gs, Ms, rfl, s1, ng, nm, hg, hm, dg, dm, lg, lm, eg', em⟩ := hP
      have hx : l.drop xs.length = [] := List.drop_of_length_le (by
        have := hd0.len
        unfold notesD at this
        rw [List.length_map] at this
        omega)
      rw [hx] at eg' em
      rw [goneN_nil, List.append_nil] at eg'
      rw [leftN_nil, List.append_nil] at em
      subst eg' em
      refine ⟨.ref g, rfl, .ref m, rfl, by show 2 ≤ sizeLine; decide, fun t nt => ?_⟩
      have st := same_upd (o := .tup [.ref g, .ref m]) nt
      exact q t g m gx mx _ (s1.trans st) upd_same ng nm (st _ _ hg) (st _ _ hm) (DtAll.same st _ dg) (DtAll.same st _ dm)
end
end Rc

namespace Rc
open PySem PySem.Spec PyProof.Rows L2 RZ
/-! ### _law_deeds -/
inductive Deed where
  | give (z : Str) (n : Int)
  | put (z y : Str) (n : Int)
def deedD : Deed → PyData
  | .give z n => .tuple [.str "give", .str z, .int n]
  | .put z y n => .tuple [.str "put", .str z, .str y, .int n]
theorem tup_deed (d : Deed) : tupD (deedD d) = true := by cases d <;> simp [deedD, tupD, tupDs]
def deedsD (l : List Deed) : List PyData := l.map deedD
theorem tup_deeds (l : List Deed) : tupDs (deedsD l) = true := tupDs_map tup_deed l
def Deed.Ok (zs : List Str) : Deed → Prop
  | .give z n => z ∈ zs ∧ Amt n
  | .put z y n => z ∈ zs ∧ y ∈ zs ∧ Amt n
end Rc

namespace Rc
open PySem PySem.Spec PyProof.Rows L2 RZ
def RowsOk (D : Md) : Prop := ∀ l ∈ D.notes, l.length ≤ 60
def sumsD (D : Md) (z : Str) : Int := ((D.notes.zip D.fallen).map fun p => sumTo z (goneN p.1 p.2)).sum
def cashD (D : Md) (j : Nat) (z : Str) : Int := D.given.getD j 0 - D.fallen.getD j 0 + sumsD D z
def bkOf (zs : List Str) (D : Md) : Bk := ⟨zs, D.given, D.notes, D.fallen⟩
theorem cash_eq (zs : List Str) (D : Md) (j : Nat) (z : Str) : cashM (bkOf zs D) j z = cashD D j z := by
  show D.given.getD j 0 + sumsD D z - D.fallen.getD j 0 = D.given.getD j 0 - D.fallen.getD j 0 + sumsD D z
  omega
def doneD (zs : List Str) (D : Md) : Deed → Md
  | .give z n => { D with given := D.given.set (zs.idxOf z) (D.given.getD (zs.idxOf z) 0 + n) }
  | .put z y n => { D with notes := D.notes.set (zs.idxOf z) (D.notes.getD (zs.idxOf z) [] ++ [(y, n)]) }
def stepM (M : Bk) : Deed → Bk
  | .give z n => giveM M (M.names.idxOf z) n
  | .put z y n => putM M (M.names.idxOf z) y n
theorem step_eq (zs : List Str) (D : Md) (d : Deed) : stepM (bkOf zs D) d = bkOf zs (doneD zs D d) := by cases d <;> rfl
theorem idx_get {zs : List Str} {z : Str} (h : z ∈ zs) : zs[zs.idxOf z]? = some z := by
  have hl := List.idxOf_lt_length_of_mem h
  rw [List.getElem?_eq_getElem hl, List.getElem_idxOf]
theorem sum_set : ∀ (l : List (List (Str × Int))) (j : Nat) (x : List (Str × Int)), j < l.length → ((l.set j x).map List.length).sum + (l.getD j []).length = (l.map List.length).sum + x.length
  | [], j, x, h => by simp at h
  | a :: r, 0, x, h => by
    simp only [List.set_cons_zero, List.map_cons, List.sum_cons, List.getD_cons_zero]
    omega
  | a :: r, j + 1, x, h => by
    have := sum_set r j x (by simpa using h)
    simp only [List.set_cons_succ, List.map_cons, List.sum_cons, List.getD_cons_succ]
    omega
theorem step_ok {M : Bk} (ok : M.Ok) {d : Deed} (hd : d.Ok M.names) (hm : manyM M + 1 ≤ 60) : (stepM M d).Ok ∧ manyM (stepM M d) ≤ manyM M + 1 ∧ (stepM M d).names = M.names := by
  cases d with
  | give z n => exact ⟨⟨ok.n0, ok.n1, ok.nd, ok.nm, by show (M.gifts.set _ _).length = _; rw [List.length_set]; exact ok.lg, ok.ls, ok.ld, ok.many⟩, Nat.le_succ _, rfl⟩
  | put z y n =>
    have hj : M.names.idxOf z < M.stacks.length := by
      rw [ok.ls]
      exact List.idxOf_lt_length_of_mem hd.1
    have e : manyM (stepM M (.put z y n)) = manyM M + 1 := by
      have := sum_set M.stacks (M.names.idxOf z) (M.stacks.getD (M.names.idxOf z) [] ++ [(y, n)]) hj
      rw [List.length_append] at this
      show ((M.stacks.set _ _).map List.length).sum = (M.stacks.map List.length).sum + 1
      have e1 : [(y, n)].length = 1 := rfl
      omega
    exact ⟨⟨ok.n0, ok.n1, ok.nd, ok.nm, ok.lg, by show (M.stacks.set _ _).length = _; rw [List.length_set]; exact ok.ls, ok.ld, by show manyM (stepM M (.put z y n)) ≤ 60; omega⟩, Nat.le_of_eq e, rfl⟩
theorem dfold_ok : ∀ (ds : List Deed) {M : Bk}, M.Ok → (∀ d ∈ ds, d.Ok M.names) → manyM M + ds.length ≤ 60 → (ds.foldl stepM M).Ok ∧ manyM (ds.foldl stepM M) ≤ manyM M + ds.length ∧ (ds.foldl stepM M).names = M.names
  | [], M, ok, _, _ => ⟨ok, Nat.le_refl _, rfl⟩
  | d :: ds, M, ok, h, hm => by
    rw [List.length_cons] at hm
    obtain ⟨a1, a2, a3⟩ := step_ok ok (h d List.mem_cons_self) (by omega)
    obtain ⟨b1, b2, b3⟩ := dfold_ok ds a1 (fun e he => by rw [a3]; exact h e (List.mem_cons_of_mem _ he)) (by omega)
    refine ⟨b1, ?_, b3.trans a3⟩
    rw [List.length_cons]
    show manyM (ds.foldl stepM (stepM M d)) ≤ _
    omega
end Rc

namespace Rc
open PySem PySem.Spec PyProof.Rows L2 RZ
section
variable {P : Program} {w : World} {K : PySem.W.Frag} {mg : Str → Option Value} {base : Heap}
/-! ### _law_left -/
abbrev sLLf : Stmt := topS 49
theorem scLLf : FnScope ["_law_model_here", "_law_who"] ["_law_model_here", "_law_who"] (defScope sLLf) := ⟨rfl, rfl, rfl, by decide +kernel, rfl, by decide +kernel, by decide +kernel⟩
def spLLf (K : PySem.W.Frag) : Sp := fun vs H Q _ => ∃ (a : MdA) (D : Md) (zs : List Str) (z : Str) (j : Nat) (l : List (Str × Int)) (f : Int), vs = [.ref a.m, .str z] ∧ ModelAt K H zs a D ∧ zs[j]? = some z ∧ D.notes[j]? = some l ∧ D.fallen[j]? = some f ∧ l.length ≤ 100 ∧
  ∀ m mx H', Same H H' → H m = none → H' m = some (.lst mx) → DtAll K H' mx (notesD (leftN l f)) → Q (.ref m) H'
theorem ok_llf {f fp : Addr} {fd fdp : FuncData} (F : Fun K "_law_left" "_law_left" sLLf f fd) (PT : Has P w K mg base 1 "_law_parted" ["_law_model_here", "_law_who"] (spLPt K) fp fdp) : FnOk P w K mg base CX0 2 f fd ["_law_model_here", "_law_who"] (spLLf K) := by
  refine F.ok scLLf (fun vs H Q E h => ?_) (fun cdv Ar outer s H vs Q E hr h => ?_)
  · obtain ⟨_, _, _, _, _, _, _, rfl, _⟩ := h
    rfl
  · obtain ⟨a, D, zs, z, j, l, f0, rfl, hM, ej, el, ef, ll, q⟩ := h
    refine ⟨_, pss_one (ps_ret (pe_ix ix_tup (pe_call PT.ok hr (by rfl) PT.g PT.kp PT.b .nil pass0 (pa_cons (pv 0) (pa_cons (pv 1) pa_nil))) pe_int (fun _ _ => rfl))), ?_⟩
    refine ⟨.ref a.m, rfl, .str z, rfl, a, D, zs, z, j, l, f0, rfl, hM, ej, el, ef, ll, fun t g m gx mx H1 s1 ht ng nm hg hm dg dm => ?_⟩
    exact ⟨t, _, 1, .ref m, rfl, rfl, .inl (.inl ht), rfl, q m mx H1 s1 nm hm dm⟩
end
end Rc

namespace Rc
open PySem PySem.Spec PyProof.Rows L2 RZ
theorem give_ne_put : ¬ (V.str ("put" : Str)) = V.str ("give" : Str) := fun e => absurd (V.str.inj e) (by decide +kernel)
/-- what a deed changes -/
def MdA.Foot (a : MdA) (b : Addr) : Prop := b = a.dg ∨ b ∈ a.rs
def ButF (a : MdA) (H H' : Hp) : Prop := ∀ b o, ¬ a.Foot b → H b = some o → H' b = some o
theorem ModelAt.nofoot_tup {K : PySem.W.Frag} {H : Hp} {zs : List Str} {a : MdA} {D : Md} (h : ModelAt K H zs a D) {b : Addr} {o : HO} (e : H b = some o) (t : TupO o) : ¬ a.Foot b := fun f => by
  rcases f with f | f
  · rw [f, h.hg] at e
    cases e
    exact t
  · obtain ⟨i, hi, e'⟩ := List.getElem_of_mem f
    have hn : i < D.notes.length := by
      rw [h.ln, ← h.lr]
      exact hi
    obtain ⟨xs, e1, _⟩ := h.rows i b _ (by rw [List.getElem?_eq_getElem hi, e']) (List.getElem?_eq_getElem hn)
    rw [e1] at e
    cases e
    exact t
theorem ButF.kt {K : PySem.W.Frag} {H H' : Hp} {zs : List Str} {a : MdA} {D : Md} (b : ButF a H H') (h : ModelAt K H zs a D) : KT H H' := fun c o e t => b c o (h.nofoot_tup e t) e
theorem ButF.kp {K : PySem.W.Frag} {H H' : Hp} {zs : List Str} {a : MdA} {D : Md} (b : ButF a H H') (h : ModelAt K H zs a D) : Kp H H' := fun c o e t => b c o (fun f => by
  rcases f with f | f
  · rw [f, h.hg] at e
    cases e
    exact t
  · obtain ⟨i, hi, e'⟩ := List.getElem_of_mem f
    have hn : i < D.notes.length := by
      rw [h.ln, ← h.lr]
      exact hi
    obtain ⟨xs, e1, _⟩ := h.rows i c _ (by rw [List.getElem?_eq_getElem hi, e']) (List.getElem?_eq_getElem hn)
    rw [e1] at e
    cases e
    exact t) e
theorem deed_give {K : PySem.W.Frag} {H : Hp} {v : V} {z : Str} {n : Int} (h : Dt K H v (deedD (.give z n))) : Dt K H v (.tuple [.str "give", .str z, .int n]) := h
end Rc

namespace Rc
open PySem PySem.Spec PyProof.Rows L2 RZ
/-! ### data that can be shown -/
structure NiceD (d : PyData) (n : Nat) : Prop where
  sh : d.showable = true
  lv : d.leavesShort 1921 = true
  nd : d.hasDict = false
  dp : d.depth ≤ 5
  bk : d.bulk ≤ n
  cl : d.canLay0 = true
structure NiceA (ds : List PyData) (n : Nat) : Prop where
  sh : PyData.showableAll ds = true
  lv : PyData.leavesShortAll 1921 ds = true
  nd : PyData.hasDictAll ds = false
  dp : PyData.depthAll ds ≤ 4
  bk : PyData.bulkAll ds ≤ n
  cl : PyData.canLayAll0 ds = true
theorem NiceA.nil : NiceA [] 0 := ⟨rfl, rfl, rfl, Nat.zero_le _, Nat.le_refl _, rfl⟩
theorem NiceA.cons {d : PyData} {ds : List PyData} {n m : Nat} (a : NiceD d n) (hd : d.depth ≤ 4) (b : NiceA ds m) : NiceA (d :: ds) (n + 1 + m) := by
  refine ⟨?_, ?_, ?_, ?_, ?_, ?_⟩
  · simp only [PyData.showableAll, a.sh, b.sh, Bool.and_self]
  · simp only [PyData.leavesShortAll, a.lv, b.lv, Bool.and_self]
  · simp only [PyData.hasDictAll, a.nd, b.nd, Bool.or_self]
  · simp only [PyData.depthAll]
    have := b.dp
    omega
  · simp only [PyData.bulkAll]
    have := a.bk
    have := b.bk
    omega
  · simp only [PyData.canLayAll0, a.cl, b.cl, Bool.and_self]
theorem NiceA.list {ds : List PyData} {n : Nat} (a : NiceA ds n) : NiceD (.list ds) n := by
  refine ⟨by simpa only [PyData.showable] using a.sh, by simpa only [PyData.leavesShort] using a.lv, by simpa only [PyData.hasDict] using a.nd, ?_, by simpa only [PyData.bulk] using a.bk, by simpa only [PyData.canLay0] using a.cl⟩
  simp only [PyData.depth]
  have := a.dp
  omega
theorem NiceA.tuple {ds : List PyData} {n : Nat} (a : NiceA ds n) : NiceD (.tuple ds) n := by
  refine ⟨by simpa only [PyData.showable] using a.sh, by simpa only [PyData.leavesShort] using a.lv, by simpa only [PyData.hasDict] using a.nd, ?_, by simpa only [PyData.bulk] using a.bk, by simpa only [PyData.canLay0] using a.cl⟩
  simp only [PyData.depth]
  have := a.dp
  omega
def BigOk (i : Int) : Prop := i.natAbs < 2 ^ 300
theorem nice_int {i : Int} (h : BigOk i) : NiceD (.int i) 0 := by
  have h1 : i.natAbs.log2 < 1920 := Nat.lt_trans (PySem.Flt.log2_lt_of (by decide) h) (by decide)
  refine ⟨?_, ?_, by simp only [PyData.hasDict], by simp only [PyData.depth]; omega, by simp only [PyData.bulk]; omega, by simp only [PyData.canLay0]⟩
  · simp only [PyData.showable]
    exact decide_eq_true h1
  · simp only [PyData.leavesShort, PyData.shown]
    exact decide_eq_true (int_text_len_1921 h1)
theorem abc_lt : ∀ c ∈ abc, c < 128 := by decide +kernel
theorem name_signs {z : Str} (h : nameT z = true) : ∀ c ∈ z.cps.toList, c ∈ abc := by
  unfold nameT at h
  simp only [Bool.and_eq_true, List.all_eq_true, decide_eq_true_eq] at h
  exact h.2
theorem nice_name {z : Str} (h : nameT z = true) : NiceD (.str z) 8 := by
  have hs := name_signs h
  refine ⟨by simp only [PyData.showable], ?_, by simp only [PyData.hasDict], by simp only [PyData.depth]; omega, ?_, ?_⟩
  · simp only [PyData.leavesShort, List.all_eq_true, decide_eq_true_eq]
    exact fun c hc => Nat.lt_trans (abc_lt c (hs c hc)) (by decide)
  · simp only [PyData.bulk]
    exact (nameT_len h).2
  · simp only [PyData.canLay0]
    show z.cps.all (fun c => decide (c < 0x110000)) = true
    rw [← Array.all_toList, List.all_eq_true]
    exact fun c hc => decide_eq_true (Nat.lt_trans (abc_lt c (hs c hc)) (by decide))
theorem nice_names : ∀ {zs : List Str}, (∀ z ∈ zs, nameT z = true) → NiceA (zs.map PyData.str) (9 * zs.length)
  | [], _ => NiceA.nil
  | z :: r, h => by
    have a := nice_name (h z List.mem_cons_self)
    have b := nice_names fun y hy => h y (List.mem_cons_of_mem _ hy)
    have c := NiceA.cons a (by simp only [PyData.depth]; omega) b
    rw [List.map_cons, List.length_cons]
    have e : 9 * (r.length + 1) = 8 + 1 + 9 * r.length := by omega
    rw [e]
    exact c
/-- notes as the law draws them -/
def NoteOk (zs : List Str) (n : Str × Int) : Prop := n.1 ∈ zs ∧ Amt n.2
theorem amt_big {n : Int} (h : Amt n) : BigOk n := by
  have h1 := h.1
  have h2 := h.2
  have e : (10 : Int) ^ 58 < 2 ^ 300 := by decide
  have e2 : ((2 ^ 300 : Nat) : Int) = 2 ^ 300 := by decide
  unfold BigOk
  omega
theorem nice_note {zs : List Str} (hz : ∀ z ∈ zs, nameT z = true) {n : Str × Int} (h : NoteOk zs n) : NiceD (noteD n) 10 ∧ (noteD n).depth ≤ 1 := by
  have a := NiceA.cons (nice_name (hz _ h.1)) (by simp only [PyData.depth]; omega) (NiceA.cons (nice_int (amt_big h.2)) (by simp only [PyData.depth]; omega) NiceA.nil)
  exact ⟨a.tuple, by simp [noteD, PyData.depth, PyData.depthAll]⟩
theorem nice_notes {zs : List Str} (hz : ∀ z ∈ zs, nameT z = true) : ∀ {l : List (Str × Int)}, (∀ n ∈ l, NoteOk zs n) → NiceA (notesD l) (11 * l.length)
  | [], _ => NiceA.nil
  | n :: r, h => by
    obtain ⟨a, hd⟩ := nice_note hz (h n List.mem_cons_self)
    have b := nice_notes hz fun y hy => h y (List.mem_cons_of_mem _ hy)
    have c := NiceA.cons a (by omega) b
    rw [List.length_cons]
    have e : 11 * (r.length + 1) = 10 + 1 + 11 * r.length := by omega
    rw [e]
    exact c
theorem nice_fits {d : PyData} {n : Nat} (h : NiceD d n) (hn : n ≤ 8000) : (∃ i, d = .int i) ∨ d.shown.length ≤ sizeLine := by
  have h1 := PyData.shown_le_bulk 1921 (by decide) d h.lv
  have h2 := h.bk
  refine .inr ?_
  rw [sizeLine_eq]
  have : (1921 + 2) * d.bulk ≤ 1923 * 8000 := Nat.mul_le_mul (Nat.le_refl _) (by omega)
  omega
theorem nice_shaped {d : PyData} {n : Nat} (h : NiceD d n) : SeqAt.shaped d = true := by
  unfold SeqAt.shaped
  rw [h.cl, decide_eq_true (show d.depth ≤ 64 by have := h.dp; omega)]
  rfl
/-! ### where nothing has fallen -/
theorem part_zero {a : Int} (h : 1 ≤ a) : partOf a 0 = 0 := by
  unfold partOf
  rw [if_pos (by omega)]
theorem gone_zero : ∀ {l : List (Str × Int)}, (∀ n ∈ l, 1 ≤ n.2) → goneN l 0 = []
  | [], _ => rfl
  | (t, a) :: r, h => by
    rw [goneN_cons, part_zero (h _ List.mem_cons_self), if_neg (by omega), Int.sub_zero, gone_zero fun n hn => h n (List.mem_cons_of_mem _ hn)]
    rfl
theorem left_zero : ∀ {l : List (Str × Int)}, (∀ n ∈ l, 1 ≤ n.2) → leftN l 0 = l
  | [], _ => rfl
  | (t, a) :: r, h => by
    have ha : 1 ≤ a := h _ List.mem_cons_self
    rw [leftN_cons, part_zero ha, if_pos (by omega), Int.sub_zero, Int.sub_zero, left_zero fun n hn => h n (List.mem_cons_of_mem _ hn)]
    rfl
/-- a model as the law makes it: nothing fallen, k deeds at the most -/
structure Gd (zs : List Str) (D : Md) (k : Nat) : Prop where
  zf : D.fallen = zeros zs.length
  nt : ∀ l ∈ D.notes, ∀ n ∈ l, NoteOk zs n
  gv : ∀ g ∈ D.given, 0 ≤ g ∧ g ≤ (k : Int) * 10 ^ 58
  my : (D.notes.map List.length).sum ≤ k
  k1 : k ≤ 60
theorem Gd.big {zs : List Str} {D : Md} {k : Nat} (h : Gd zs D k) {g : Int} (hg : g ∈ D.given) : BigOk g := by
  obtain ⟨a, b⟩ := h.gv g hg
  have k1 := h.k1
  have e : (60 : Int) * 10 ^ 58 < 2 ^ 300 := by decide
  have e2 : ((2 ^ 300 : Nat) : Int) = 2 ^ 300 := by decide
  have : (k : Int) * 10 ^ 58 ≤ 60 * 10 ^ 58 := Int.mul_le_mul_of_nonneg_right (by omega) (by decide)
  unfold BigOk
  omega
theorem Gd.rows {zs : List Str} {D : Md} {k : Nat} (h : Gd zs D k) : RowsOk D := fun l hl => by
  have := len_le_sum hl
  have := h.my
  have := h.k1
  omega
theorem Gd.sums {zs : List Str} {D : Md} {k : Nat} (h : Gd zs D k) (z : Str) : sumsD D z = 0 := by
  unfold sumsD
  have : ∀ p ∈ D.notes.zip D.fallen, sumTo z (goneN p.1 p.2) = 0 := fun p hp => by
    obtain ⟨h1, h2⟩ := List.of_mem_zip hp
    have e : p.2 = 0 := by
      rw [h.zf] at h2
      exact List.eq_of_mem_replicate h2
    rw [e, gone_zero fun n hn => (h.nt _ h1 n hn).2.1]
    rfl
  generalize D.notes.zip D.fallen = L at this
  induction L with
  | nil => rfl
  | cons a r ih =>
    rw [List.map_cons, List.sum_cons, this a List.mem_cons_self, ih fun p hp => this p (List.mem_cons_of_mem _ hp)]
    rfl
theorem Gd.done {zs : List Str} {D : Md} {k : Nat} (h : Gd zs D k) {d : Deed} (od : d.Ok zs) (hk : k + 1 ≤ 60) (ln : D.notes.length = zs.length) (lg : D.given.length = zs.length) : Gd zs (doneD zs D d) (k + 1) := by
  have mono : ∀ g ∈ D.given, 0 ≤ g ∧ g ≤ ((k + 1 : Nat) : Int) * 10 ^ 58 := fun g hg => by
    obtain ⟨a, b⟩ := h.gv g hg
    refine ⟨a, Int.le_trans b (Int.mul_le_mul_of_nonneg_right (by omega) (by decide))⟩
  cases d with
  | give z n =>
    refine ⟨h.zf, h.nt, fun g hg => ?_, Nat.le_succ_of_le h.my, hk⟩
    rcases List.mem_or_eq_of_mem_set hg with hg | hg
    · exact mono g hg
    · have hj : zs.idxOf z < D.given.length := by
        rw [lg]
        exact List.idxOf_lt_length_of_mem od.1
      obtain ⟨a, b⟩ := h.gv (D.given.getD (zs.idxOf z) 0) (by
        rw [List.getD_eq_getElem?_getD, List.getElem?_eq_getElem hj]
        exact List.getElem_mem hj)
      obtain ⟨n1, n2⟩ := od.2
      have e : ((k + 1 : Nat) : Int) * 10 ^ 58 = (k : Int) * 10 ^ 58 + 10 ^ 58 := by
        rw [Int.natCast_add, Int.add_mul]
        rfl
      rw [hg, e]
      omega
  | put z y n =>
    have hj : zs.idxOf z < D.notes.length := by
      rw [ln]
      exact List.idxOf_lt_length_of_mem od.1
    refine ⟨h.zf, fun l hl m hm => ?_, mono, ?_, hk⟩
    · rcases List.mem_or_eq_of_mem_set hl with hl | hl
      · exact h.nt l hl m hm
      · rw [hl] at hm
        rcases List.mem_append.mp hm with hm | hm
        · refine h.nt (D.notes.getD (zs.idxOf z) []) ?_ m hm
          rw [List.getD_eq_getElem?_getD, List.getElem?_eq_getElem hj]
          exact List.getElem_mem hj
        · rw [List.mem_singleton.mp hm]
          exact od.2
    · have := sum_set D.notes (zs.idxOf z) (D.notes.getD (zs.idxOf z) [] ++ [(y, n)]) hj
      rw [List.length_append] at this
      have e1 : [(y, n)].length = 1 := rfl
      have := h.my
      show ((D.notes.set _ _).map List.length).sum ≤ k + 1
      omega
theorem Gd.new {zs : List Str} : Gd zs (newMd zs.length) 0 := by
  refine ⟨rfl, fun l hl n hn => ?_, fun g hg => ?_, ?_, by decide⟩
  · rw [List.eq_of_mem_replicate hl] at hn
    cases hn
  · rw [List.eq_of_mem_replicate hg]
    exact ⟨Int.le_refl _, by simp⟩
  · show ((List.replicate zs.length ([] : List (Str × Int))).map List.length).sum ≤ 0
    rw [List.map_replicate]
    simp
theorem Gd.ok {zs : List Str} {D : Md} {k : Nat} (h : Gd zs D k) (nz : NamesOk zs) (lg : D.given.length = zs.length) (ln : D.notes.length = zs.length) : (bkOf zs D).Ok := by
  refine ⟨nz.n0, nz.n1, nz.nd, nz.nm, lg, ln, ?_, ?_⟩
  · show D.fallen.length = _
    rw [h.zf]
    exact List.length_replicate
  · have := h.my
    have := h.k1
    show (D.notes.map List.length).sum ≤ 60
    omega
theorem DpAll.strs {K : PySem.W.Frag} {H : Hp} : ∀ zs : List Str, DpAll K H (zs.map V.str) (zs.map PyData.str)
  | [] => .nil
  | z :: r => .cons (.str z) (DpAll.strs r)
end Rc

namespace Rc
open PySem PySem.Spec PyProof.Rows L2 RZ
theorem Pot.ne {H : Hp} {p b : Addr} (h : Pot H p) (n : H b = none) : b ≠ p := by
  obtain ⟨x, y, e, _⟩ := h
  exact (ne_of_none e n).symm
def rListS (K : PySem.W.Frag) : List V → Hp → VK → Prop := fun xs H Q => ∃ p ys, xs = [.ref p] ∧ (SqL K H p ys ∨ SqT K H p ys) ∧ ∀ l, H l = none → Q (.ref l) (upd H l (.lst ys))
theorem call_listS {X : Cx} {K : PySem.W.Frag} (e : X.K = K) : CallR X (.type "list") (rListS K) := by
  subst e
  exact call_list_of
/-- a def that is called, no repr being under way -/
structure HasG (P : Program) (w : World) (K : PySem.W.Frag) (mg : Str → Option Value) (base : Heap) (k : Nat) (nm : Str) (ps : List Str) (sp : Sp) (f : Addr) (fd : FuncData) : Prop where
  ok : FnG P w K mg base CX0 k f fd ps sp
  g : mg nm = some (.ref f)
  kp : PySem.W.keepIn K (.ref f) = true
  b : Binds K fd ps []
mutual
theorem Dt.dp {K : PySem.W.Frag} {H : Hp} : ∀ {v : V} (d : PyData), tupD d = true → Dt K H v d → Dp K H v d
  | _, .none, _, h => by cases h; exact .non
  | _, .bool _, _, h => by cases h; exact .bl _
  | _, .int _, _, h => by cases h; exact .int _
  | _, .str _, _, h => by cases h; exact .str _
  | _, .list ds, t, h => by simp [tupD] at t
  | _, .dict ps, t, h => by simp [tupD] at t
  | _, .tuple ds, t, h => by
    cases h with
    | tup q a => exact .tup q (DtAll.dp ds (by simpa [tupD] using t) a)
theorem DtAll.dp {K : PySem.W.Frag} {H : Hp} : ∀ {vs : List V} (ds : List PyData), tupDs ds = true → DtAll K H vs ds → DpAll K H vs ds
  | _, [], _, h => by cases h; exact .nil
  | _, d :: ds, t, h => by
    cases h with
    | cons a b =>
      have t' : tupD d = true ∧ tupDs ds = true := by simpa [tupDs] using t
      exact .cons (Dt.dp d t'.1 a) (DtAll.dp ds t'.2 b)
end
theorem tup_key (M : Bk) : tupD (keyD M) = true := by
  have h1 := tup_strs M.names
  have h2 := tup_ints M.gifts
  have h3 := tup_stacks M.stacks
  have h4 := tup_ints M.drops
  unfold keyD
  simp only [tupD, tupDs] at *
  simp [h1, h2, h3, h4]
theorem lay_map {α : Type} {f : α → PyData} : ∀ {l : List α}, (∀ x ∈ l, (f x).canLay0 = true) → PyData.canLayAll0 (l.map f) = true
  | [], _ => rfl
  | x :: r, h => by
    rw [List.map_cons]
    simp only [PyData.canLayAll0, h x List.mem_cons_self, lay_map fun y hy => h y (List.mem_cons_of_mem _ hy), Bool.and_self]
theorem dep_map {α : Type} {f : α → PyData} {n : Nat} : ∀ {l : List α}, (∀ x ∈ l, (f x).depth ≤ n) → PyData.depthAll (l.map f) ≤ n
  | [], _ => Nat.zero_le _
  | x :: r, h => by
    rw [List.map_cons]
    simp only [PyData.depthAll]
    have h1 := h x List.mem_cons_self
    have h2 := dep_map (f := f) fun y hy => h y (List.mem_cons_of_mem _ hy)
    omega
def KeyOk (M : Bk) : Prop := SeqAt.shaped (keyD M) = true
theorem Gd.key {zs : List Str} {D : Md} {k : Nat} (h : Gd zs D k) (nz : NamesOk zs) : KeyOk (bkOf zs D) := by
  have ln : ∀ n : Str × Int, (noteD n).depth = 1 := fun n => by simp [noteD, PyData.depth, PyData.depthAll]
  have ls : ∀ l, (stackD l).depth ≤ 2 := fun l => by
    unfold stackD notesD
    simp only [PyData.depth]
    have := dep_map (f := noteD) (n := 1) (l := l) fun n _ => Nat.le_of_eq (ln n)
    omega
  have c1 : PyData.canLayAll0 (zs.map .str) = true := (nice_names nz.nm).cl
  have c2 : ∀ l : List Int, PyData.canLayAll0 (l.map .int) = true := fun l => lay_map fun x _ => by simp only [PyData.canLay0]
  have c3 : PyData.canLayAll0 (D.notes.map stackD) = true := lay_map fun l hl => by
    unfold stackD
    simp only [PyData.canLay0]
    exact (nice_notes nz.nm (h.nt l hl)).cl
  unfold KeyOk SeqAt.shaped
  have ec : (keyD (bkOf zs D)).canLay0 = true := by
    show (PyData.tuple [.tuple (zs.map .str), .tuple (D.given.map .int), .tuple (D.notes.map stackD), .tuple (D.fallen.map .int)]).canLay0 = true
    simp only [PyData.canLay0, PyData.canLayAll0, c1, c2, c3, Bool.and_self]
  have ed : (keyD (bkOf zs D)).depth ≤ 64 := by
    show (PyData.tuple [.tuple (zs.map .str), .tuple (D.given.map .int), .tuple (D.notes.map stackD), .tuple (D.fallen.map .int)]).depth ≤ 64
    simp only [PyData.depth, PyData.depthAll]
    have d1 := dep_map (f := PyData.str) (n := 0) (l := zs) fun _ _ => by simp only [PyData.depth]; omega
    have d2 := dep_map (f := PyData.int) (n := 0) (l := D.given) fun _ _ => by simp only [PyData.depth]; omega
    have d3 := dep_map (f := stackD) (n := 2) (l := D.notes) fun l _ => ls l
    have d4 := dep_map (f := PyData.int) (n := 0) (l := D.fallen) fun _ _ => by simp only [PyData.depth]; omega
    omega
  rw [ec, decide_eq_true ed]
  rfl
/-- an elder book and its key -/
def Elder (K : PySem.W.Frag) (C : Addr) (H : Hp) (v : V) : Prop := ∃ t b M kv, v = .ref t ∧ SqT K H t [.ref b, kv] ∧ BookAt K C H b M ∧ KeyOk M ∧ Dt K H kv (keyD M)
theorem Elder.keep {K : PySem.W.Frag} {C : Addr} {H H' : Hp} {v : V} (h : Elder K C H v) (k : Kp H H') : Elder K C H' v := by
  obtain ⟨t, b, M, kv, rfl, q, hb, ko, dk⟩ := h
  refine ⟨t, b, M, kv, rfl, ?_, hb.keep k, ko, Dt.keep k _ (tup_key M) dk⟩
  rcases q with (q | ⟨o, q⟩) | q
  · exact .inl (.inl (k _ _ q trivial))
  · exact .inl (.inr ⟨o, k _ _ q trivial⟩)
  · exact .inr q
theorem But.kpP {p : Addr} {H H' : Hp} (b : But p H H') (hp : Pot H p) : Kp H H' := by
  obtain ⟨x, y, e, _⟩ := hp
  exact b.kp e
theorem kp_same {H H' : Hp} (s : Same H H') : Kp H H' := fun b o e _ => s b o e
theorem mem_cut {xs : List V} {lo hi : Option Int} {v : V} (h : v ∈ cutV xs lo hi) : v ∈ xs := by
  unfold cutV at h
  exact List.mem_of_mem_drop (List.mem_of_mem_take h)
theorem op_eqS {X : Cx} {K : PySem.W.Frag} (e : X.K = K) (hu : X.A.units + 64 < cLine) : OpR X (compareOp .Eq) (rEqD K) := by
  subst e
  exact op_eqD hu
theorem len_zero : ∀ (L : List (List (Str × Int) × Int)), (∀ p ∈ L, p.2 = 0 ∧ ∀ n ∈ p.1, 1 ≤ n.2) → (L.flatMap fun p => leftN p.1 p.2).length = (L.map fun p => p.1.length).sum
  | [], _ => rfl
  | p :: r, h => by
    obtain ⟨e, hn⟩ := h p List.mem_cons_self
    have ih := len_zero r fun q hq => h q (List.mem_cons_of_mem _ hq)
    rw [List.flatMap_cons, List.length_append, ih, e, left_zero hn]
    rfl
theorem Gd.len {zs : List Str} {D : Md} {k : Nat} (h : Gd zs D k) (ln : D.notes.length = zs.length) : lenM (bkOf zs D) = (D.notes.map List.length).sum := by
  show (((D.notes.zip D.fallen).take zs.length).flatMap fun p => leftN p.1 p.2).length = _
  have lf : D.fallen.length = zs.length := by
    rw [h.zf]
    exact List.length_replicate
  rw [List.take_of_length_le (by rw [List.length_zip]; omega), len_zero _ fun p hp => ?_]
  · have : (D.notes.zip D.fallen).map (fun p => p.1.length) = ((D.notes.zip D.fallen).map Prod.fst).map List.length := by
      rw [List.map_map]
      rfl
    rw [this, List.map_fst_zip (by omega)]
  · obtain ⟨h1, h2⟩ := List.of_mem_zip hp
    rw [h.zf] at h2
    exact ⟨List.eq_of_mem_replicate h2, fun n hn => (h.nt _ h1 n hn).2.1⟩
/-- the model behind some deeds -/
def mdAt (zs : List Str) (ds : List Deed) : Md := ds.foldl (doneD zs) (newMd zs.length)
theorem done_lens (zs : List Str) (D : Md) (d : Deed) : (doneD zs D d).given.length = D.given.length ∧ (doneD zs D d).notes.length = D.notes.length := by
  cases d with
  | give z n => exact ⟨List.length_set, rfl⟩
  | put z y n => exact ⟨rfl, List.length_set⟩
theorem md_good (zs : List Str) : ∀ (ds : List Deed), (∀ d ∈ ds, d.Ok zs) → ds.length ≤ 60 → ∀ (D : Md) (k : Nat), Gd zs D k → D.given.length = zs.length → D.notes.length = zs.length → k + ds.length ≤ 60 →
    Gd zs (ds.foldl (doneD zs) D) (k + ds.length)
  | [], _, _, D, k, g, _, _, _ => g
  | d :: ds, h, hl, D, k, g, lg, ln, hk => by
    rw [List.length_cons] at hl hk
    obtain ⟨a, b⟩ := done_lens zs D d
    have := md_good zs ds (fun e he => h e (List.mem_cons_of_mem _ he)) (by omega) (doneD zs D d) (k + 1) (g.done (h d List.mem_cons_self) (by omega) ln lg) (by rw [a, lg]) (by rw [b, ln]) (by omega)
    rw [List.length_cons, Nat.add_comm ds.length 1, ← Nat.add_assoc]
    exact this
theorem md_at_good {zs : List Str} {ds : List Deed} (h : ∀ d ∈ ds, d.Ok zs) (hl : ds.length ≤ 60) : Gd zs (mdAt zs ds) ds.length := by
  have := md_good zs ds h hl (newMd zs.length) 0 Gd.new List.length_replicate List.length_replicate (by omega)
  rw [Nat.zero_add] at this
  exact this
end Rc

namespace Rc
open PySem PySem.Spec PyProof.Rows L2 RZ
theorem md_ext {A B : Md} (h1 : A.given = B.given) (h2 : A.fallen = B.fallen) (h3 : A.notes = B.notes) : A = B := by
  cases A
  cases B
  cases h1
  cases h2
  cases h3
  rfl
section
variable {K : PySem.W.Frag} {H : Hp} {zs : List Str} {a : MdA} {D : Md}
theorem ModelAt.row_some (h : ModelAt K H zs a D) {r : Addr} (m : r ∈ a.rs) : ∃ xs, H r = some (.lst xs) := by
  obtain ⟨i, hi, e'⟩ := List.getElem_of_mem m
  have hn : i < D.notes.length := by
    rw [h.ln, ← h.lr]
    exact hi
  obtain ⟨xs, e1, _⟩ := h.rows i r _ (by rw [List.getElem?_eq_getElem hi, e']) (List.getElem?_eq_getElem hn)
  exact ⟨xs, e1⟩
theorem ModelAt.nofoot (h : ModelAt K H zs a D) {c : Addr} (hc : H c = none) : ¬ a.Foot c := fun f => by
  rcases f with f | f
  · rw [f, h.hg] at hc
    cases hc
  · obtain ⟨xs, e⟩ := h.row_some f
    rw [hc] at e
    cases e
theorem MdA.Foot.has {b : Addr} (h : a.Foot b) : a.Has b := h.elim (fun e => .inr (.inr (.inl e))) (fun e => .inr (.inr (.inr (.inr (.inr e)))))
/-- another sum given -/
theorem ModelAt.setG (hM : ModelAt K H zs a D) {j : Nat} (g : Int) : ModelAt K (upd H a.dg (.dK (dct zs ((D.given.set j g).map V.int)))) zs a { D with given := D.given.set j g } := by
  have bf' : ButF a H (upd H a.dg (.dK (dct zs ((D.given.set j g).map V.int)))) := fun b o nf e => by
    rw [upd_ne (fun z => nf (.inl z))]
    exact e
  have rne : ∀ r ∈ a.rs, r ≠ a.dg := fun r hr z => by
    obtain ⟨xs, e1⟩ := hM.row_some hr
    rw [z, hM.hg] at e1
    cases e1
  have lone : a.lo ≠ a.dg := fun z => by
    have := hM.ho
    rw [z, hM.hg] at this
    cases this
  refine ⟨?_, ?_, ?_, ?_, ?_, fun i r l e1 e2 => ?_, hM.nd, hM.olo, hM.ogf, hM.ogn, hM.ogm, hM.omn, hM.zn, ?_, hM.lf, hM.ln, hM.lr⟩
  · rw [upd_ne hM.ogm.symm]
    exact hM.hm
  · rw [upd_ne lone]
    exact hM.ho
  · rw [upd_same]
  · rw [upd_ne hM.ogf.symm]
    exact hM.hf
  · rw [upd_ne hM.ogn.symm]
    exact hM.hn
  · obtain ⟨xs, e3, d3⟩ := hM.rows i r l e1 e2
    refine ⟨xs, ?_, DtAll.keepT (bf'.kt hM) _ (tup_notes l) d3⟩
    rw [upd_ne (rne r (List.mem_of_getElem? e1))]
    exact e3
  · show (D.given.set _ _).length = _
    rw [List.length_set]
    exact hM.lg
theorem nodup_set {α : Type} : ∀ {l : List α} {j : Nat} {r : α}, l.Nodup → r ∉ l → (l.set j r).Nodup
  | [], _, _, nd, _ => nd
  | x :: t, 0, r, nd, n => List.nodup_cons.mpr ⟨fun h => n (List.mem_cons_of_mem _ h), (List.nodup_cons.mp nd).2⟩
  | x :: t, j + 1, r, nd, n => by
    obtain ⟨h1, h2⟩ := List.nodup_cons.mp nd
    refine List.nodup_cons.mpr ⟨fun h => ?_, nodup_set h2 fun h => n (List.mem_cons_of_mem _ h)⟩
    rcases List.mem_or_eq_of_mem_set h with h | h
    · exact h1 h
    · exact n (by rw [h]; exact List.mem_cons_self)
theorem ModelAt.ofn (h : ModelAt K H zs a D) (n0 : 1 ≤ zs.length) : a.df ≠ a.dn := fun z => by
  have e := h.hf
  rw [z, h.hn] at e
  have e1 : dct zs (a.rs.map V.ref) = dct zs (D.fallen.map V.int) := HO.dK.inj (Option.some.inj e)
  have l1 := h.lr
  have l2 := h.lf
  match zs, a.rs, D.fallen, n0, l1, l2, e1 with
  | z :: r, x :: t, y :: u, _, _, _, e1 => 
    rw [List.map_cons, List.map_cons, dct_cons, dct_cons] at e1
    cases e1
/-- another row of notes -/
theorem ModelAt.setN (hM : ModelAt K H zs a D) {j : Nat} {r : Addr} {xs : List V} {l : List (Str × Int)} (hr : H r = some (.lst xs)) (hd : DtAll K H xs (notesD l)) (nr : r ∉ a.rs) (nlo : a.lo ≠ r) (n0 : 1 ≤ zs.length) :
    ModelAt K (upd H a.dn (.dK (dct zs ((a.rs.set j r).map V.ref)))) zs { a with rs := a.rs.set j r } { D with notes := D.notes.set j l } := by
  have kt : KT H (upd H a.dn (.dK (dct zs ((a.rs.set j r).map V.ref)))) := kt_upd hM.hn fun z => z
  have lne : ∀ {c : Addr} {ys : List V}, H c = some (.lst ys) → c ≠ a.dn := fun {c ys} e z => by
    rw [z, hM.hn] at e
    cases e
  refine ⟨?_, ?_, ?_, ?_, ?_, fun i r' l' e1 e2 => ?_, nodup_set hM.nd nr, fun m => ?_, hM.ogf, hM.ogn, hM.ogm, hM.omn, hM.zn, hM.lg, hM.lf, ?_, ?_⟩
  · show upd H a.dn _ a.m = _
    rw [upd_ne hM.omn]
    exact hM.hm
  · show upd H a.dn _ a.lo = _
    rw [upd_ne (lne hM.ho)]
    exact hM.ho
  · show upd H a.dn _ a.dg = _
    rw [upd_ne hM.ogn]
    exact hM.hg
  · show upd H a.dn _ a.df = _
    rw [upd_ne (hM.ofn n0)]
    exact hM.hf
  · exact upd_same
  · have e1' : (a.rs.set j r)[i]? = some r' := e1
    have e2' : (D.notes.set j l)[i]? = some l' := e2
    by_cases hij : j = i
    · subst hij
      obtain ⟨h1, k1⟩ := List.getElem?_eq_some_iff.mp e1'
      obtain ⟨h2, k2⟩ := List.getElem?_eq_some_iff.mp e2'
      rw [List.getElem_set_self] at k1 k2
      subst k1 k2
      refine ⟨xs, ?_, DtAll.keepT kt _ (tup_notes _) hd⟩
      show upd H a.dn _ _ = _
      rw [upd_ne (lne hr)]
      exact hr
    · rw [List.getElem?_set_ne hij] at e1' e2'
      obtain ⟨ys, e3, d3⟩ := hM.rows i r' l' e1' e2'
      refine ⟨ys, ?_, DtAll.keepT kt _ (tup_notes _) d3⟩
      show upd H a.dn _ _ = _
      rw [upd_ne (lne e3)]
      exact e3
  · have m' : a.lo ∈ a.rs.set j r := m
    rcases List.mem_or_eq_of_mem_set m' with m' | m'
    · exact hM.olo m'
    · exact nlo m'
  · show (D.notes.set _ _).length = _
    rw [List.length_set]
    exact hM.ln
  · show (a.rs.set _ _).length = _
    rw [List.length_set]
    exact hM.lr
end
end Rc

namespace Rc
open PySem PySem.Spec PyProof.Rows L2 RZ
/-! ### trails -/
def trailF (nx : Str → Option Str) : Nat → List Str → Option Str → List Str
  | 0, acc, _ => acc
  | _ + 1, acc, none => acc
  | k + 1, acc, some y => if y ∈ acc then acc else trailF nx k (acc ++ [y]) (nx y)
theorem trailF_none (nx : Str → Option Str) (k : Nat) (acc : List Str) : trailF nx k acc none = acc := by cases k <;> rfl
theorem trailF_in {nx : Str → Option Str} {k : Nat} {acc : List Str} {y : Str} (h : y ∈ acc) : trailF nx k acc (some y) = acc := by
  cases k with
  | zero => rfl
  | succ k =>
    simp only [trailF]
    rw [if_pos h]
theorem trailF_out {nx : Str → Option Str} {k : Nat} {acc : List Str} {y : Str} (h : y ∉ acc) : trailF nx (k + 1) acc (some y) = trailF nx k (acc ++ [y]) (nx y) := by
  simp only [trailF]
  rw [if_neg h]
def trailM (zs : List Str) (nx : Str → Option Str) (z : Str) : List Str := trailF nx zs.length [z] (nx z)
/-- a walk under way -/
structure TrailAt (zs : List Str) (nx : Str → Option Str) (z : Str) (k : Nat) (acc : List Str) (d : Option Str) : Prop where
  fin : trailF nx k acc d = trailM zs nx z
  nd : acc.Nodup
  sub : ∀ y ∈ acc, y ∈ zs
  len : zs.length ≤ acc.length + k
  last : ∃ ini y, acc = ini ++ [y] ∧ d = nx y
  first : ∃ r, acc = z :: r
def Leads (zs : List Str) (nx : Str → Option Str) : Prop := ∀ y x, nx y = some x → x ∈ zs
theorem TrailAt.start {zs : List Str} {nx : Str → Option Str} {z : Str} (h : z ∈ zs) : TrailAt zs nx z zs.length [z] (nx z) :=
  ⟨rfl, by simp, fun y hy => by rw [List.mem_singleton.mp hy]; exact h, by simp, ⟨[], z, rfl, rfl⟩, ⟨[], rfl⟩⟩
theorem TrailAt.step {zs : List Str} {nx : Str → Option Str} {z : Str} {k : Nat} {acc : List Str} {y : Str} (t : TrailAt zs nx z k acc (some y)) (c : Leads zs nx) (h : y ∉ acc) : ∃ k', k = k' + 1 ∧ TrailAt zs nx z k' (acc ++ [y]) (nx y) := by
  have hy : y ∈ zs := by
    obtain ⟨_, x, _, e⟩ := t.last
    exact c x y e.symm
  have nd : (acc ++ [y]).Nodup := by
    rw [List.nodup_append]
    refine ⟨t.nd, by simp, fun a ha b hb e => ?_⟩
    rw [List.mem_singleton.mp hb] at e
    exact h (e ▸ ha)
  have sub : ∀ x ∈ acc ++ [y], x ∈ zs := fun x hx => by
    rcases List.mem_append.mp hx with hx | hx
    · exact t.sub x hx
    · rw [List.mem_singleton.mp hx]
      exact hy
  have ll := nodup_le _ _ nd sub
  rw [List.length_append] at ll
  have l1 : [y].length = 1 := rfl
  have tl := t.len
  cases k with
  | zero => omega
  | succ k =>
    refine ⟨k, rfl, ?_, nd, sub, by rw [List.length_append]; omega, ⟨acc, y, rfl, rfl⟩, ?_⟩
    · rw [← t.fin, trailF_out h]
    · obtain ⟨r, e⟩ := t.first
      exact ⟨r ++ [y], by rw [e]; rfl⟩
theorem TrailAt.stopN {zs : List Str} {nx : Str → Option Str} {z : Str} {k : Nat} {acc : List Str} (t : TrailAt zs nx z k acc none) : acc = trailM zs nx z := by
  rw [← t.fin, trailF_none]
theorem TrailAt.stopI {zs : List Str} {nx : Str → Option Str} {z : Str} {k : Nat} {acc : List Str} {y : Str} (t : TrailAt zs nx z k acc (some y)) (h : y ∈ acc) : acc = trailM zs nx z := by
  rw [← t.fin, trailF_in h]
/-- where a walk has ended -/
structure Ended (zs : List Str) (nx : Str → Option Str) (z : Str) (d : Option Str) : Prop where
  nd : (trailM zs nx z).Nodup
  sub : ∀ y ∈ trailM zs nx z, y ∈ zs
  last : ∃ ini y, trailM zs nx z = ini ++ [y] ∧ d = nx y
  first : ∃ r, trailM zs nx z = z :: r
  back : ∀ y, d = some y → y ∈ trailM zs nx z
theorem TrailAt.ended {zs : List Str} {nx : Str → Option Str} {z : Str} {k : Nat} {acc : List Str} {d : Option Str} (t : TrailAt zs nx z k acc d) (h : d = none ∨ ∃ y, d = some y ∧ y ∈ acc) : acc = trailM zs nx z ∧ Ended zs nx z d := by
  have e : acc = trailM zs nx z := by
    rcases h with rfl | ⟨y, rfl, h⟩
    · exact t.stopN
    · exact t.stopI h
  refine ⟨e, ?_⟩
  refine ⟨by rw [← e]; exact t.nd, by rw [← e]; exact t.sub, by rw [← e]; exact t.last, by rw [← e]; exact t.first, fun y hy => ?_⟩
  rw [← e]
  rcases h with rfl | ⟨x, rfl, h⟩
  · cases hy
  · cases hy
    exact h
theorem walk_ends {zs : List Str} {nx : Str → Option Str} {z : Str} (c : Leads zs nx) : ∀ (k : Nat) (acc : List Str) (d : Option Str), TrailAt zs nx z k acc d → ∃ d', Ended zs nx z d' := fun k => by
  induction k with
  | zero =>
    intro acc d t
    cases d with
    | none => exact ⟨_, (t.ended (.inl rfl)).2⟩
    | some y =>
      by_cases h : y ∈ acc
      · exact ⟨_, (t.ended (.inr ⟨y, rfl, h⟩)).2⟩
      · obtain ⟨k', e, _⟩ := t.step c h
        cases e
  | succ k ih =>
    intro acc d t
    cases d with
    | none => exact ⟨_, (t.ended (.inl rfl)).2⟩
    | some y =>
      by_cases h : y ∈ acc
      · exact ⟨_, (t.ended (.inr ⟨y, rfl, h⟩)).2⟩
      · obtain ⟨k', e, t'⟩ := t.step c h
        cases e
        exact ih _ _ t'
/-- the last person of the trail, and what is due of it -/
def lastM (zs : List Str) (nx : Str → Option Str) (z : Str) : Str := (trailM zs nx z).getLastD z
theorem lastM_eq {zs : List Str} {nx : Str → Option Str} {z y : Str} {ini : List Str} (h : trailM zs nx z = ini ++ [y]) : lastM zs nx z = y := by
  unfold lastM
  rw [h]
  simp
theorem trail_ended {zs : List Str} {nx : Str → Option Str} {z : Str} (c : Leads zs nx) (h : z ∈ zs) : Ended zs nx z (nx (lastM zs nx z)) := by
  obtain ⟨d, e⟩ := walk_ends c _ _ _ (TrailAt.start (nx := nx) h)
  obtain ⟨ini, y, e1, e2⟩ := e.last
  rw [lastM_eq e1, ← e2]
  exact e
theorem Ended.det {zs : List Str} {nx : Str → Option Str} {z : Str} {d : Option Str} (e : Ended zs nx z d) : d = nx (lastM zs nx z) := by
  obtain ⟨ini, y, e1, e2⟩ := e.last
  rw [lastM_eq e1, e2]
/-! ### rings -/
def firstM (zs T : List Str) : Str := (zs.find? fun x => decide (x ∈ T)).getD Str.empty
def ringM (zs : List Str) (nx : Str → Option Str) (z : Str) : Option (List Str) :=
  if nx (lastM zs nx z) = some z then
    some ((trailM zs nx z).drop ((trailM zs nx z).idxOf (firstM zs (trailM zs nx z))) ++ (trailM zs nx z).take ((trailM zs nx z).idxOf (firstM zs (trailM zs nx z))))
  else none
/-- at whom the trail ends -/
def endM (zs : List Str) (nx : Str → Option Str) (z : Str) : Option Str := if nx (lastM zs nx z) = none then some (lastM zs nx z) else none
theorem find_some {zs T : List Str} {z : Str} (h1 : z ∈ zs) (h2 : z ∈ T) : ∃ f r, (zs.filter fun x => decide (x ∈ T)) = f :: r ∧ firstM zs T = f ∧ f ∈ T ∧ f ∈ zs := by
  have hm : z ∈ zs.filter fun x => decide (x ∈ T) := List.mem_filter.mpr ⟨h1, decide_eq_true h2⟩
  cases e : zs.filter fun x => decide (x ∈ T) with
  | nil =>
    rw [e] at hm
    cases hm
  | cons f r =>
    have hf : f ∈ zs.filter fun x => decide (x ∈ T) := by
      rw [e]
      exact List.mem_cons_self
    obtain ⟨a, b⟩ := List.mem_filter.mp hf
    refine ⟨f, r, rfl, ?_, of_decide_eq_true b, a⟩
    unfold firstM
    rw [← List.head?_filter, e]
    rfl
/-- the first by its least place -/
theorem first_min {zs T : List Str} {m : Nat} {z : Str} (nd : zs.Nodup) (hz : zs[m]? = some z) (hT : z ∈ T) (hm : ∀ y ∈ T, m ≤ zs.idxOf y) : firstM zs T = z := by
  unfold firstM
  have hl : m < zs.length := (List.getElem?_eq_some_iff.mp hz).1
  have ez : zs[m] = z := (List.getElem?_eq_some_iff.mp hz).2
  have e : zs.find? (fun x => decide (x ∈ T)) = some z := by
    rw [List.find?_eq_some_iff_getElem]
    refine ⟨decide_eq_true hT, m, hl, ez, fun j hj => ?_⟩
    have hjl : j < zs.length := by omega
    have : ¬ zs[j] ∈ T := fun c => by
      have h1 := hm _ c
      rw [nd.idxOf_getElem j hjl] at h1
      omega
    simp [this]
  rw [e]
  rfl
/-! ### due notes -/
def dueD : Option (Str × Int) → PyData
  | none => .none
  | some n => noteD n
theorem tup_due (o : Option (Str × Int)) : tupD (dueD o) = true := by
  cases o with
  | none => rfl
  | some n => exact tup_note n
def duesM (M : Bk) : List (Option (Str × Int)) := (M.stacks.zip M.drops).map fun p => (leftN p.1 p.2).head?
def nxOf (zs : List Str) (os : List (Option (Str × Int))) (y : Str) : Option Str := (os.getD (zs.idxOf y) none).map (·.1)
def nxV : Option Str → V
  | none => .non
  | some y => .str y
theorem nxV_non {o : Option Str} : nxV o = .non ↔ o = none := by
  cases o with
  | none => simp [nxV]
  | some y => simp [nxV]
theorem leftN_to : ∀ {l : List (Str × Int)} {f : Int} {n : Str × Int}, n ∈ leftN l f → ∃ a, (n.1, a) ∈ l
  | [], _, _, h => by cases h
  | (t, a) :: r, f, n, h => by
    rw [leftN_cons] at h
    rcases List.mem_append.mp h with h | h
    · split at h
      · rw [List.mem_singleton.mp h]
        exact ⟨a, List.mem_cons_self⟩
      · cases h
    · obtain ⟨b, hb⟩ := leftN_to h
      exact ⟨b, List.mem_cons_of_mem _ hb⟩
def Closed (M : Bk) : Prop := ∀ l ∈ M.stacks, ∀ n ∈ l, n.1 ∈ M.names
theorem dues_at {M : Bk} {j : Nat} {l : List (Str × Int)} {f : Int} (h1 : M.stacks[j]? = some l) (h2 : M.drops[j]? = some f) : (duesM M)[j]? = some (leftN l f).head? := by
  unfold duesM
  rw [List.getElem?_map, List.getElem?_zip_eq_some (z := (l, f)) |>.mpr ⟨h1, h2⟩]
  rfl
theorem dues_mem {M : Bk} {n : Str × Int} (h : some n ∈ duesM M) : ∃ l f, l ∈ M.stacks ∧ f ∈ M.drops ∧ n ∈ leftN l f := by
  unfold duesM at h
  obtain ⟨p, hp, e⟩ := List.mem_map.mp h
  obtain ⟨h1, h2⟩ := List.of_mem_zip hp
  exact ⟨p.1, p.2, h1, h2, List.mem_of_head? e⟩
theorem getD_mem {α : Type} {l : List (Option α)} {j : Nat} {x : α} (h : l.getD j none = some x) : some x ∈ l := by
  rw [List.getD_eq_getElem?_getD] at h
  cases e : l[j]? with
  | none =>
    rw [e] at h
    cases h
  | some y =>
    rw [e] at h
    have h' : y = some x := h
    rw [← h']
    exact List.mem_of_getElem? e
theorem Closed.leads {M : Bk} (c : Closed M) : Leads M.names (nxOf M.names (duesM M)) := fun y x h => by
  unfold nxOf at h
  obtain ⟨n, e1, e2⟩ := Option.map_eq_some_iff.mp h
  obtain ⟨l, f, hl, hf, hn⟩ := dues_mem (getD_mem e1)
  obtain ⟨a, ha⟩ := leftN_to hn
  rw [← e2]
  exact c l hl (n.1, a) ha
/-! ### what falls of a due note -/
def wholeN (l : List (Str × Int)) : Int := (l.map (·.2)).sum
theorem wholeN_nonneg {l : List (Str × Int)} (h : ∀ n ∈ l, 1 ≤ n.2) : 0 ≤ wholeN l := by
  induction l with
  | nil => exact Int.le_refl _
  | cons n r ih =>
    have := ih fun m hm => h m (List.mem_cons_of_mem _ hm)
    have h1 := h n List.mem_cons_self
    show 0 ≤ ((n :: r).map (·.2)).sum
    rw [List.map_cons, List.sum_cons]
    have e : wholeN r = (r.map (·.2)).sum := rfl
    omega
theorem wholeN_cons (n : Str × Int) (r : List (Str × Int)) : wholeN (n :: r) = n.2 + wholeN r := by
  unfold wholeN
  rw [List.map_cons, List.sum_cons]
theorem sumTo_one (z t : Str) (a : Int) (h : 0 ≤ a) : sumTo z (if 0 < a then [(t, a)] else []) = if t = z then a else 0 := by
  unfold sumTo
  by_cases h0 : 0 < a
  · rw [if_pos h0]
    by_cases hz : t = z <;> simp [hz]
  · have : a = 0 := by omega
    rw [if_neg h0, this]
    split <;> rfl
theorem sumTo_app (z : Str) (l r : List (Str × Int)) : sumTo z (l ++ r) = sumTo z l + sumTo z r := by
  unfold sumTo
  rw [List.filter_append, List.map_append, List.sum_append]
theorem sumTo_nil (z : Str) : sumTo z [] = 0 := rfl
theorem fall_one : ∀ {l : List (Str × Int)} {f m a : Int} {t : Str} {r : List (Str × Int)}, (∀ n ∈ l, 1 ≤ n.2) → 0 ≤ f → 0 ≤ m → m ≤ a → leftN l f = (t, a) :: r →
    f + m ≤ wholeN l ∧ ∀ z, sumTo z (goneN l (f + m)) = sumTo z (goneN l f) + if t = z then m else 0
  | [], _, _, _, _, _, _, _, _, _, e => by cases e
  | (t0, a0) :: r0, f, m, a, t, r, h, f0, m0, ma, e => by
    have h0 : 1 ≤ a0 := h _ List.mem_cons_self
    have hr : ∀ n ∈ r0, 1 ≤ n.2 := fun n hn => h n (List.mem_cons_of_mem _ hn)
    have wr := wholeN_nonneg hr
    rw [wholeN_cons]
    rw [leftN_cons] at e
    by_cases hf : f < a0
    · have ep : partOf a0 f = f := by
        unfold partOf
        rw [if_pos hf]
      rw [ep, if_pos hf, Int.sub_self] at e
      have e' : (t0, a0 - f) :: leftN r0 0 = (t, a) :: r := e
      injection e' with e1 e2
      injection e1 with e1 e3
      subst e1 e3
      have ep2 : partOf a0 (f + m) = f + m := by
        unfold partOf
        split <;> omega
      refine ⟨by show f + m ≤ a0 + wholeN r0; omega, fun z => ?_⟩
      rw [goneN_cons, goneN_cons, ep, ep2, Int.sub_self, Int.sub_self, gone_zero hr, List.append_nil, List.append_nil, sumTo_one z t0 _ (by omega), sumTo_one z t0 _ f0]
      split <;> omega
    · have ep : partOf a0 f = a0 := by
        unfold partOf
        rw [if_neg hf]
      have ep2 : partOf a0 (f + m) = a0 := by
        unfold partOf
        rw [if_neg (by omega)]
      rw [ep, if_neg (by omega)] at e
      have e' : leftN r0 (f - a0) = (t, a) :: r := e
      obtain ⟨i1, i2⟩ := fall_one hr (by omega) m0 ma e'
      refine ⟨by show f + m ≤ a0 + wholeN r0; omega, fun z => ?_⟩
      rw [goneN_cons, goneN_cons, ep, ep2, sumTo_app, sumTo_app, show f + m - a0 = f - a0 + m by omega, i2 z]
      omega
theorem leftN_ok {zs : List Str} : ∀ {l : List (Str × Int)} {f : Int}, (∀ n ∈ l, NoteOk zs n) → 0 ≤ f → ∀ n ∈ leftN l f, NoteOk zs n
  | [], _, _, _, n, hn => by cases hn
  | (t, a) :: r, f, h, f0, n, hn => by
    have h0 := h _ List.mem_cons_self
    have ha : 1 ≤ a ∧ a ≤ 10 ^ 58 := h0.2
    have hp : 0 ≤ partOf a f ∧ partOf a f ≤ f := by
      unfold partOf
      split <;> omega
    rw [leftN_cons] at hn
    rcases List.mem_append.mp hn with hn | hn
    · split at hn
      · rename_i c
        rw [List.mem_singleton.mp hn]
        exact ⟨h0.1, by show 1 ≤ a - partOf a f; omega, by show a - partOf a f ≤ 10 ^ 58; omega⟩
      · cases hn
    · exact leftN_ok (fun m hm => h m (List.mem_cons_of_mem _ hm)) (by omega) n hn
end Rc

namespace Rc
open PySem PySem.Spec PyProof.Rows L2 RZ
/-! ### what is let fall -/
def moreAt (ps : List (Str × Int)) (z : Str) : Int := ((ps.find? fun p => decide (p.1 = z)).map (·.2)).getD 0
def moreK (ps : List (Str × Int)) : List (Key × V) := ps.map fun p => (Sum.inr p.1, .int p.2)
def fallM (M : Bk) (ps : List (Str × Int)) : Bk := { M with drops := (M.names.zip M.drops).map fun p => p.2 + moreAt ps p.1 }
theorem more_val (z : Str) : ∀ ps : List (Str × Int), (valV (moreK ps) (Sum.inr z : Key)).getD (.int 0) = .int (moreAt ps z)
  | [] => rfl
  | p :: r => by
    have ih := more_val z r
    show (valV ((Sum.inr p.1, V.int p.2) :: moreK r) (Sum.inr z : Key)).getD (.int 0) = .int (moreAt (p :: r) z)
    unfold moreAt
    by_cases h : p.1 = z
    · rw [valV_pos (show ((Sum.inr p.1 : Key), V.int p.2).1 = Sum.inr z from congrArg Sum.inr h), List.find?_cons_of_pos (by simp [h])]
      rfl
    · rw [valV_neg (fun e => h (Sum.inr.inj e)), ih, List.find?_cons_of_neg (by simp [h])]
      rfl
structure FallOk (M : Bk) (ps : List (Str × Int)) : Prop where
  kd : ∀ p ∈ ps, ∃ (j : Nat) (l : List (Str × Int)) (f : Int), M.names[j]? = some p.1 ∧ M.stacks[j]? = some l ∧ M.drops[j]? = some f ∧ 0 ≤ p.2 ∧ f + p.2 ≤ wholeN l
  cs : ∀ (j : Nat) (z : Str), M.names[j]? = some z → 0 ≤ cashM (fallM M ps) j z
theorem fall_ok {M : Bk} (ok : M.Ok) (ps : List (Str × Int)) : (fallM M ps).Ok := by
  refine ⟨ok.n0, ok.n1, ok.nd, ok.nm, ok.lg, ok.ls, ?_, ok.many⟩
  show ((M.names.zip M.drops).map _).length = _
  rw [List.length_map, List.length_zip, ok.ld, Nat.min_self]
  rfl
theorem same_unlock {H H' : Hp} {d : Addr} {od : Obj} {u : HO} (h : H d = some u) (s : Same (upd H d (.frz od u)) H') : Same H (upd H' d u) := fun b o e => by
  by_cases c : b = d
  · rw [c, h] at e
    rw [c, upd_same]
    exact e
  · rw [upd_ne c]
    exact s b o (by rw [upd_ne c]; exact e)
theorem kp_lock {H : Hp} {d : Addr} {od : Obj} {kvs : List (Key × V)} (h : H d = some (.dK kvs)) : Kp H (upd H d (.frz od (.dK kvs))) := fun b o e f => by
  have nb : b ≠ d := fun z => by
    rw [z, h] at e
    cases e
    exact f
  rw [upd_ne nb]
  exact e
section
variable {P : Program} {w : World} {K : PySem.W.Frag} {mg : Str → Option Value} {base : Heap}
/-! ### whole_of -/
abbrev sWhOf : Stmt := inBook 9
abbrev nWhOf : List Str := ["self", "who", "to", "amount"]
theorem scWhOf : FnScope nWhOf ["self", "who"] (defScope sWhOf) := ⟨rfl, rfl, rfl, by decide +kernel, rfl, by decide +kernel, by decide +kernel⟩
theorem ok_whOf {f fn C : Addr} {fd fdn : FuncData} (F : Fun K "whole_of" "Book.whole_of" sWhOf f fd) (T : ClsF K C) (B3 : Blt3 mg) (NT : HasM P w K mg base C 4 "notes" ["self", "who"] (spRow K C fun l _ => l) fn fdn) :
    FnOk P w K mg base CX0 5 f fd ["self", "who"] (spCalc K C fun M j _ => wholeN (M.stacks.getD j [])) := by
  refine F.ok scWhOf (fun vs H Q E h => ?_) (fun cdv A outer s H vs Q E hr h => ?_)
  · obtain ⟨_, _, _, _, rfl, _⟩ := h
    rfl
  · obtain ⟨b, M, z, j, rfl, hb, ok, ej, q⟩ := h
    refine ⟨_, pss_one (ps_ret (pe_callB (cr_sum rfl) (by rfl) B3.sum (by decide +kernel) (pa_cons
          (pe_lc (own := [("to", 2), ("amount", 3)]) (g := gTup K 2 (gCons (gName 2) (gCons (gName 3) gNil))) (tt := tYes) rfl scWhOf.nd (pi_list (pe_meth (pv 0) T.cl NT.m NT.ok hr NT.b .nil pass0 (pa_cons (pv 1) pa_nil))) (blkOk_by (N := nWhOf) (sc := defScope sWhOf) (own := [("to", 2), ("amount", 3)]) (by decide +kernel))
            (fun _ _ _ _ _ => pg_tup rfl (pgs_cons (pg_name (i := 2) scWhOf.nd rfl (.inl rfl) (hf := .inr rfl)) (pgs_cons (pg_name (i := 3) scWhOf.nd rfl (.inl rfl) (hf := .inr rfl)) pgs_nil)))
            (fun _ _ _ _ _ => pts_nil) (fun _ _ _ _ _ => pv 3)) pa_nil))), ?_⟩
    obtain ⟨g, l, d, eg, el, ed, ll⟩ := ok.at_ ej
    obtain ⟨dx, tn, on, wg, ws, wd, e, h1, hn, h2, h3, h4⟩ := hb.ex
    refine ⟨.ref b, rfl, b, dx, _, rfl, e, bf_no (NoF.mk' (by decide +kernel)), .str z, rfl, b, M, z, j, l, d, rfl, hb, ok.names, ej, el, ed, by omega, fun r xs H1 s1 nr hr1 dr => ⟨r, rfl, ⟨_, .inl (.inl hr1)⟩, fun D nD => ?_⟩⟩
    have lx : xs.length = l.length := by
      rw [dr.len]
      unfold notesD
      rw [List.length_map]
    refine lc_it (walk_list (K := K) (a := r) (xs := xs)) (fun i H' => Same H1 H' ∧ H' D = some (.lst ((l.take i).map fun n => .int n.2))) ⟨same_upd nD, upd_same⟩ (fun i H' _ hP => hP.1.seq (.inl (.inl hr1)))
      (fun i x H2' H2 hi hP hY => ?_) (fun H2 hP => ?_)
    · obtain ⟨rfl, hx⟩ := hY
      obtain ⟨hil, dn⟩ := (DtAll.same hP.1 _ dr).notes_get hx
      obtain ⟨na, rfl, qn⟩ := note_inv dn
      refine ⟨na, _, rfl, qn, rfl, _, _, rfl, _, _, rfl, rfl, rfl, _, rfl, _, hP.2, ?_, fun c o ec => ?_, ?_⟩
      · rw [List.length_map, List.length_take]
        exact small1000 (by omega)
      · rw [upd_ne (ne_of_none ec nD)]
        exact hP.1 c o ec
      · rw [upd_same, take_succ hil, List.map_append]
        rfl
    · refine ⟨D, l.map (·.2), rfl, .inl (.inl ?_), ?_⟩
      · rw [hP.2, lx, List.take_length, List.map_map]
        rfl
      have qq : Q (V.int (wholeN (M.stacks.getD j []))) H2 := q H2 (s1.trans hP.1)
      rw [getD_of el] at qq
      exact qq
/-! ### may_fall -/
abbrev sMayF : Stmt := inBook 14
abbrev nMayF : List Str := ["self", "more", "who", "much"]
theorem scMayF : FnScope nMayF ["self", "more"] (defScope sMayF) := ⟨rfl, rfl, rfl, by decide +kernel, rfl, by decide +kernel, by decide +kernel⟩
def spMayF (K : PySem.W.Frag) (C : Addr) : Sp := fun vs H Q _ => ∃ (b d : Addr) (M : Bk) (ps : List (Str × Int)), vs = [.ref b, .ref d] ∧ BookAt K C H b M ∧ M.Ok ∧ H d = some (.dK (moreK ps)) ∧ FallOk M ps ∧ ∀ H', Same H H' → Q (.bl true) H'
theorem ok_mayF {f f1 f2 f3 f4 C : Addr} {fd fd1 fd2 fd3 fd4 : FuncData} (F : Fun K "may_fall" "Book.may_fall" sMayF f fd) (T : ClsF K C) (B : Blt mg) (B3 : Blt3 mg)
    (HS : HasM P w K mg base C 2 "has" ["self", "who"] (spHas K C) f1 fd1) (WH : Has P w K mg base 1 "is_whole" ["thing"] (spBool K wholeD) f2 fd2)
    (FL : HasM P w K mg base C 4 "fallen" ["self", "who"] (spNum K C Bk.drops) f3 fd3) (WO : HasM P w K mg base C 5 "whole_of" ["self", "who"] (spCalc K C fun M j _ => wholeN (M.stacks.getD j [])) f4 fd4) :
    FnOk P w K mg base CX0 6 f fd ["self", "more"] (spMayF K C) := by
  refine F.ok scMayF (fun vs H Q E h => ?_) (fun cdv A outer s H vs Q E hr h => ?_)
  · obtain ⟨_, _, _, _, rfl, _⟩ := h
    rfl
  · obtain ⟨b, d, M, ps, rfl, hb, ok, hd, fo, q⟩ := h
    have hr1 := hr.mono (show 1 ≤ 5 by decide)
    have hr2 := hr.mono (show 2 ≤ 5 by decide)
    have hr4 := hr.mono (show 4 ≤ 5 by decide)
    refine ⟨_, pss_cons (ps_if (pt_not (pt_val (pe_callB call_isi (by rfl) B.isi (by decide +kernel) (pa_cons (pv 1) (pa_cons (pe_bltn (v := .ty "dict") (by rfl) B3.dict (by decide +kernel) rfl) pa_nil))))) (pss_one (ps_ret pe_bl)) pss_nil)
      (pss_cons (ps_lock (ps_for PassesOwn.never rfl (pi_items (pv 1)) (pg_tup rfl (pgs_cons (pg_name (i := 2) scMayF.nd rfl (.inl rfl)) (pgs_cons (pg_name (i := 3) scMayF.nd rfl (.inl rfl)) pgs_nil)))
        (pss_cons (ps_if (PW.pt (pw_or (pt_not (pt_val (pe_meth (pv 0) T.cl HS.m HS.ok hr2 HS.b .nil pass0 (pa_cons (pv 2) pa_nil)))) (pw_or (pt_not (pt_val (pe_call WH.ok hr1 (by rfl) WH.g WH.kp WH.b .nil pass0 (pa_cons (pv 3) pa_nil))))
          (pw_or1 (pt_cmpR op_lt (pv 3) pe_int (nomark _)))))) (pss_one (ps_ret pe_bl)) pss_nil)
        (pss_one (ps_if (pt_cmpR op_gt (pe_op op_add (pe_meth (pv 0) T.cl FL.m FL.ok hr4 FL.b .nil pass0 (pa_cons (pv 2) pa_nil)) (pv 3)) (pe_meth (pv 0) T.cl WO.m WO.ok hr WO.b .nil pass0 (pa_cons (pv 2) pa_nil)) (nomark _)) (pss_one (ps_ret pe_bl)) pss_nil)))))
      (pss_one (ps_ret pe_bl))), ?_⟩
    refine ⟨.ref d, rfl, _, .ty "dict", _, _, true, rfl, .ty "dict", .base (.dK hd), kit_ty (by decide +kernel), _, rfl, iteF ?_⟩
    refine ⟨d, _, hd, trivial, fun od => ?_⟩
    have hbL := hb.keep (kp_lock (od := od) hd)
    obtain ⟨dx, tn, on, wg, ws, wd, e, h1, hn, h2, h3, h4⟩ := hbL.ex
    have hdL : upd H d (.frz od (.dK (moreK ps))) d = some (.frz od (.dK (moreK ps))) := upd_same
    have un : ∀ H', Same (upd H d (.frz od (.dK (moreK ps)))) H' → Same H (upd H' d (.dK (moreK ps))) := fun H' s' => same_unlock hd s'
    generalize upd H d (.frz od (.dK (moreK ps))) = HL at hbL e h1 h2 h3 h4 hdL un
    refine ⟨.ref d, rfl, d, od, _, rfl, hdL, ?_⟩
    refine for_it (walk_items (kvs := moreK ps)) (fun i σ H' => ∃ y2 y3, σ = [some (.ref b), some (.ref d), y2, y3] ∧ Same HL H') ⟨_, _, rfl, Same.refl _⟩ (fun i σ H' _ hP => ?_) (fun i x σ H1' H1 hi hP hY => ?_) (fun σ H' hP => ?_)
    · obtain ⟨_, _, _, s1⟩ := hP
      exact s1 _ _ hdL
    · obtain ⟨Tt, x1, x2, rfl, nT, rfl, e1, e2⟩ := hY
      obtain ⟨y2, y3, rfl, s1⟩ := hP
      have hi' : i < ps.length := by
        unfold moreK at hi
        rw [List.length_map] at hi
        exact hi
      have ek : (moreK ps)[i]? = some (Sum.inr ps[i].1, V.int ps[i].2) := by
        unfold moreK
        rw [List.getElem?_map, List.getElem?_eq_getElem hi']
        rfl
      have e1' : (moreK ps)[i]?.map (fun kv => kV kv.1) = some x1 := e1
      have e2' : (moreK ps)[i]?.map Prod.snd = some x2 := e2
      rw [ek] at e1' e2'
      have ex1 : x1 = .str ps[i].1 := (Option.some.inj e1').symm
      have ex2 : x2 = .int ps[i].2 := (Option.some.inj e2').symm
      subst ex1 ex2
      obtain ⟨j, l, fl, ej, el, ef, m0, mw⟩ := fo.kd _ (List.getElem_mem hi')
      generalize ps[i] = pm at ej m0 mw nT s1
      obtain ⟨z, m⟩ := pm
      have s2 := s1.trans (same_upd (o := .tup [V.str z, V.int m]) nT)
      have hT : upd H1' Tt (.tup [V.str z, V.int m]) Tt = some (.tup [V.str z, V.int m]) := upd_same
      generalize upd H1' Tt (.tup [V.str z, V.int m]) = H2 at s2 hT
      refine ⟨Tt, [.str z, .int m], rfl, .inl (.inl hT), rfl, _, _, rfl, _, _, rfl, rfl, ?_⟩
      have hm : z ∈ M.names := List.mem_of_getElem? ej
      have lz := (nameT_len (ok.nm z hm)).2
      refine ⟨.ref b, rfl, b, dx, _, rfl, s2 _ _ e, bf_no (NoF.mk' (by decide +kernel)), .str z, rfl, b, M, .str z, .str z, rfl, book_same hbL s2, ok.names, .str z, (fun y ey => by cases ey; omega), fun H3 s3 => ⟨_, rfl, ?_⟩⟩
      have eh : hasD M (.str z) = true := decide_eq_true hm
      rw [eh]
      refine iteF ⟨.int m, rfl, .int m, .int m, rfl, .int m, (fun y ey => by cases ey), fun H4 s4 => ⟨_, rfl, iteF ⟨.int m, rfl, _, _, rfl, rfl, _, rfl, ?_⟩⟩⟩
      rw [show decide (m < 0) = false from decide_eq_false (by have : (0 : Int) ≤ m := m0; omega)]
      have s24 := s2.trans (s3.trans s4)
      refine iteF ⟨.ref b, rfl, b, dx, _, rfl, s24 _ _ e, bf_no (NoF.mk' (by decide +kernel)), .str z, rfl, b, M, z, j, fl, rfl, book_same hbL s24, ok.names, ej, ef, fun H5 s5 => ⟨.int m, rfl, fl, m, rfl, rfl, ?_⟩⟩
      have s25 := s24.trans s5
      refine ⟨.ref b, rfl, b, dx, _, rfl, s25 _ _ e, bf_no (NoF.mk' (by decide +kernel)), .str z, rfl, b, M, z, j, rfl, book_same hbL s25, ok, ej, fun H6 s6 => ⟨_, _, rfl, rfl, _, rfl, ?_⟩⟩
      show if decide (wholeN (M.stacks.getD j []) < fl + m) = true then _ else _
      rw [getD_of el, show decide (wholeN l < fl + m) = false from decide_eq_false (by have : fl + m ≤ wholeN l := mw; omega)]
      exact iteF ⟨_, _, rfl, s25.trans s6⟩
    · obtain ⟨_, _, rfl, s1⟩ := hP
      exact ⟨s1 _ _ hdL, q _ (un _ s1)⟩
/-! ### let_fall -/
abbrev sLetF : Stmt := inBook 15
abbrev nLetF : List Str := ["self", "more", "who", "drops", "other"]
theorem scLetF : FnScope nLetF ["self", "more"] (defScope sLetF) := ⟨rfl, rfl, rfl, by decide +kernel, rfl, by decide +kernel, by decide +kernel⟩
def spLetF (K : PySem.W.Frag) (C : Addr) : Sp := fun vs H Q _ => ∃ (b d : Addr) (M : Bk) (ps : List (Str × Int)), vs = [.ref b, .ref d] ∧ BookAt K C H b M ∧ M.Ok ∧ H d = some (.dK (moreK ps)) ∧ FallOk M ps ∧
  ∀ b' H', Same H H' → H b' = none → BookAt K C H' b' (fallM M ps) → Q (.ref b') H'
theorem ok_letF {f f1 f2 f3 f4 C : Addr} {fd fd1 fd2 fd3 fd4 : FuncData} (F : Fun K "let_fall" "Book.let_fall" sLetF f fd) (T : ClsF K C) (B3 : Blt3 mg)
    (MF : HasM P w K mg base C 6 "may_fall" ["self", "more"] (spMayF K C) f1 fd1) (FL : HasM P w K mg base C 4 "fallen" ["self", "who"] (spNum K C Bk.drops) f2 fd2)
    (WT : HasM P w K mg base C 5 "with_these" ["self", "gifts", "stacks", "drops"] (spWith K C) f3 fd3) (CS : HasM P w K mg base C 5 "cash" ["self", "who"] (spCalc K C cashM) f4 fd4) :
    FnOk P w K mg base CX0 7 f fd ["self", "more"] (spLetF K C) := by
  refine F.ok scLetF (fun vs H Q E h => ?_) (fun cdv A outer s H vs Q E hr h => ?_)
  · obtain ⟨_, _, _, _, rfl, _⟩ := h
    rfl
  · obtain ⟨b, d, M, ps, rfl, hb, ok, hd, fo, q⟩ := h
    have hu := hu_of hr
    have hr4 := hr.mono (show 4 ≤ 6 by decide)
    have hr5 := hr.mono (show 5 ≤ 6 by decide)
    refine ⟨_, pss_cons (ps_if (pt_not (pt_val (pe_meth (pv 0) T.cl MF.m MF.ok hr MF.b .nil pass0 (pa_cons (pv 1) pa_nil)))) pss_never pss_nil)
      (pss_cons (ps_set (i := 3) scLetF.nd rfl (.inl rfl) (pe_callTy call_tupD (by rfl) B3.tuple (by decide +kernel) (pa_cons
          (pe_lc (own := [("who", 2)]) (g := gName 2) (tt := tYes) rfl scLetF.nd (pi_tup (pe_fld (pv 0) rfl)) (blkOk_by (N := nLetF) (sc := defScope sLetF) (own := [("who", 2)]) (by decide +kernel))
            (fun _ _ _ _ _ => pg_name (i := 2) scLetF.nd rfl (.inl rfl) (hf := .inr rfl)) (fun _ _ _ _ _ => pts_nil)
            (fun _ _ _ _ _ => pe_op op_add (pe_meth (pv 0) T.cl FL.m FL.ok hr4 FL.b .nil pass0 (pa_cons (pv 2) pa_nil)) (pe_dget2 hu (pv 1) (pv 2) pe_int ⟨rfl, rfl, rfl, rfl⟩))) pa_nil)))
      (pss_cons (ps_set (i := 4) scLetF.nd rfl (.inl rfl) (pe_meth (pv 0) T.cl WT.m WT.ok hr5 WT.b .nil pass0 (pa_cons (pe_fld (pv 0) rfl) (pa_cons (pe_fld (pv 0) rfl) (pa_cons (pv 3) pa_nil)))))
      (pss_cons (ps_for PassesOwn.never rfl (pi_tup (pe_fld (pv 0) rfl)) (pg_name (i := 2) scLetF.nd rfl (.inl rfl))
        (pss_one (ps_if (pt_cmpR op_lt (pe_meth (pv 4) T.cl CS.m CS.ok hr5 CS.b .nil pass0 (pa_cons (pv 2) pa_nil)) pe_int (nomark _)) pss_never pss_nil)))
      (pss_one (ps_ret (pv 4)))))), ?_⟩
    obtain ⟨dx, tn, on, wg, ws, wd, e, h1, hn, h2, h3, h4⟩ := hb.ex
    refine ⟨.ref b, rfl, b, dx, _, rfl, e, bf_no (NoF.mk' (by decide +kernel)), .ref d, rfl, b, d, M, ps, rfl, hb, ok, hd, fo, fun H1 s1 => ⟨_, rfl, iteF ?_⟩⟩
    have qn : SqT K H tn (M.names.map V.str) := .inl (.inr ⟨on, h1⟩)
    refine ⟨.ref b, rfl, b, C, dx, _, _, rfl, s1 _ _ e, T.cl, T.n1, bf_names, tn, rfl, ⟨_, same_seqT s1 qn⟩, fun D nD => ?_⟩
    have lnm : (M.names.map V.str).length = M.names.length := List.length_map ..
    have lzp : (M.names.zip M.drops).length = M.names.length := by rw [List.length_zip, ok.ld, Nat.min_self]
    have n12 := ok.n1
    refine lc_it (walk_tup (K := K) (a := tn) (xs := M.names.map V.str)) (fun i H' => Same H1 H' ∧ H' D = some (.lst ((((M.names.zip M.drops).take i).map fun p => p.2 + moreAt ps p.1).map V.int))) ⟨same_upd nD, upd_same⟩ (fun i H' _ hP => same_seqT hP.1 (same_seqT s1 qn))
      (fun i x H2' H2 hi hP hY => ?_) (fun H2 hP => ?_)
    · obtain ⟨rfl, hx⟩ := hY
      rw [lnm] at hi
      have hid : i < M.drops.length := by rw [ok.ld]; exact hi
      have ex : x = .str M.names[i] := by
        rw [List.getElem?_map, List.getElem?_eq_getElem hi] at hx
        exact (Option.some.inj hx).symm
      subst ex
      have s12 := s1.trans hP.1
      refine ⟨rfl, .ref b, rfl, b, dx, _, rfl, s12 _ _ e, bf_no (NoF.mk' (by decide +kernel)), _, rfl, b, M, _, i, _, rfl, book_same hb s12, ok.names, List.getElem?_eq_getElem hi, List.getElem?_eq_getElem hid, fun H3 s3 => ?_⟩
      have s13 := s12.trans s3
      refine ⟨.ref d, rfl, d, rfl, .inl ⟨_, .inl (s13 _ _ hd)⟩, _, rfl, _, DGet.k (k := Sum.inr M.names[i]) (s13 _ _ hd), ?_⟩
      rw [more_val]
      refine ⟨_, _, rfl, rfl, _, s3 _ _ hP.2, ?_, fun c o ec => ?_, ?_⟩
      · rw [List.length_map, List.length_map, List.length_take]
        exact small1000 (by omega)
      · rw [upd_ne (ne_of_none ec nD)]
        exact s3 _ _ (hP.1 c o ec)
      · have tk : (M.names.zip M.drops).take (i + 1) = (M.names.zip M.drops).take i ++ [(M.names[i], M.drops[i])] := by
          rw [List.take_add_one, List.getElem?_zip_eq_some (z := (M.names[i], M.drops[i])) |>.mpr ⟨List.getElem?_eq_getElem hi, List.getElem?_eq_getElem hid⟩]
          rfl
        rw [upd_same, tk, List.map_append, List.map_append]
        rfl
    · obtain ⟨s2, hD⟩ := hP
      rw [lnm, List.take_of_length_le (by rw [lzp]; exact Nat.le_refl _)] at hD
      have ed : ((M.names.zip M.drops).map fun p => p.2 + moreAt ps p.1) = (fallM M ps).drops := rfl
      rw [ed] at hD
      refine ⟨.ref D, ((fallM M ps).drops).map .int, rfl, .lst (.inl (.inl hD)) (DtAll.ints _), fun t H3 s3 dt => ?_⟩
      have s13 := s1.trans (s2.trans s3)
      refine ⟨.ref b, rfl, b, dx, _, rfl, s13 _ _ e, bf_no (NoF.mk' (by decide +kernel)), .ref b, rfl, b, C, dx, _, _, rfl, s13 _ _ e, T.cl, T.n2, bf_gifts, .ref b, rfl, b, C, dx, _, _, rfl, s13 _ _ e, T.cl, T.n3, bf_stacks, t, rfl,
        b, M, _, _, _, M.gifts, M.stacks, (fallM M ps).drops, rfl, book_same hb s13, ok.names, Dt.same s13 _ h2, Dt.same s13 _ h3, dt, fun b' H4 s4 nb hb' => ?_⟩
      have s14 := s13.trans s4
      have hb4 : BookAt K C H4 b' (fallM M ps) := hb'
      refine ⟨.ref b, rfl, b, C, dx, _, _, rfl, s14 _ _ e, T.cl, T.n1, bf_names, tn, rfl, ⟨_, same_seqT s14 qn⟩, ?_⟩
      obtain ⟨dx2, tn2, on2, vg2, vs2, vd2, e2, k1, kn, k2, k3, k4⟩ := hb4.ex
      refine for_it (walk_tup (K := K) (a := tn) (xs := M.names.map V.str)) (fun i σ H' => ∃ y2, σ = [some (.ref b), some (.ref d), y2, some t, some (.ref b')] ∧ Same H4 H') ⟨_, rfl, Same.refl _⟩ (fun i σ H' _ hP => ?_) (fun i x σ H5' H5 hi hP hY => ?_) (fun σ H' hP => ?_)
      · obtain ⟨_, _, s5⟩ := hP
        exact same_seqT s5 (same_seqT s14 qn)
      · obtain ⟨rfl, hx⟩ := hY
        obtain ⟨y2, rfl, s5⟩ := hP
        rw [lnm] at hi
        have ex : x = .str M.names[i] := by
          rw [List.getElem?_map, List.getElem?_eq_getElem hi] at hx
          exact (Option.some.inj hx).symm
        subst ex
        have ei : M.names[i]? = some M.names[i] := List.getElem?_eq_getElem hi
        refine ⟨.ref b', rfl, b', dx2, _, rfl, s5 _ _ e2, bf_no (NoF.mk' (by decide +kernel)), _, rfl, b', fallM M ps, _, i, rfl, book_same hb4 s5, fall_ok ok ps, ei, fun H6 s6 => ⟨_, _, rfl, rfl, _, rfl, ?_⟩⟩
        have c0 := fo.cs i _ ei
        rw [show decide (cashM (fallM M ps) i M.names[i] < 0) = false from decide_eq_false (by omega)]
        exact iteF ⟨_, rfl, s5.trans s6⟩
      · obtain ⟨y2, rfl, s5⟩ := hP
        exact ⟨.ref b', rfl, q b' H' (s14.trans s5) (s13.free nb) (book_same hb4 s5)⟩
end
end Rc

namespace Rc
open PySem PySem.Spec PyProof.Rows L2 RZ
theorem due_inv {K : PySem.W.Frag} {H : Hp} {v : V} {o : Option (Str × Int)} (h : Dt K H v (dueD o)) : (o = none ∧ v = .non) ∨ ∃ n a, o = some n ∧ v = .ref a ∧ SqT K H a [.str n.1, .int n.2] := by
  cases o with
  | none =>
    cases h
    exact .inl ⟨rfl, rfl⟩
  | some n =>
    obtain ⟨a, e, q⟩ := note_inv h
    exact .inr ⟨n, a, rfl, e, q⟩
theorem dues_len {M : Bk} (ok : M.Ok) : (duesM M).length = M.names.length := by
  unfold duesM
  rw [List.length_map, List.length_zip, ok.ls, ok.ld, Nat.min_self]
/-- a dict of due notes -/
structure DuesAt (K : PySem.W.Frag) (H : Hp) (d : Addr) (zs : List Str) (os : List (Option (Str × Int))) : Prop where
  ex : ∃ vs, Rd H d (.dK (dct zs vs)) ∧ DtAll K H vs (os.map dueD)
theorem DuesAt.same {K : PySem.W.Frag} {H H' : Hp} {d : Addr} {zs : List Str} {os : List (Option (Str × Int))} (h : DuesAt K H d zs os) (s : Same H H') : DuesAt K H' d zs os := by
  obtain ⟨vs, h1, h2⟩ := h.ex
  refine ⟨vs, ?_, DtAll.same s _ h2⟩
  rcases h1 with h1 | ⟨o, h1⟩
  · exact .inl (s _ _ h1)
  · exact .inr ⟨o, s _ _ h1⟩
/-- and it is not locked -/
structure DuesU (K : PySem.W.Frag) (H : Hp) (d : Addr) (zs : List Str) (os : List (Option (Str × Int))) : Prop where
  ex : ∃ vs, H d = some (.dK (dct zs vs)) ∧ DtAll K H vs (os.map dueD)
theorem DuesU.at {K : PySem.W.Frag} {H : Hp} {d : Addr} {zs : List Str} {os : List (Option (Str × Int))} (h : DuesU K H d zs os) : DuesAt K H d zs os := by
  obtain ⟨vs, h1, h2⟩ := h.ex
  exact ⟨vs, .inl h1, h2⟩
theorem DuesU.same {K : PySem.W.Frag} {H H' : Hp} {d : Addr} {zs : List Str} {os : List (Option (Str × Int))} (h : DuesU K H d zs os) (s : Same H H') : DuesU K H' d zs os := by
  obtain ⟨vs, h1, h2⟩ := h.ex
  exact ⟨vs, s _ _ h1, DtAll.same s _ h2⟩
theorem dget_rd {H : Hp} {a : Addr} {zs : List Str} {vs : List V} {j : Nat} {z : Str} {v : V} (h : Rd H a (.dK (dct zs vs))) (nd : zs.Nodup) (e1 : zs[j]? = some z) (e2 : vs[j]? = some v) : DGet H a (.str z) (some v) :=
  .inl ⟨_, Sum.inr z, h, rfl, (dct_val nd e1 e2).symm⟩
theorem DuesAt.get {K : PySem.W.Frag} {H : Hp} {d : Addr} {zs : List Str} {os : List (Option (Str × Int))} (h : DuesAt K H d zs os) (nd : zs.Nodup) (lo : os.length = zs.length) {z : Str} (hz : z ∈ zs) :
    ∃ v o, DGet H d (.str z) (some v) ∧ Dt K H v (dueD o) ∧ nxOf zs os z = o.map (·.1) := by
  obtain ⟨vs, h1, h2⟩ := h.ex
  have hi : zs.idxOf z < os.length := by
    rw [lo]
    exact List.idxOf_lt_length_of_mem hz
  obtain ⟨v, e1, e2⟩ := h2.get (n := zs.idxOf z) (d := dueD os[zs.idxOf z]) (map_get (List.getElem?_eq_getElem hi))
  refine ⟨v, os[zs.idxOf z], dget_rd h1 nd (idx_get hz) e1, e2, ?_⟩
  unfold nxOf
  rw [getD_of (List.getElem?_eq_getElem hi)]
/-- what the walks ask of due notes -/
structure Walks (zs : List Str) (os : List (Option (Str × Int))) : Prop where
  nd : zs.Nodup
  lo : os.length = zs.length
  lz : zs.length ≤ 12
  ld : Leads zs (nxOf zs os)
theorem walks_of {M : Bk} (ok : M.Ok) (c : Closed M) : Walks M.names (duesM M) := ⟨ok.nd, dues_len ok, ok.n1, c.leads⟩
abbrev nxM (M : Bk) : Str → Option Str := nxOf M.names (duesM M)
end Rc

namespace Rc
open PySem PySem.Spec PyProof.Rows L2 RZ
/-- a ring that is told, or none -/
def RingV (H H' : Hp) (v : V) : Option (List Str) → Prop
  | none => v = .non
  | some r => ∃ a, v = .ref a ∧ H a = none ∧ H' a = some (.lst (r.map V.str))
theorem RingV.same {H H0 H' H2 : Hp} {v : V} {o : Option (List Str)} (h : RingV H H' v o) (s : Same H' H2) (s0 : Same H0 H) : RingV H0 H2 v o := by
  cases o with
  | none => exact h
  | some r =>
    obtain ⟨a, e, n, x⟩ := h
    exact ⟨a, e, s0.free n, s _ _ x⟩
theorem idx_first {T : List Str} {f : Str} {m : Nat} {x : Str} (hm : m < T.idxOf f) (e : T[m]? = some x) : x ≠ f := fun c => by
  obtain ⟨hl, e'⟩ := List.getElem?_eq_some_iff.mp e
  have := List.not_of_lt_findIdx (p := (· == f)) (xs := T) (i := m) hm
  rw [e', c] at this
  simp at this
theorem str_eqV (x y : Str) : eqV (.str x) (.str y) = (x == y) := rfl
end Rc

namespace Rc
open PySem PySem.Spec PyProof.Rows L2 RZ
section
variable {X : Cx}
theorem ix_listS {K : PySem.W.Frag} (e : X.K = K) : IxR X (rIxL K) := by
  subst e
  exact ix_list
theorem ix_tupS {K : PySem.W.Frag} (e : X.K = K) : IxR X (rIxT K) := by
  subst e
  exact ix_tup
theorem mt_indexS {K : PySem.W.Frag} (e : X.K = K) : MtR X "list.index" (rIndex K) := by
  subst e
  exact mt_index
theorem pe_bmK {K : PySem.W.Frag} (eK : X.K = K) {o e : Expr} {es : List Expr} {to : TE} {t : TA} {name : Str} {apos cpos : Pos} {T id : String} {r : V → List V → Hp → VK → Prop} (pa : PlainAttrs T) (slot : Slot T name id) (hty : typeOf (.builtin id) = pure (.type "method_descriptor")) (hm : MtR X id r) (ho : PE X o to) (ha : PA X (e :: es) t)
    (hbase : attributeBase o name X.env (eval o X.env) = eval o X.env := by rfl)
    (hfew : ((backTo cpos (starEach (e :: es) X.env)).all (fun x => !x.1) && (backToKw cpos (keywordEach [] X.env)).all (fun x => x.1.isSome)
      && decide ((e :: es).length + ([] : List Keyword).length + (if ([] : List Keyword).isEmpty then 0 else 1) < 30)) = true := by rfl)
    (hline : (apos.endLine == cpos.line) = true := by rfl) (hs : starEach (e :: es) X.env = (false, eval e X.env) :: starEach es X.env := by rfl) (hplain : (backTo cpos (starEach es X.env)).any (·.1) = false := by rfl) :
    PE X (.Call (.Attribute o name apos) (e :: es) [] cpos) (tBM K T r to t) := by
  subst eK
  exact pe_bm pa slot hty hm ho ha hbase hfew hline hs hplain
end
/-- a model that may be -/
structure Gs (zs : List Str) (D : Md) : Prop where
  nz : NamesOk zs
  nt : ∀ l ∈ D.notes, ∀ n ∈ l, NoteOk zs n
  fl : ∀ f ∈ D.fallen, 0 ≤ f
  my : (D.notes.map List.length).sum ≤ 60
  lg : D.given.length = zs.length
  lf : D.fallen.length = zs.length
  ln : D.notes.length = zs.length
  cs : ∀ (j : Nat) (z : Str), zs[j]? = some z → 0 ≤ cashM (bkOf zs D) j z
theorem Gs.ok {zs : List Str} {D : Md} (g : Gs zs D) : (bkOf zs D).Ok := ⟨g.nz.n0, g.nz.n1, g.nz.nd, g.nz.nm, g.lg, g.ln, g.lf, g.my⟩
theorem Gs.closed {zs : List Str} {D : Md} (g : Gs zs D) : Closed (bkOf zs D) := fun l hl n hn => (g.nt l hl n hn).1
theorem Gs.rows {zs : List Str} {D : Md} (g : Gs zs D) : RowsOk D := fun l hl => Nat.le_trans (len_le_sum hl) g.my
theorem Gs.walks {zs : List Str} {D : Md} (g : Gs zs D) : Walks zs (duesM (bkOf zs D)) := walks_of g.ok g.closed
theorem Gs.left {zs : List Str} {D : Md} (g : Gs zs D) {j : Nat} {l : List (Str × Int)} {f : Int} (el : D.notes[j]? = some l) (ef : D.fallen[j]? = some f) : ∀ n ∈ leftN l f, NoteOk zs n :=
  leftN_ok (g.nt l (List.mem_of_getElem? el)) (g.fl f (List.mem_of_getElem? ef))
theorem Gs.due {zs : List Str} {D : Md} (g : Gs zs D) {n : Str × Int} (h : some n ∈ duesM (bkOf zs D)) : NoteOk zs n := by
  obtain ⟨l, f, hl, hf, hn⟩ := dues_mem h
  exact leftN_ok (g.nt l hl) (g.fl f hf) n hn
/-- what the law's walk goes by -/
abbrev nxD (zs : List Str) (D : Md) : Str → Option Str := nxOf zs (duesM (bkOf zs D))
theorem nxD_at {zs : List Str} {D : Md} {j : Nat} {z : Str} {l : List (Str × Int)} {f : Int} (nd : zs.Nodup) (ej : zs[j]? = some z) (el : D.notes[j]? = some l) (ef : D.fallen[j]? = some f) : nxD zs D z = (leftN l f).head?.map (·.1) := by
  have hj : j < zs.length := (List.getElem?_eq_some_iff.mp ej).1
  have ez : zs[j] = z := (List.getElem?_eq_some_iff.mp ej).2
  have ei : zs.idxOf z = j := by
    rw [← ez]
    exact nd.idxOf_getElem j hj
  show ((duesM (bkOf zs D)).getD (zs.idxOf z) none).map (·.1) = _
  rw [ei, getD_of (dues_at (M := bkOf zs D) el ef)]
end Rc

namespace Rc
open PySem PySem.Spec PyProof.Rows L2 RZ
/-! ### the model's own changes -/
section
variable {K : PySem.W.Frag} {H : Hp} {zs : List Str} {a : MdA} {D : Md}
theorem ModelAt.ofm (h : ModelAt K H zs a D) (n0 : 1 ≤ zs.length) : a.df ≠ a.m := fun z => by
  have e := h.hf
  rw [z, h.hm] at e
  have e1 : dct keysM [.ref a.lo, .ref a.dg, .ref a.df, .ref a.dn] = dct zs (D.fallen.map V.int) := HO.dK.inj (Option.some.inj e)
  have l2 := h.lf
  match zs, D.fallen, n0, l2, e1 with
  | z :: r, y :: u, _, _, e1 =>
    rw [List.map_cons, dct_cons] at e1
    unfold keysM at e1
    rw [dct_cons] at e1
    cases e1
/-- another sum fallen -/
theorem ModelAt.setF (hM : ModelAt K H zs a D) (n0 : 1 ≤ zs.length) {j : Nat} (g : Int) : ModelAt K (upd H a.df (.dK (dct zs ((D.fallen.set j g).map V.int)))) zs a { D with fallen := D.fallen.set j g } := by
  have kt : KT H (upd H a.df (.dK (dct zs ((D.fallen.set j g).map V.int)))) := kt_upd hM.hf fun z => z
  have lne : ∀ {c : Addr} {ys : List V}, H c = some (.lst ys) → c ≠ a.df := fun {c ys} e z => by
    rw [z, hM.hf] at e
    cases e
  refine ⟨?_, ?_, ?_, ?_, ?_, fun i r l e1 e2 => ?_, hM.nd, hM.olo, hM.ogf, hM.ogn, hM.ogm, hM.omn, hM.zn, hM.lg, ?_, hM.ln, hM.lr⟩
  · rw [upd_ne (hM.ofm n0).symm]
    exact hM.hm
  · rw [upd_ne (lne hM.ho)]
    exact hM.ho
  · rw [upd_ne hM.ogf]
    exact hM.hg
  · rw [upd_same]
  · rw [upd_ne (hM.ofn n0).symm]
    exact hM.hn
  · obtain ⟨xs, e3, d3⟩ := hM.rows i r l e1 e2
    refine ⟨xs, ?_, DtAll.keepT kt _ (tup_notes l) d3⟩
    rw [upd_ne (lne e3)]
    exact e3
  · show (D.fallen.set _ _).length = _
    rw [List.length_set]
    exact hM.lf
/-- one note more -/
theorem ModelAt.app (hM : ModelAt K H zs a D) {j : Nat} {r t : Addr} {xs : List V} {l : List (Str × Int)} {y : Str} {n : Int} (er : a.rs[j]? = some r) (el : D.notes[j]? = some l) (hr0 : H r = some (.lst xs)) (hd0 : DtAll K H xs (notesD l)) (nt : H t = none) :
    ModelAt K (upd (upd H t (.tup [.str y, .int n])) r (.lst (xs ++ [.ref t]))) zs a { D with notes := D.notes.set j (l ++ [(y, n)]) } ∧ ButF a H (upd (upd H t (.tup [.str y, .int n])) r (.lst (xs ++ [.ref t]))) := by
  have tr : t ≠ r := (ne_of_none hr0 nt).symm
  have rm : r ∈ a.rs := List.mem_of_getElem? er
  have bf' : ButF a H (upd (upd H t (.tup [V.str y, V.int n])) r (.lst (xs ++ [V.ref t]))) := fun b o nf e => by
    have nb : b ≠ r := fun z => nf (.inr (by rw [z]; exact rm))
    rw [upd_ne nb, upd_ne (ne_of_none e nt)]
    exact e
  have keepD : ∀ {b : Addr} {o : HO}, b ≠ r → H b = some o → upd (upd H t (.tup [V.str y, V.int n])) r (.lst (xs ++ [V.ref t])) b = some o := fun {b o} n e => by
    rw [upd_ne n, upd_ne (ne_of_none e nt)]
    exact e
  have dne : ∀ {b : Addr} {kvs : List (Key × V)}, H b = some (.dK kvs) → b ≠ r := fun {b kvs} e z => by
    rw [z, hr0] at e
    cases e
  have hkt := bf'.kt hM
  refine ⟨⟨keepD (dne hM.hm) hM.hm, keepD (fun z => hM.olo (by rw [z]; exact rm)) hM.ho, keepD (dne hM.hg) hM.hg, keepD (dne hM.hf) hM.hf, keepD (dne hM.hn) hM.hn, fun i r' l' e1 e2 => ?_, hM.nd, hM.olo, hM.ogf, hM.ogn, hM.ogm, hM.omn, hM.zn, hM.lg, hM.lf, ?_, hM.lr⟩, bf'⟩
  · by_cases hi : i = j
    · have er' : r' = r := by
        rw [hi, er] at e1
        exact (Option.some.inj e1).symm
      subst er'
      have e2' : (D.notes.set j (l ++ [(y, n)]))[i]? = some l' := e2
      have hj : j < D.notes.length := (List.getElem?_eq_some_iff.mp el).1
      rw [hi, List.getElem?_set_self hj] at e2'
      cases e2'
      refine ⟨_, upd_same, ?_⟩
      unfold notesD
      rw [List.map_append]
      refine (DtAll.keepT hkt _ (tup_notes l) hd0).append (.cons (.tup (.inl (.inl ?_)) (.cons (.str _) (.cons (.int _) .nil))) .nil)
      rw [upd_ne tr, upd_same]
    · have e2' : (D.notes.set j (l ++ [(y, n)]))[i]? = some l' := e2
      rw [List.getElem?_set_ne (fun c => hi c.symm)] at e2'
      obtain ⟨xs', e3, d3⟩ := hM.rows i r' l' e1 e2'
      have nr' : r' ≠ r := fun c => by
        obtain ⟨h1, k1⟩ := List.getElem?_eq_some_iff.mp e1
        obtain ⟨h2, k2⟩ := List.getElem?_eq_some_iff.mp er
        exact hi ((List.getElem_inj hM.nd).mp (k1.trans (c.trans k2.symm)))
      exact ⟨xs', keepD nr' e3, DtAll.keepT hkt _ (tup_notes l') d3⟩
  · show (D.notes.set _ _).length = _
    rw [List.length_set]
    exact hM.ln
end
/-! ### where nothing has fallen yet -/
theorem Gd.gs {zs : List Str} {D : Md} {k : Nat} (h : Gd zs D k) (nz : NamesOk zs) (lg : D.given.length = zs.length) (ln : D.notes.length = zs.length) : Gs zs D := by
  refine ⟨nz, h.nt, fun f hf => ?_, Nat.le_trans h.my h.k1, lg, ?_, ln, fun j z ej => ?_⟩
  · rw [h.zf] at hf
    rw [List.eq_of_mem_replicate hf]
    exact Int.le_refl _
  · rw [h.zf]
    exact List.length_replicate
  · have hj : j < zs.length := (List.getElem?_eq_some_iff.mp ej).1
    have hg : j < D.given.length := by omega
    have hf : D.fallen[j]? = some 0 := by
      rw [h.zf]
      show (List.replicate zs.length (0 : Int))[j]? = some 0
      rw [List.getElem?_replicate, if_pos hj]
    rw [cash_eq]
    unfold cashD
    rw [h.sums, getD_of (List.getElem?_eq_getElem hg), getD_of hf]
    have := (h.gv _ (List.getElem_mem hg)).1
    omega
/-! ### what a fall does -/
theorem sum_zip_set {α : Type} (F : List (Str × Int) × Int → Int) : ∀ (L : List (List (Str × Int))) (fs : List Int) (j : Nat) (l : List (Str × Int)) (f x : Int), L[j]? = some l → fs[j]? = some f →
    ((L.zip (fs.set j x)).map F).sum = ((L.zip fs).map F).sum + (F (l, x) - F (l, f))
  | [], _, _, _, _, _, h, _ => by simp at h
  | _ :: _, [], _, _, _, _, _, h => by simp at h
  | a :: L, b :: fs, 0, l, f, x, h1, h2 => by
    simp at h1 h2
    subst h1 h2
    simp only [List.set_cons_zero, List.zip_cons_cons, List.map_cons, List.sum_cons]
    omega
  | a :: L, b :: fs, j + 1, l, f, x, h1, h2 => by
    have ih := sum_zip_set (α := α) F L fs j l f x (by simpa using h1) (by simpa using h2)
    simp only [List.set_cons_succ, List.zip_cons_cons, List.map_cons, List.sum_cons]
    omega
def fellD (D : Md) (j : Nat) (x : Int) : Md := { D with fallen := D.fallen.set j x }
theorem fellD_cash {zs : List Str} {D : Md} {j : Nat} {z t : Str} {l r : List (Str × Int)} {f m b : Int} (g : Gs zs D) (ej : zs[j]? = some z) (el : D.notes[j]? = some l) (ef : D.fallen[j]? = some f) (e : leftN l f = (t, b) :: r) (m0 : 0 ≤ m) (mb : m ≤ b)
    {i : Nat} {y : Str} (ei : zs[i]? = some y) : cashM (bkOf zs (fellD D j (f + m))) i y = cashM (bkOf zs D) i y + (if t = y then m else 0) - (if i = j then m else 0) := by
  have f0 := g.fl f (List.mem_of_getElem? ef)
  obtain ⟨_, h2⟩ := fall_one (fun n hn => (g.nt l (List.mem_of_getElem? el) n hn).2.1) f0 m0 mb e
  have e1 : fallTo (bkOf zs (fellD D j (f + m))) y = fallTo (bkOf zs D) y + (if t = y then m else 0) := by
    show ((D.notes.zip (D.fallen.set j (f + m))).map fun p => sumTo y (goneN p.1 p.2)).sum = ((D.notes.zip D.fallen).map fun p => sumTo y (goneN p.1 p.2)).sum + _
    rw [sum_zip_set (α := Nat) (fun p => sumTo y (goneN p.1 p.2)) D.notes D.fallen j l f (f + m) el ef]
    show _ + (sumTo y (goneN l (f + m)) - sumTo y (goneN l f)) = _
    rw [h2 y]
    omega
  have e2 : (bkOf zs (fellD D j (f + m))).drops.getD i 0 = (bkOf zs D).drops.getD i 0 + (if i = j then m else 0) := by
    show (D.fallen.set j (f + m)).getD i 0 = D.fallen.getD i 0 + _
    by_cases h : i = j
    · subst h
      rw [if_pos rfl, getD_of ef]
      have hj : i < D.fallen.length := (List.getElem?_eq_some_iff.mp ef).1
      rw [getD_of (List.getElem?_set_self hj)]
    · rw [if_neg h, List.getD_eq_getElem?_getD, List.getElem?_set_ne (fun c => h c.symm), List.getD_eq_getElem?_getD]
      omega
  unfold cashM
  rw [e1, e2]
  show (bkOf zs D).gifts.getD i 0 + _ - _ = _
  omega
theorem moreAt_one (z : Str) (m : Int) (y : Str) : moreAt [(z, m)] y = if z = y then m else 0 := by
  unfold moreAt
  by_cases h : z = y <;> simp [h]
theorem fell_eq {zs : List Str} {D : Md} {j : Nat} {z : Str} {f m : Int} (nd : zs.Nodup) (lf : D.fallen.length = zs.length) (ej : zs[j]? = some z) (ef : D.fallen[j]? = some f) : fallM (bkOf zs D) [(z, m)] = bkOf zs (fellD D j (f + m)) := by
  have e : ((zs.zip D.fallen).map fun p => p.2 + moreAt [(z, m)] p.1) = D.fallen.set j (f + m) := by
    refine List.ext_getElem? fun i => ?_
    rw [List.getElem?_map]
    by_cases hi : i < zs.length
    · have hf : i < D.fallen.length := by omega
      rw [List.getElem?_zip_eq_some (z := (zs[i], D.fallen[i])) |>.mpr ⟨List.getElem?_eq_getElem hi, List.getElem?_eq_getElem hf⟩]
      show some (D.fallen[i] + moreAt [(z, m)] zs[i]) = _
      rw [moreAt_one]
      obtain ⟨hj, ez⟩ := List.getElem?_eq_some_iff.mp ej
      obtain ⟨hjf, ev⟩ := List.getElem?_eq_some_iff.mp ef
      by_cases h : i = j
      · subst h
        rw [if_pos ez.symm, List.getElem?_set_self hf, ev]
      · rw [if_neg (fun c => h ((List.getElem_inj nd).mp (c.symm.trans ez.symm))), List.getElem?_set_ne (fun c => h c.symm), List.getElem?_eq_getElem hf, Int.add_zero]
    · rw [List.getElem?_eq_none (by rw [List.length_zip]; omega), List.getElem?_eq_none (by rw [List.length_set]; omega)]
      rfl
  show Bk.mk zs D.given D.notes ((zs.zip D.fallen).map fun p => p.2 + moreAt [(z, m)] p.1) = _
  rw [e]
  rfl
/-- some of a due note falls: to oneself, or by cash -/
theorem Gs.fall {zs : List Str} {D : Md} {j : Nat} {z t : Str} {l r : List (Str × Int)} {f m b : Int} (g : Gs zs D) (ej : zs[j]? = some z) (el : D.notes[j]? = some l) (ef : D.fallen[j]? = some f) (e : leftN l f = (t, b) :: r) (m0 : 0 ≤ m) (mb : m ≤ b)
    (hc : t = z ∨ m ≤ cashM (bkOf zs D) j z) : Gs zs (fellD D j (f + m)) ∧ FallOk (bkOf zs D) [(z, m)] := by
  have f0 := g.fl f (List.mem_of_getElem? ef)
  obtain ⟨h1, _⟩ := fall_one (fun n hn => (g.nt l (List.mem_of_getElem? el) n hn).2.1) f0 m0 mb e
  have cs : ∀ (i : Nat) (y : Str), zs[i]? = some y → 0 ≤ cashM (bkOf zs (fellD D j (f + m))) i y := fun i y ei => by
    rw [fellD_cash g ej el ef e m0 mb ei]
    have c0 := g.cs i y ei
    by_cases h : i = j
    · subst h
      have ey : y = z := Option.some.inj (ei.symm.trans ej)
      subst ey
      rw [if_pos rfl]
      rcases hc with hc | hc
      · rw [if_pos hc]
        omega
      · have : 0 ≤ (if t = y then m else 0) := by split <;> omega
        omega
    · rw [if_neg h]
      have : 0 ≤ (if t = y then m else 0) := by split <;> omega
      omega
  refine ⟨⟨g.nz, g.nt, fun x hx => ?_, g.my, g.lg, ?_, g.ln, cs⟩, ?_, fun i y ei => ?_⟩
  · rcases List.mem_or_eq_of_mem_set hx with hx | hx
    · exact g.fl x hx
    · omega
  · show (D.fallen.set _ _).length = _
    rw [List.length_set]
    exact g.lf
  · intro p hp
    rw [List.mem_singleton.mp hp]
    exact ⟨j, l, f, ej, el, ef, m0, h1⟩
  · rw [fell_eq g.nz.nd g.lf ej ef]
    exact cs i y ei
end Rc

namespace Rc
open PySem PySem.Spec PyProof.Rows L2 RZ
/-! ### what is told, as data -/
def ringD : Option (List Str) → PyData
  | none => .none
  | some r => .list (r.map .str)
def endD : Option Str → PyData
  | none => .none
  | some z => .str z
theorem RingV.dt {K : PySem.W.Frag} {H H' : Hp} {v : V} {o : Option (List Str)} (h : RingV H H' v o) : Dt K H' v (ringD o) := by
  cases o with
  | none =>
    have e : v = .non := h
    subst e
    exact .non
  | some r =>
    obtain ⟨a, rfl, _, e⟩ := h
    exact .lst (.inl (.inl e)) (DtAll.strs r)
theorem end_dt {K : PySem.W.Frag} {H : Hp} (o : Option Str) : Dt K H (nxV o) (endD o) := by
  cases o with
  | none => exact .non
  | some z => exact .str z
theorem NiceD.mono {d : PyData} {n m : Nat} (h : NiceD d n) (hm : n ≤ m) : NiceD d m := ⟨h.sh, h.lv, h.nd, h.dp, Nat.le_trans h.bk hm, h.cl⟩
theorem nice_none : NiceD .none 0 :=
  ⟨by simp only [PyData.showable], by simp only [PyData.leavesShort], by simp only [PyData.hasDict], by simp only [PyData.depth]; omega, by simp only [PyData.bulk]; omega, by simp only [PyData.canLay0]⟩
/-- nice and shallow -/
structure NiceS (d : PyData) (n : Nat) : Prop where
  ok : NiceD d n
  dp : d.depth ≤ 4
theorem niceS_none : NiceS .none 200 := ⟨nice_none.mono (by decide), by simp only [PyData.depth]; omega⟩
theorem niceS_names {zs : List Str} (h : ∀ z ∈ zs, nameT z = true) (l : zs.length ≤ 12) : NiceS (.list (zs.map .str)) 200 := by
  refine ⟨(nice_names h).list.mono (by omega), ?_⟩
  simp only [PyData.depth]
  have := dep_map (f := PyData.str) (n := 0) (l := zs) fun _ _ => by simp only [PyData.depth]; omega
  omega
theorem niceS_name {z : Str} (h : nameT z = true) : NiceS (.str z) 200 := ⟨(nice_name h).mono (by decide), by simp only [PyData.depth]; omega⟩
theorem niceS_due {zs : List Str} (hz : ∀ z ∈ zs, nameT z = true) {o : Option (Str × Int)} (h : ∀ n, o = some n → NoteOk zs n) : NiceS (dueD o) 200 := by
  cases o with
  | none => exact niceS_none
  | some n =>
    obtain ⟨a, b⟩ := nice_note hz (h n rfl)
    exact ⟨a.mono (by decide), by show (noteD n).depth ≤ 4; omega⟩
theorem niceS_ring {o : Option (List Str)} (h : ∀ r, o = some r → (∀ z ∈ r, nameT z = true) ∧ r.length ≤ 12) : NiceS (ringD o) 200 := by
  cases o with
  | none => exact niceS_none
  | some r =>
    obtain ⟨a, b⟩ := h r rfl
    exact niceS_names a b
theorem niceS_end {o : Option Str} (h : ∀ z, o = some z → nameT z = true) : NiceS (endD o) 200 := by
  cases o with
  | none => exact niceS_none
  | some z => exact niceS_name (h z rfl)
inductive NiceL : List PyData → Prop
  | nil : NiceL []
  | cons {d : PyData} {ds : List PyData} : NiceS d 200 → NiceL ds → NiceL (d :: ds)
theorem NiceL.all : ∀ {ds : List PyData}, NiceL ds → NiceA ds (201 * ds.length)
  | _, .nil => NiceA.nil
  | _, .cons (ds := ds) a b => by
    have c := NiceA.cons a.ok a.dp (NiceL.all b)
    rw [List.length_cons]
    have e : 201 * (ds.length + 1) = 200 + 1 + 201 * ds.length := by omega
    rw [e]
    exact c
theorem NiceL.top {ds : List PyData} (h : NiceL ds) (l : ds.length ≤ 30) : NiceD (.list ds) 8000 := h.all.list.mono (by omega)
/-! ### rings and trails are of persons -/
theorem ring_names {zs : List Str} {nx : Str → Option Str} {z : Str} (nm : ∀ z ∈ zs, nameT z = true) (lz : zs.length ≤ 12) (c : Leads zs nx) (hz : z ∈ zs) : ∀ r, ringM zs nx z = some r → (∀ y ∈ r, nameT y = true) ∧ r.length ≤ 12 := fun r h => by
  have en := trail_ended c hz
  unfold ringM at h
  split at h
  · have e := Option.some.inj h
    subst e
    refine ⟨fun y hy => nm y (en.sub y ?_), ?_⟩
    · rcases List.mem_append.mp hy with hy | hy
      · exact List.mem_of_mem_drop hy
      · exact List.mem_of_mem_take hy
    · rw [List.length_append, List.length_drop, List.length_take]
      have := Nat.le_trans (nodup_le _ _ en.nd en.sub) lz
      omega
  · cases h
theorem trail_names {zs : List Str} {nx : Str → Option Str} {z : Str} (nm : ∀ z ∈ zs, nameT z = true) (lz : zs.length ≤ 12) (c : Leads zs nx) (hz : z ∈ zs) : (∀ y ∈ trailM zs nx z, nameT y = true) ∧ (trailM zs nx z).length ≤ 12 := by
  have en := trail_ended c hz
  exact ⟨fun y hy => nm y (en.sub y hy), Nat.le_trans (nodup_le _ _ en.nd en.sub) lz⟩
theorem end_names {zs : List Str} {nx : Str → Option Str} {z : Str} (nm : ∀ z ∈ zs, nameT z = true) (c : Leads zs nx) (hz : z ∈ zs) : ∀ y, endM zs nx z = some y → nameT y = true := fun y h => by
  have en := trail_ended c hz
  obtain ⟨ini, x, e1, _⟩ := en.last
  unfold endM at h
  split at h
  · have e := Option.some.inj h
    rw [lastM_eq e1] at e
    subst e
    exact nm _ (en.sub _ (by rw [e1]; exact List.mem_append.mpr (.inr List.mem_cons_self)))
  · cases h
/-! ### a note to oneself is a ring -/
theorem self_trail {zs : List Str} {nx : Str → Option Str} {z : Str} (h : nx z = some z) : trailM zs nx z = [z] := by
  unfold trailM
  rw [h, trailF_in List.mem_cons_self]
theorem self_last {zs : List Str} {nx : Str → Option Str} {z : Str} (h : nx z = some z) : lastM zs nx z = z := lastM_eq (ini := []) (self_trail h)
theorem self_ring {zs : List Str} {nx : Str → Option Str} {z : Str} (h : nx z = some z) (hz : z ∈ zs) : ringM zs nx z = some [z] := by
  obtain ⟨f, r, _, e1, e2, _⟩ := find_some (T := [z]) hz List.mem_cons_self
  have ef : f = z := List.mem_singleton.mp e2
  unfold ringM
  rw [self_last h, if_pos h, self_trail h, e1, ef]
  simp
theorem self_end {zs : List Str} {nx : Str → Option Str} {z : Str} (h : nx z = some z) : endM zs nx z = none := by
  unfold endM
  rw [self_last h, h]
  rfl
/-- x[0] if x != [] else None, x a list of notes -/
def tFirst (K : PySem.W.Frag) (i : Nat) : TE := fun σ H Q => ∃ (m : Addr) (mx : List V) (l : List (Str × Int)) (zs : List Str), σ[i]? = some (some (.ref m)) ∧ H m = some (.lst mx) ∧ DtAll K H mx (notesD l) ∧ (∀ n ∈ l, NoteOk zs n) ∧ (∀ z ∈ zs, nameT z = true) ∧
  ∀ v H', Same H H' → Dt K H' v (dueD l.head?) → Q v H'
end Rc

namespace Rc
open PySem PySem.Spec PyProof.Rows L2 RZ
/-! ### a built-in special method of an own class -/
section
variable {prog : Program} {w : World} {A : Around} {E : Value → Shared → Prop} {s : Shared} {h₀ : Heap} {L x y C f : Addr} {m : Str → Option Value} {K : PySem.W.Frag} {ox : Obj} {od : Option Obj}
theorem ifBoundB {M : Model} {name : Str} {id : String} {args : List Value} {Q : Option Value → Shared → Prop} (X : K.In s.heap) (I : PySem.W.InstAt s.heap x ox C od) (hs : PySem.W.findIn K (.ref C) name = some (some (.builtin id)))
    (S : ∀ self, bindSpecial (.builtin id) self = pure (.builtin id, [self])) (h : wpAny M A (call (.builtin id) (.ref x :: args)) (fun v => Q (some v)) E s) : wpAny M A (callSpecialIfBound? (.ref x) name args) Q E s := by
  simp only [callSpecialIfBound?, bindSpecialIfBound?]
  refine wpAny_holding (wpAny_bind (wpAny_bind (wpAny_bind (I.type.here ((PySem.W.looks_findIn X hs).here ?_)))))
  simp only [S]
  refine wpAny_bind (wpAny_askSetting (wpAny_ite ?_))
  have fin : wpAny M A (call (.builtin id) ([.ref x] ++ args) >>= fun v => pure (some v)) Q E s := wpAny_bind (wpAny_mono h (fun v s' h' => wpAny_pure h') fun _ _ h' => h')
  split
  · exact wpAny_bind (wpAny_pure (wpAny_pure fin))
  · exact wpAny_tryCatch (wpAny_bind (wpAny_pure (wpAny_pure fin)))
set_option maxHeartbeats 2000000 in
/-- a != b by an own == -/
theorem ne_own {Q : Value → Shared → Prop} (hu : A.units + 1 < cLine) (F : Fr h₀ L s.heap m) (X₀ : K.In h₀) (I : PySem.W.InstAt s.heap x ox C od) (hy : PySem.W.Looks (model prog w) s.heap (typeOf (.ref y)) (.ref C))
    (hne : PySem.W.findIn K (.ref C) "__ne__" = some (some (.builtin "object.__ne__"))) (heq : PySem.W.findIn K (.ref C) "__eq__" = some (some (.ref f))) (hf : PySem.W.isFn K (.ref f) = true) (ho : PySem.W.subIn K (.ref C) (.type "object") = some true)
    (h : wpAny (model prog w) A.in1 (call (.ref f) [.ref x, .ref y]) (fun v s' => ∃ b, v = .bool b ∧ Q (.bool (!b)) s') E s) : wpAny (model prog w) A (richCompare .NotEq (.ref x) (.ref y)) Q E s := by
  obtain ⟨hp, gg, dd, tt, os⟩ := s
  have X := X₀.keeps F.keep
  have body : wpAny (model prog w) A.in1 (Builtin.«object.__ne__» ⟨[.ref x, .ref y], []⟩) (fun fin s' => ∃ b, fin = .done (.ret (.bool (!b))) ∧ Q (.bool (!b)) s') E ⟨hp, gg, dd, tt, os⟩ := by
    unfold Builtin.«object.__ne__»
    repeat (first
      | with_reducible refine wpAny_cRoomFor hu ?_
      | (refine wpAny_bind (m := callSpecialIfBound? (.ref x) (Str.ofString "__eq__") [.ref y])
          (PySem.W.ifBound_K X I heq hf (wpAny_mono h (fun r s' hr => by
            obtain ⟨b, rfl, hq⟩ := hr
            repeat (first | exact ⟨b, rfl, hq⟩ | exact wpAny_pure ⟨b, rfl, hq⟩ | exact wpAny_truthy_bool ⟨b, rfl, hq⟩ | (refine wpAny_bind (m := truthy (.bool _)) (wpAny_truthy_bool ?_)) | wp_step)) fun _ _ e => e)))
      | wp_step)
  have one : wpAny (model prog w) A (tryCompare (.ref x) "__ne__" (.ref y)) (fun r s' => ∃ v, r = some v ∧ Q v s') E ⟨hp, gg, dd, tt, os⟩ := by
    simp only [tryCompare]
    refine wpAny_bind (ifBoundB X I hne PySem.F.cmp_object.ne.bind (wpAny_call (codeAny_call_builtin PySem.F.cmp_object.ne.plain PySem.F.cmpEntry_ne
      (PySem.W.check_slot PySem.F.cmpKind_ne PySem.F.cmpSplit_ne (I.type.andThen (PySem.W.looks_subIn X ho)) (PySem.F.cmpArgs_ne _ _) (wpAny_mono body (fun fin s' hv => ?_) fun _ _ e => e)))))
    obtain ⟨b, rfl, hq⟩ := hv
    exact wpAny_pure ⟨_, rfl, hq⟩
  unfold richCompare
  simp only [oneThing_ref]
  refine wpAny_holding (wpAny_bind (wpAny_cRoomFor (Nat.lt_of_succ_lt hu) ?_))
  rw [cmpInfo_NotEq]
  dsimp only
  refine wpAny_bind (I.type.here (wpAny_bind (hy.here ?_)))
  rw [show (Value.ref C != Value.ref C) = false from by simp]
  simp only [Bool.false_eq_true, if_false]
  refine wpAny_bind (wpAny_pure ?_)
  simp only [Bool.false_eq_true, if_false]
  refine wpAny_bind (wpAny_mono one (fun r s' z => ?_) fun _ _ e => e)
  obtain ⟨v, rfl, hq⟩ := z
  exact wpAny_pure hq
end
/-! ### == and != of books -/
structure ClsE (K : PySem.W.Frag) (C : Addr) : Prop where
  ha : PySem.W.findIn K (.ref C) "__class__" = some (some (.builtin "object.__class__"))
  hn : PySem.W.specialIn K (.builtin "object.__class__") "__get__" = some (some (.builtin "getset_descriptor.__get__"))
  htk : PySem.W.takesIn K (.builtin "object.__class__") = some true
  hm : PySem.W.mroIn K C (.type "object") = some true
  ne : PySem.W.findIn K (.ref C) "__ne__" = some (some (.builtin "object.__ne__"))
def spEqB (K : PySem.W.Frag) (C : Addr) : Sp := fun vs H Q _ => ∃ a b M N, vs = [.ref a, .ref b] ∧ BookAt K C H a M ∧ BookAt K C H b N ∧ KeyOk M ∧ KeyOk N ∧ ∀ H', Same H H' → Q (.bl (PyData.eqv (keyD M) (keyD N))) H'
section
variable {P : Program} {w : World} {K : PySem.W.Frag} {mg : Str → Option Value} {base : Heap}
abbrev sEqB : Stmt := inBook 18
theorem scEqB : FnScope ["self", "other"] ["self", "other"] (defScope sEqB) := ⟨rfl, rfl, rfl, by decide +kernel, rfl, by decide +kernel, by decide +kernel⟩
theorem ok_eqB {f fk C : Addr} {fd fdk : FuncData} (F : Fun K "__eq__" "Book.__eq__" sEqB f fd) (T : ClsF K C) (TE : ClsE K C) (B : Blt mg) (gC : mg "Book" = some (.ref C)) (KY : HasM P w K mg base C 1 "key" ["self"] (spKey K C) fk fdk) :
    FnOk P w K mg base CX0 2 f fd ["self", "other"] (spEqB K C) := by
  refine F.ok scEqB (fun vs H Q E h => ?_) (fun cdv A outer s H vs Q E hr h => ?_)
  · obtain ⟨_, _, _, _, rfl, _⟩ := h
    rfl
  · obtain ⟨a, b, M, N, rfl, ha, hb, oM, oN, q⟩ := h
    refine ⟨_, pss_one (ps_ret (pe_and (pe_callB call_isi (by rfl) B.isi (by decide +kernel) (pa_cons (pv 1) (pa_cons (pe_glob (v := .ref C) (by rfl) gC rfl) pa_nil)))
      (pe_one (pe_cmpR (op_eqD hr.units) (pe_meth0 (pv 0) T.cl KY.m KY.ok hr KY.b .nil pass0) (pe_meth0 (pv 1) T.cl KY.m KY.ok hr KY.b .nil pass0) (nomark _))))), ?_⟩
    obtain ⟨dx, tn, on, wg, ws, wd, e, _⟩ := hb.ex
    obtain ⟨dx2, tn2, on2, wg2, ws2, wd2, e2, _⟩ := ha.ex
    have kt : PySem.W.kitOne K (.ref C) (.ref C) = some true := by
      unfold PySem.W.kitOne
      rw [if_pos (by simp)]
    refine ⟨.ref b, rfl, .ref b, .ref C, .ref C, .ref C, true, rfl, .own C, .base (.ins e T.cl TE.ha TE.hn TE.htk TE.hm), kt, _, rfl, ?_⟩
    refine iteT ⟨.ref a, rfl, a, dx2, _, rfl, e2, bf_no (NoF.mk' (by decide +kernel)), a, M, rfl, ha, fun v1 H1 s1 d1 => ?_⟩
    refine ⟨.ref b, rfl, b, dx, _, rfl, s1 _ _ e, bf_no (NoF.mk' (by decide +kernel)), b, N, rfl, book_same hb s1, fun v2 H2 s2 d2 => ?_⟩
    exact ⟨keyD M, keyD N, Dt.dp _ (tup_key M) (Dt.same s2 _ d1), Dt.dp _ (tup_key N) d2, oM, oN, q _ (s1.trans s2)⟩
end
def rEqB (K : PySem.W.Frag) (C : Addr) (n : Bool) : R2 := fun x y H Q => ∃ a b M N, x = .ref a ∧ y = .ref b ∧ BookAt K C H a M ∧ BookAt K C H b N ∧ KeyOk M ∧ KeyOk N ∧ ∀ H', Same H H' → Q (.bl (if n = true then !PyData.eqv (keyD M) (keyD N) else PyData.eqv (keyD M) (keyD N))) H'
section
variable {X : Cx} {C f : Addr} {fd : FuncData}
theorem op_neB {K : PySem.W.Frag} (eK : X.K = K) (G : FnOk X.prog X.w X.K X.mg X.base CX0 2 f fd ["self", "other"] (spEqB X.K C)) (bd : Binds X.K fd ["self", "other"] []) (hm : Meth X.K C "__eq__" f) (TE : ClsE X.K C) (hr : Room 3 X.A) : OpR X (compareOp .NotEq) (rEqB K C true) := by
  subst eK
  intro pins s σ H x y v u Q I rx ry h
  obtain ⟨a, b, M, N, rfl, rfl, ha, hb, oM, oN, q⟩ := h
  cases rx
  cases ry
  obtain ⟨dx, tn, on, wg, ws, wd, e, _⟩ := ha.ex
  obtain ⟨dx2, tn2, on2, wg2, ws2, wd2, e2, _⟩ := hb.ex
  obtain ⟨m, Fm⟩ := I.fr
  obtain ⟨mA, O, _⟩ := ins_get I.hok e
  obtain ⟨od, J, _⟩ := O.look
  obtain ⟨mB, O2, _⟩ := ins_get I.hok e2
  obtain ⟨od2, J2, _⟩ := O2.look
  show wpAny (model X.prog X.w) X.A (richCompare .NotEq (.ref a) (.ref b)) (EP X pins σ Q) X.xe s
  refine ne_own (hu_of hr) Fm I.ok.mod.kin J J2.type TE.ne hm.at_ hm.fn TE.hm ?_
  have e0 := I.env0
  refine wpAny_call (codeAny_mono (G.run X.A.in1 X.stack s H ⟨[.ref a, .ref b], []⟩ [.ref a, .ref b] [.ref a, .ref b] (fun v H' => v = .bl (PyData.eqv (keyD M) (keyD N)) ∧ Q (.bl (!PyData.eqv (keyD M) (keyD N))) H') E0 hr.in1 e0.in1 (bd s [.ref a, .ref b] I.kIn rfl) (.cons rfl (.cons rfl .nil)) ⟨a, b, M, N, rfl, ha, hb, oM, oN, fun H' s' => ⟨rfl, q H' s'⟩⟩) fun r s' hq => ?_)
  match r, hq with
  | .error e, hq => exact hq.elim
  | .ok .next, hq => exact hq.elim
  | .ok .brk, hq => exact hq.elim
  | .ok .cont, hq => exact hq.elim
  | .ok (.ret u), hq =>
    obtain ⟨v, H', I', rv, ev, q'⟩ := I.after hq
    subst ev
    cases rv
    exact ⟨_, rfl, ⟨.bl _, H', I', rfl, q'⟩⟩
end
end Rc

namespace Rc
open PySem PySem.Spec PyProof.Rows L2 RZ
/-! ### the most that can be paid, cleared -/
def mostP (M : Bk) (j : Nat) (z : Str) : Int := match (duesM M).getD j none with
  | none => 0
  | some n => if cashM M j z < n.2 then cashM M j z else n.2
def amtAt (zs : List Str) (os : List (Option (Str × Int))) (y : Str) : Int := match os.getD (zs.idxOf y) none with
  | none => 0
  | some n => n.2
def leastI : List Int → Int
  | [] => 0
  | x :: r => r.foldl (fun a b => if b < a then b else a) x
theorem least_fold : ∀ (r : List Int) (x : Int), (r.foldl (fun a b => if b < a then b else a) x = x ∨ r.foldl (fun a b => if b < a then b else a) x ∈ r) ∧ r.foldl (fun a b => if b < a then b else a) x ≤ x ∧ ∀ y ∈ r, r.foldl (fun a b => if b < a then b else a) x ≤ y
  | [], x => ⟨.inl rfl, Int.le_refl _, fun y hy => by cases hy⟩
  | b :: r, x => by
    obtain ⟨h1, h2, h3⟩ := least_fold r (if b < x then b else x)
    rw [List.foldl_cons]
    refine ⟨?_, ?_, fun y hy => ?_⟩
    · rcases h1 with h1 | h1
      · rw [h1]
        by_cases c : b < x
        · rw [if_pos c]
          exact .inr List.mem_cons_self
        · rw [if_neg c]
          exact .inl rfl
      · exact .inr (List.mem_cons_of_mem _ h1)
    · refine Int.le_trans h2 ?_
      split <;> omega
    · rcases List.mem_cons.mp hy with hy | hy
      · subst hy
        refine Int.le_trans h2 ?_
        split <;> omega
      · exact h3 y hy
theorem least_mem {ns : List Int} (h : ns ≠ []) : leastI ns ∈ ns ∧ ∀ y ∈ ns, leastI ns ≤ y := by
  cases ns with
  | nil => exact absurd rfl h
  | cons x r =>
    obtain ⟨h1, h2, h3⟩ := least_fold r x
    refine ⟨?_, fun y hy => ?_⟩
    · rcases h1 with h1 | h1
      · exact List.mem_cons.mpr (.inl h1)
      · exact List.mem_cons_of_mem _ h1
    · rcases List.mem_cons.mp hy with hy | hy
      · subst hy
        exact h2
      · exact h3 y hy
theorem least_uniq {ns : List Int} {m : Int} (h1 : m ∈ ns) (h2 : ∀ y ∈ ns, m ≤ y) : m = leastI ns := by
  obtain ⟨a, b⟩ := least_mem (ns := ns) (fun e => by rw [e] at h1; cases h1)
  have := h2 _ a
  have := b _ h1
  omega
def mostC (zs : List Str) (os : List (Option (Str × Int))) (z : Str) : Int := match ringM zs (nxOf zs os) z with
  | none => 0
  | some r => leastI (r.map (amtAt zs os))
theorem mostC_none {zs : List Str} {os : List (Option (Str × Int))} {z : Str} (h : ringM zs (nxOf zs os) z = none) : mostC zs os z = 0 := by
  unfold mostC
  rw [h]
theorem mostC_some {zs : List Str} {os : List (Option (Str × Int))} {z : Str} {r : List Str} (h : ringM zs (nxOf zs os) z = some r) : mostC zs os z = leastI (r.map (amtAt zs os)) := by
  unfold mostC
  rw [h]
theorem mostP_none {M : Bk} {j : Nat} {z : Str} (h : (duesM M).getD j none = none) : mostP M j z = 0 := by
  unfold mostP
  rw [h]
theorem mostP_some {M : Bk} {j : Nat} {z : Str} {n : Str × Int} (h : (duesM M).getD j none = some n) : mostP M j z = if cashM M j z < n.2 then cashM M j z else n.2 := by
  unfold mostP
  rw [h]
end Rc

namespace Rc
open PySem PySem.Spec PyProof.Rows L2 RZ
/-! ### bounds, for what is shown -/
structure Gb (D : Md) : Prop where
  gv : ∀ g ∈ D.given, 0 ≤ g ∧ g ≤ 100 * 10 ^ 58
  fw : ∀ (j : Nat) (l : List (Str × Int)) (f : Int), D.notes[j]? = some l → D.fallen[j]? = some f → f ≤ wholeN l
theorem wholeN_le {zs : List Str} : ∀ {l : List (Str × Int)}, (∀ n ∈ l, NoteOk zs n) → wholeN l ≤ (l.length : Int) * 10 ^ 58
  | [], _ => by simp [wholeN]
  | n :: r, h => by
    have ih := wholeN_le fun m hm => h m (List.mem_cons_of_mem _ hm)
    have h1 : n.2 ≤ 10 ^ 58 := (h n List.mem_cons_self).2.2
    rw [wholeN_cons, List.length_cons]
    have e : ((r.length + 1 : Nat) : Int) * 10 ^ 58 = (r.length : Int) * 10 ^ 58 + 10 ^ 58 := by
      rw [Int.natCast_add, Int.add_mul]
      rfl
    rw [e]
    omega
theorem sumTo_le (z : Str) : ∀ {l : List (Str × Int)} {f : Int}, (∀ n ∈ l, 1 ≤ n.2) → 0 ≤ f → 0 ≤ sumTo z (goneN l f) ∧ sumTo z (goneN l f) ≤ wholeN l
  | [], f, _, _ => ⟨Int.le_refl _, Int.le_refl _⟩
  | (t, a) :: r, f, h, f0 => by
    have h1 : 1 ≤ a := h _ List.mem_cons_self
    have hp : 0 ≤ partOf a f ∧ partOf a f ≤ f ∧ partOf a f ≤ a := by
      unfold partOf
      split <;> omega
    obtain ⟨i1, i2⟩ := sumTo_le z (l := r) (f := f - partOf a f) (fun m hm => h m (List.mem_cons_of_mem _ hm)) (by omega)
    rw [goneN_cons, sumTo_app, sumTo_one z t _ hp.1, wholeN_cons]
    have : 0 ≤ (if t = z then partOf a f else 0) ∧ (if t = z then partOf a f else 0) ≤ a := by
      split <;> omega
    exact ⟨by omega, by show _ ≤ a + wholeN r; omega⟩
theorem sums_le (z : Str) : ∀ {L : List (List (Str × Int) × Int)}, (∀ p ∈ L, (∀ n ∈ p.1, 1 ≤ n.2) ∧ 0 ≤ p.2) → 0 ≤ (L.map fun p => sumTo z (goneN p.1 p.2)).sum ∧ (L.map fun p => sumTo z (goneN p.1 p.2)).sum ≤ (L.map fun p => wholeN p.1).sum
  | [], _ => ⟨Int.le_refl _, Int.le_refl _⟩
  | p :: r, h => by
    obtain ⟨h1, h2⟩ := h p List.mem_cons_self
    obtain ⟨a, b⟩ := sumTo_le z h1 h2
    obtain ⟨i1, i2⟩ := sums_le z (L := r) fun q hq => h q (List.mem_cons_of_mem _ hq)
    simp only [List.map_cons, List.sum_cons]
    omega
theorem wholes_le {zs : List Str} : ∀ {L : List (List (Str × Int) × Int)}, (∀ p ∈ L, ∀ n ∈ p.1, NoteOk zs n) → (L.map fun p => wholeN p.1).sum ≤ (((L.map fun p => p.1.length).sum : Nat) : Int) * 10 ^ 58
  | [], _ => by simp
  | p :: r, h => by
    have h1 := wholeN_le (h p List.mem_cons_self)
    have ih := wholes_le (L := r) fun q hq => h q (List.mem_cons_of_mem _ hq)
    simp only [List.map_cons, List.sum_cons]
    rw [Int.natCast_add, Int.add_mul]
    omega
theorem Gs.fallTo {zs : List Str} {D : Md} (g : Gs zs D) (z : Str) : fallTo (bkOf zs D) z ≤ 60 * 10 ^ 58 := by
  have h1 := (sums_le z (L := D.notes.zip D.fallen) fun p hp => by
    obtain ⟨a, b⟩ := List.of_mem_zip hp
    exact ⟨fun n hn => (g.nt _ a n hn).2.1, g.fl _ b⟩).2
  have h2 := wholes_le (zs := zs) (L := D.notes.zip D.fallen) fun p hp => g.nt _ (List.of_mem_zip hp).1
  have h3 : ((D.notes.zip D.fallen).map fun p => p.1.length) = D.notes.map List.length := by
    rw [show (fun p : List (Str × Int) × Int => p.1.length) = List.length ∘ Prod.fst from rfl, ← List.map_map, List.map_fst_zip (by rw [g.ln, g.lf]; exact Nat.le_refl _)]
  rw [h3] at h2
  have h4 := g.my
  have h5 : ((D.notes.map List.length).sum : Int) * 10 ^ 58 ≤ 60 * 10 ^ 58 := Int.mul_le_mul_of_nonneg_right (by omega) (by decide)
  show ((D.notes.zip D.fallen).map fun p => sumTo z (goneN p.1 p.2)).sum ≤ _
  omega
theorem big_of {i : Int} (h0 : 0 ≤ i) (h1 : i ≤ 1000 * 10 ^ 58) : BigOk i := by
  have e : (1000 : Int) * 10 ^ 58 < 2 ^ 300 := by decide
  have e2 : ((2 ^ 300 : Nat) : Int) = 2 ^ 300 := by decide
  unfold BigOk
  omega
theorem Gb.bigs {zs : List Str} {D : Md} (b : Gb D) (g : Gs zs D) {j : Nat} {z : Str} {gv f : Int} {l : List (Str × Int)} (ej : zs[j]? = some z) (eg : D.given[j]? = some gv) (ef : D.fallen[j]? = some f) (el : D.notes[j]? = some l) :
    BigOk gv ∧ BigOk f ∧ BigOk (cashM (bkOf zs D) j z) := by
  obtain ⟨g0, g1⟩ := b.gv gv (List.mem_of_getElem? eg)
  have f0 := g.fl f (List.mem_of_getElem? ef)
  have f1 := b.fw j l f el ef
  have w1 := wholeN_le (g.nt l (List.mem_of_getElem? el))
  have ll := g.rows l (List.mem_of_getElem? el)
  have w2 : (l.length : Int) * 10 ^ 58 ≤ 60 * 10 ^ 58 := Int.mul_le_mul_of_nonneg_right (by omega) (by decide)
  have c0 := g.cs j z ej
  have c1 := g.fallTo z
  have ec : cashM (bkOf zs D) j z = gv + fallTo (bkOf zs D) z - f := by
    unfold cashM
    show D.given.getD j 0 + _ - D.fallen.getD j 0 = _
    rw [getD_of eg, getD_of ef]
  refine ⟨big_of g0 (by omega), big_of f0 (by omega), big_of c0 (by rw [ec]; omega)⟩
theorem Gd.gb {zs : List Str} {D : Md} {k : Nat} (h : Gd zs D k) : Gb D := by
  refine ⟨fun g hg => ?_, fun j l f el ef => ?_⟩
  · obtain ⟨a, b⟩ := h.gv g hg
    have k1 := h.k1
    have : (k : Int) * 10 ^ 58 ≤ 60 * 10 ^ 58 := Int.mul_le_mul_of_nonneg_right (by omega) (by decide)
    exact ⟨a, by omega⟩
  · have hf := List.mem_of_getElem? ef
    rw [h.zf] at hf
    rw [List.eq_of_mem_replicate hf]
    exact wholeN_nonneg fun n hn => (h.nt l (List.mem_of_getElem? el) n hn).2.1
theorem Gb.fell {D : Md} {j : Nat} {l : List (Str × Int)} {x : Int} (b : Gb D) (el : D.notes[j]? = some l) (hx : x ≤ wholeN l) : Gb (fellD D j x) := by
  refine ⟨b.gv, fun i l' f' el' ef' => ?_⟩
  have ef2 : (D.fallen.set j x)[i]? = some f' := ef'
  by_cases h : i = j
  · subst h
    have e : l' = l := Option.some.inj (Eq.trans (Eq.symm (show D.notes[i]? = some l' from el')) el)
    obtain ⟨hl, e2⟩ := List.getElem?_eq_some_iff.mp ef2
    rw [List.getElem_set_self] at e2
    rw [e, ← e2]
    exact hx
  · rw [List.getElem?_set_ne (fun c => h c.symm)] at ef2
    exact b.fw i l' f' el' ef2
theorem Gs.key {zs : List Str} {D : Md} (g : Gs zs D) : KeyOk (bkOf zs D) := by
  have ln : ∀ n : Str × Int, (noteD n).depth = 1 := fun n => by simp [noteD, PyData.depth, PyData.depthAll]
  have ls : ∀ l, (stackD l).depth ≤ 2 := fun l => by
    unfold stackD notesD
    simp only [PyData.depth]
    have := dep_map (f := noteD) (n := 1) (l := l) fun n _ => Nat.le_of_eq (ln n)
    omega
  have c1 : PyData.canLayAll0 (zs.map .str) = true := (nice_names g.nz.nm).cl
  have c2 : ∀ l : List Int, PyData.canLayAll0 (l.map .int) = true := fun l => lay_map fun x _ => by simp only [PyData.canLay0]
  have c3 : PyData.canLayAll0 (D.notes.map stackD) = true := lay_map fun l hl => by
    unfold stackD
    simp only [PyData.canLay0]
    exact (nice_notes g.nz.nm (g.nt l hl)).cl
  unfold KeyOk SeqAt.shaped
  have ec : (keyD (bkOf zs D)).canLay0 = true := by
    show (PyData.tuple [.tuple (zs.map .str), .tuple (D.given.map .int), .tuple (D.notes.map stackD), .tuple (D.fallen.map .int)]).canLay0 = true
    simp only [PyData.canLay0, PyData.canLayAll0, c1, c2, c3, Bool.and_self]
  have ed : (keyD (bkOf zs D)).depth ≤ 64 := by
    show (PyData.tuple [.tuple (zs.map .str), .tuple (D.given.map .int), .tuple (D.notes.map stackD), .tuple (D.fallen.map .int)]).depth ≤ 64
    simp only [PyData.depth, PyData.depthAll]
    have d1 := dep_map (f := PyData.str) (n := 0) (l := zs) fun _ _ => by simp only [PyData.depth]; omega
    have d2 := dep_map (f := PyData.int) (n := 0) (l := D.given) fun _ _ => by simp only [PyData.depth]; omega
    have d3 := dep_map (f := stackD) (n := 2) (l := D.notes) fun l _ => ls l
    have d4 := dep_map (f := PyData.int) (n := 0) (l := D.fallen) fun _ _ => by simp only [PyData.depth]; omega
    omega
  rw [ec, decide_eq_true ed]
  rfl
theorem key_eqv {M : Bk} (h : KeyOk M) : PyData.eqv (keyD M) (keyD M) = true := SeqAt.eqv_refl _ (SeqAt.canLay_of_shaped h)
theorem fold_eq (zs : List Str) : ∀ (ds : List Deed) (D : Md), ds.foldl stepM (bkOf zs D) = bkOf zs (ds.foldl (doneD zs) D)
  | [], _ => rfl
  | d :: r, D => by
    rw [List.foldl_cons, List.foldl_cons, step_eq, fold_eq zs r]
/-! ### rings hang together -/
def Chain (nx : Str → Option Str) (T : List Str) : Prop := ∀ (i : Nat) (x y : Str), T[i]? = some x → T[i + 1]? = some y → nx x = some y
theorem chain_snoc {nx : Str → Option Str} {ini : List Str} {l y : Str} (c : Chain nx (ini ++ [l])) (h : nx l = some y) : Chain nx (ini ++ [l] ++ [y]) := fun i a b h1 h2 => by
  have lb : i + 1 < (ini ++ [l] ++ [y]).length := (List.getElem?_eq_some_iff.mp h2).1
  rw [List.length_append] at lb
  have l1 : [y].length = 1 := rfl
  rw [List.getElem?_append_left (by omega)] at h1
  by_cases hi : i + 1 < (ini ++ [l]).length
  · rw [List.getElem?_append_left hi] at h2
    exact c i a b h1 h2
  · have ei : i = ini.length := by
      rw [List.length_append] at hi lb
      have l2 : [l].length = 1 := rfl
      omega
    subst ei
    rw [List.getElem?_append_right (by rw [List.length_append]; exact Nat.le_refl _)] at h2
    rw [List.getElem?_append_right (Nat.le_refl _)] at h1
    simp at h1 h2
    rw [← h1, ← h2]
    exact h
theorem trail_chain {nx : Str → Option Str} : ∀ (k : Nat) (ini : List Str) (l : Str) (d : Option Str), Chain nx (ini ++ [l]) → d = nx l → Chain nx (trailF nx k (ini ++ [l]) d)
  | 0, _, _, _, c, _ => c
  | k + 1, ini, l, none, c, _ => c
  | k + 1, ini, l, some y, c, e => by
    simp only [trailF]
    split
    · exact c
    · exact trail_chain k (ini ++ [l]) y (nx y) (chain_snoc c e.symm) rfl
theorem trailM_chain (zs : List Str) (nx : Str → Option Str) (z : Str) : Chain nx (trailM zs nx z) :=
  trail_chain zs.length [] z (nx z) (fun i x y _ h => by simp at h) rfl
/-- each person of a ring has a due note -/
theorem ring_due {zs : List Str} {nx : Str → Option Str} {z : Str} {r : List Str} (ld : Leads zs nx) (hz : z ∈ zs) (h : ringM zs nx z = some r) : ∀ y ∈ r, y ∈ zs ∧ ∃ x, nx y = some x := fun y hy => by
  have en := trail_ended ld hz
  have ch := trailM_chain zs nx z
  unfold ringM at h
  split at h
  · rename_i hl
    have e := Option.some.inj h
    subst e
    have hyT : y ∈ trailM zs nx z := by
      rcases List.mem_append.mp hy with hy | hy
      · exact List.mem_of_mem_drop hy
      · exact List.mem_of_mem_take hy
    refine ⟨en.sub y hyT, ?_⟩
    obtain ⟨i, hi, e⟩ := List.getElem_of_mem hyT
    by_cases hl' : i + 1 < (trailM zs nx z).length
    · exact ⟨_, ch i y _ (by rw [List.getElem?_eq_getElem hi, e]) (List.getElem?_eq_getElem hl')⟩
    · obtain ⟨ini, l, eT, _⟩ := en.last
      have el : y = l := by
        have h1 : (trailM zs nx z)[i]? = some y := by rw [List.getElem?_eq_getElem hi, e]
        rw [eT] at h1 hi hl'
        rw [List.length_append] at hi hl'
        have l1 : [l].length = 1 := rfl
        rw [List.getElem?_append_right (by omega)] at h1
        have : i - ini.length = 0 := by omega
        rw [this] at h1
        simpa using h1.symm
      rw [lastM_eq eT] at hl
      exact ⟨z, el ▸ hl⟩
  · cases h
end Rc

namespace Rc
open PySem PySem.Spec PyProof.Rows L2 RZ
section
variable {P : Program} {w : World} {K : PySem.W.Frag} {mg : Str → Option Value} {base : Heap}
abbrev sLDs : Stmt := topS 51
theorem scLDs : FnScope ["_law_pot_here", "_law_names_here", "_law_many", "_law_size", "_law_found", "_law_k"] ["_law_pot_here", "_law_names_here", "_law_many", "_law_size"] (defScope sLDs) := ⟨rfl, rfl, rfl, by decide +kernel, rfl, by decide +kernel, by decide +kernel⟩
def spLDs (K : PySem.W.Frag) : Sp := fun vs H Q _ => ∃ (p nl : Addr) (zs : List Str) (m : Nat) (sz : Int), vs = [.ref p, .ref nl, .int (m : Nat), .int sz] ∧ (sz = 0 ∨ sz = 1) ∧ Pot H p ∧ nl ≠ p ∧ H nl = some (.lst (List.map V.str zs)) ∧ 1 ≤ zs.length ∧ zs.length ≤ 1000 ∧ m ≤ 60 ∧
  ∀ r xs ds H', H r = none → r ≠ p → H' r = some (.lst xs) → DtAll K H' xs (deedsD ds) → ds.length = m → (∀ d ∈ ds, d.Ok zs) → Pot H' p → But p H H' → Q (.ref r) H'
theorem ok_lds {f fT fA fM : Addr} {fd fdT fdA fdM : FuncData} (F : Fun K "_law_deeds" "_law_deeds" sLDs f fd) (B2 : Blt2 mg) (T : HasTake P w K mg base fT fdT) (A : HasAmong P w K mg base fA fdA)
    (AM : Has P w K mg base 2 "_law_amount" ["_law_pot_here", "_law_size"] spLAm fM fdM) : FnOk P w K mg base CX0 3 f fd ["_law_pot_here", "_law_names_here", "_law_many", "_law_size"] (spLDs K) := by
  refine F.ok scLDs (fun vs H Q E h => ?_) (fun cdv Ar outer s H vs Q E hr h => ?_)
  · obtain ⟨_, _, _, _, _, rfl, _⟩ := h
    rfl
  · obtain ⟨p, nl, zs, m, sz, rfl, hsz, hp, np, hn, z0, z1, hm, q⟩ := h
    have hr1 := hr.mono (show 1 ≤ 2 by decide)
    refine ⟨_, pss_cons (ps_set (i := 4) scLDs.nd rfl (.inl rfl) (pe_lst pa_nil))
      (pss_cons (ps_for PassesOwn.never rfl (pi_range1 (by rfl) B2.range (pa_cons (pv 2) pa_nil)) (pg_name (i := 5) scLDs.nd rfl (.inl rfl))
        (pss_one (ps_if (pt_cmpR op_eq (pe_call T.ok hr1 (by rfl) T.g T.kp T.b .nil pass0 (pa_cons (pv 0) (pa_cons pe_int pa_nil))) pe_int (nomark _))
          (pss_one (ps_expr (pe_bm PySem.F.plainAttrs_list PySem.F.slot_list_append PySem.F.type_list_append mt_append (pv 4) (pa_cons (pe_tup (pa_cons pe_str (pa_cons (pe_call A.ok hr (by rfl) A.g A.kp A.b .nil pass0 (pa_cons (pv 0) (pa_cons (pv 1) pa_nil)))
            (pa_cons (pe_call AM.ok hr (by rfl) AM.g AM.kp AM.b .nil pass0 (pa_cons (pv 0) (pa_cons (pv 3) pa_nil))) pa_nil)))) pa_nil))))
          (pss_one (ps_expr (pe_bm PySem.F.plainAttrs_list PySem.F.slot_list_append PySem.F.type_list_append mt_append (pv 4) (pa_cons (pe_tup (pa_cons pe_str (pa_cons (pe_call A.ok hr (by rfl) A.g A.kp A.b .nil pass0 (pa_cons (pv 0) (pa_cons (pv 1) pa_nil)))
            (pa_cons (pe_call A.ok hr (by rfl) A.g A.kp A.b .nil pass0 (pa_cons (pv 0) (pa_cons (pv 1) pa_nil))) (pa_cons (pe_call AM.ok hr (by rfl) AM.g AM.kp AM.b .nil pass0 (pa_cons (pv 0) (pa_cons (pv 3) pa_nil))) pa_nil))))) pa_nil)))))))
      (pss_one (ps_ret (pv 4)))), ?_⟩
    refine ⟨Nat.zero_le _, fun r nr => ?_⟩
    have rp : r ≠ p := by
      obtain ⟨x, y, e, _⟩ := hp
      exact (ne_of_none e nr).symm
    have rn : nl ≠ r := ne_of_none hn nr
    refine ⟨_, rfl, _, rfl, by omega, by omega, ?_⟩
    refine for_it walk_range (fun i σ H' => ∃ xs ds y5, σ = [some (.ref p), some (.ref nl), some (.int (m : Nat)), some (.int sz), some (.ref r), y5] ∧ H' r = some (.lst xs) ∧ DtAll K H' xs (deedsD ds) ∧ ds.length = i ∧ (∀ d ∈ ds, d.Ok zs) ∧ Pot H' p ∧ But p H H')
      ⟨[], [], _, rfl, upd_same, .nil, rfl, fun z hz => absurd hz List.not_mem_nil, hp.new nr, But.new nr⟩ (fun _ _ _ _ _ => trivial) (fun i x σ H1' H1 hi hP hY => ?_) (fun σ H1 hP => ?_)
    · obtain ⟨rfl, rfl⟩ := hY
      obtain ⟨xs, ds, y5, rfl, hr1', dd, ld, od, hp1, hb1⟩ := hP
      have hi' : i < m := by simpa using hi
      have lx : xs.length = i := by
        rw [dd.len]
        unfold deedsD
        rw [List.length_map, ld]
      have potr : ∀ H', Pot H' p → ∀ o, Pot (upd H' r o) p := fun H' hp' o => by
        obtain ⟨x, y, e, rr⟩ := hp'
        exact ⟨x, y, by rw [upd_ne rp.symm]; exact e, rr⟩
      -- the row with one deed more
      have more : ∀ (H' : Hp) (t : Addr) (us : List V) (d : Deed), Pot H' p → But p H1 H' → H' t = none → (∀ H'', KT H' H'' → H'' t = some (.tup us) → Dt K H'' (.ref t) (deedD d)) → d.Ok zs →
          ∃ xs' ds' y5', [some (V.ref p), some (.ref nl), some (.int (m : Nat)), some (.int sz), some (.ref r), some (.int (0 + (i : Nat)))] = [some (.ref p), some (.ref nl), some (.int (m : Nat)), some (.int sz), some (.ref r), y5'] ∧
            upd (upd H' t (.tup us)) r (.lst (xs ++ [.ref t])) r = some (.lst xs') ∧ DtAll K (upd (upd H' t (.tup us)) r (.lst (xs ++ [.ref t]))) xs' (deedsD ds') ∧ ds'.length = i + 1 ∧ (∀ d ∈ ds', d.Ok zs) ∧ Pot (upd (upd H' t (.tup us)) r (.lst (xs ++ [.ref t]))) p ∧
            But p H (upd (upd H' t (.tup us)) r (.lst (xs ++ [.ref t]))) := fun H' t us d hp' hb' nt hd ok => by
        have hr' := hb' _ _ rp hr1'
        have tr : t ≠ r := (ne_of_none hr' nt).symm
        have kt : KT H' (upd (upd H' t (.tup us)) r (.lst (xs ++ [.ref t]))) := (kt_same (same_upd nt)).trans (kt_upd (o := .lst xs) (by rw [upd_ne tr.symm]; exact hr') fun z => z)
        have k1 : KT H1 H' := fun b o e t' => hb' b o (fun z => by
          obtain ⟨x, y, e', _⟩ := hp1
          rw [z, e'] at e
          cases e
          exact t') e
        refine ⟨xs ++ [.ref t], ds ++ [d], _, rfl, upd_same, ?_, by rw [List.length_append, ld]; rfl, fun d' h' => ?_, potr _ (hp'.new nt) _, fun b o n e => ?_⟩
        · unfold deedsD
          rw [List.map_append]
          exact (DtAll.keepT (k1.trans kt) _ (tup_deeds ds) dd).append (.cons (hd _ kt (by rw [upd_ne tr, upd_same])) .nil)
        · rcases List.mem_append.mp h' with h' | h'
          · exact od d' h'
          · rw [List.mem_singleton.mp h']
            exact ok
        · have br : b ≠ r := ne_of_none e nr
          have e2 := hb' _ _ n (hb1 _ _ n e)
          rw [upd_ne br, upd_ne (ne_of_none e2 nt)]
          exact e2
      have lzs : 0 < (zs.map V.str).length := by
        rw [List.length_map]
        omega
      have lzs2 : (zs.map V.str).length ≤ 1000 := by
        rw [List.length_map]
        exact z1
      have memS : ∀ {v : V}, v ∈ zs.map V.str → ∃ z ∈ zs, v = .str z := fun {v} h => by
        obtain ⟨z, hz, rfl⟩ := List.mem_map.mp h
        exact ⟨z, hz, rfl⟩
      refine ⟨.ref p, rfl, p, 3, rfl, hp1, litM _ (by decide) (by decide), fun k H2 k0 k1 hp2 hb2 => ⟨rfl, _, rfl, ite2 (fun e => ?_) (fun e => ?_)⟩⟩
      · refine ⟨.ref r, rfl, .inl ⟨rfl, _, .inl (.inl (hb2 _ _ rp hr1'))⟩, .ref p, rfl, .ref nl, rfl, p, _, rfl, hp2, .inr ⟨nl, _, rfl, np, hb2 _ _ np (hb1 _ _ np hn), lzs, lzs2, fun v H3 hv hp3 hb3 => ?_⟩⟩
        obtain ⟨z, hz, rfl⟩ := memS hv
        refine ⟨.ref p, rfl, .int sz, rfl, p, sz, rfl, hsz, hp3, fun n H4 hn4 hp4 hb4 => ⟨by show 3 ≤ sizeLine; decide, fun t nt => ?_⟩⟩
        have hb14 := hb2.trans (hb3.trans hb4)
        refine ⟨r, xs, _, rfl, rfl, by rw [upd_ne (ne_of_none (hb14 _ _ rp hr1') nt)]; exact hb14 _ _ rp hr1', small1000 (by omega), ?_⟩
        exact more H4 t _ (.give z n) hp4 hb14 nt (fun H'' _ ht => .tup (.inl (.inl ht)) (.cons (.str _) (.cons (.str _) (.cons (.int _) .nil)))) ⟨hz, hn4⟩
      · refine ⟨.ref r, rfl, .inl ⟨rfl, _, .inl (.inl (hb2 _ _ rp hr1'))⟩, .ref p, rfl, .ref nl, rfl, p, _, rfl, hp2, .inr ⟨nl, _, rfl, np, hb2 _ _ np (hb1 _ _ np hn), lzs, lzs2, fun v H3 hv hp3 hb3 => ?_⟩⟩
        obtain ⟨z, hz, rfl⟩ := memS hv
        refine ⟨.ref p, rfl, .ref nl, rfl, p, _, rfl, hp3, .inr ⟨nl, _, rfl, np, (hb2.trans hb3) _ _ np (hb1 _ _ np hn), lzs, lzs2, fun v' H5 hv' hp5 hb5 => ?_⟩⟩
        obtain ⟨y, hy, rfl⟩ := memS hv'
        refine ⟨.ref p, rfl, .int sz, rfl, p, sz, rfl, hsz, hp5, fun n H4 hn4 hp4 hb4 => ⟨by show 4 ≤ sizeLine; decide, fun t nt => ?_⟩⟩
        have hb14 := hb2.trans (hb3.trans (hb5.trans hb4))
        refine ⟨r, xs, _, rfl, rfl, by rw [upd_ne (ne_of_none (hb14 _ _ rp hr1') nt)]; exact hb14 _ _ rp hr1', small1000 (by omega), ?_⟩
        exact more H4 t _ (.put z y n) hp4 hb14 nt (fun H'' _ ht => .tup (.inl (.inl ht)) (.cons (.str _) (.cons (.str _) (.cons (.str _) (.cons (.int _) .nil))))) ⟨hz, hy, hn4⟩
    · obtain ⟨xs, ds, y5, rfl, hr1', dd, ld, od, hp1, hb1⟩ := hP
      exact ⟨.ref r, rfl, q r xs ds H1 nr rp hr1' dd (by simpa using ld) od hp1 hb1⟩
end
end Rc

namespace Rc
open PySem PySem.Spec PyProof.Rows L2 RZ
section
variable {P : Program} {w : World} {K : PySem.W.Frag} {mg : Str → Option Value} {base : Heap}
/-! ### _law_cash -/
abbrev sLCs : Stmt := topS 50
abbrev nLCs : List Str := ["_law_model_here", "_law_who", "_law_found", "_law_name_here", "_law_to", "_law_amount_here"]
theorem scLCs : FnScope nLCs ["_law_model_here", "_law_who"] (defScope sLCs) := ⟨rfl, rfl, rfl, by decide +kernel, rfl, by decide +kernel, by decide +kernel⟩
def spLCs (K : PySem.W.Frag) : Sp := fun vs H Q _ => ∃ (a : MdA) (D : Md) (zs : List Str) (z : Str) (j : Nat), vs = [.ref a.m, .str z] ∧ ModelAt K H zs a D ∧ zs[j]? = some z ∧ RowsOk D ∧ ∀ H', Same H H' → Q (.int (cashD D j z)) H'
theorem ok_lcs {f fp : Addr} {fd fdp : FuncData} (F : Fun K "_law_cash" "_law_cash" sLCs f fd) (B3 : Blt3 mg) (PT : Has P w K mg base 1 "_law_parted" ["_law_model_here", "_law_who"] (spLPt K) fp fdp) : FnOk P w K mg base CX0 2 f fd ["_law_model_here", "_law_who"] (spLCs K) := by
  refine F.ok scLCs (fun vs H Q E h => ?_) (fun cdv Ar outer s H vs Q E hr h => ?_)
  · obtain ⟨_, _, _, _, _, rfl, _⟩ := h
    rfl
  · obtain ⟨a, D, zs, z, j, rfl, hM, ej, ro, q⟩ := h
    have hu := hu_of hr
    refine ⟨_, pss_cons (ps_set (i := 2) scLCs.nd rfl (.inl rfl) (pe_op op_sub (pe_dget hu (pe_dget hu (pv 0) pe_str (fun _ _ => rfl)) (pv 1) (fun _ _ => rfl)) (pe_dget hu (pe_dget hu (pv 0) pe_str (fun _ _ => rfl)) (pv 1) (fun _ _ => rfl))))
      (pss_cons (ps_for PassesOwn.never rfl (pi_list (pe_dget hu (pv 0) pe_str (fun _ _ => rfl))) (pg_name (i := 3) scLCs.nd rfl (.inl rfl))
        (pss_one (ps_set (i := 2) scLCs.nd rfl (.inl rfl) (pe_op op_add (pv 2) (pe_callB (cr_sum rfl) (by rfl) B3.sum (by decide +kernel) (pa_cons
          (pe_lc (own := [("_law_to", 4), ("_law_amount_here", 5)]) (g := gTup K 2 (gCons (gName 4) (gCons (gName 5) gNil))) rfl scLCs.nd
            (pi_list (pe_ix ix_tup (pe_call PT.ok hr (by rfl) PT.g PT.kp PT.b .nil pass0 (pa_cons (pv 0) (pa_cons (pv 3) pa_nil))) pe_int (fun _ _ => rfl)))
            (blkOk_by (N := nLCs) (sc := defScope sLCs) (own := [("_law_to", 4), ("_law_amount_here", 5)]) (by decide +kernel))
            (fun _ _ _ _ _ => pg_tup rfl (pgs_cons (pg_name (i := 4) scLCs.nd rfl (.inl rfl) (hf := .inr rfl)) (pgs_cons (pg_name (i := 5) scLCs.nd rfl (.inl rfl) (hf := .inr rfl)) pgs_nil)))
            (fun _ _ _ _ _ => pts_one (pt_cmpR op_eq (pv 4) (pv 1) (nomark _))) (fun _ _ _ _ _ => pv 5)) pa_nil))))))
      (pss_one (ps_ret (pv 2)))), ?_⟩
    obtain ⟨gv, f', l', r, xs, eg, ef, el', er, hr0, hd0⟩ := hM.at_ ej
    refine ⟨.ref a.m, rfl, a.m, .ref a.dg, rfl, hM.g1, .str z, rfl, a.dg, .int gv, rfl, hM.gg ej eg, .ref a.m, rfl, a.m, .ref a.df, rfl, hM.g2, .str z, rfl, a.df, .int f', rfl, hM.gf ej ef, _, _, rfl, rfl, ?_⟩
    refine ⟨.ref a.m, rfl, a.m, .ref a.lo, rfl, hM.g0, a.lo, rfl, ⟨_, .inl (.inl hM.ho)⟩, ?_⟩
    refine for_it (walk_list (K := K) (a := a.lo) (xs := zs.map V.str)) (fun i σ H' => ∃ y3 y4 y5, σ = [some (.ref a.m), some (.str z), some (.int (gv - f' + (((D.notes.zip D.fallen).take i).map fun p => sumTo z (goneN p.1 p.2)).sum)), y3, y4, y5] ∧ Same H H')
      ⟨_, _, _, by simp; rfl, Same.refl _⟩ (fun i σ H' _ hP => ?_) (fun i x σ H2' H2 hi hP hY => ?_) (fun σ H' hP => ?_)
    · obtain ⟨_, _, _, _, s1⟩ := hP
      exact .inl (.inl (s1 _ _ hM.ho))
    · obtain ⟨rfl, hx⟩ := hY
      obtain ⟨y3, y4, y5, rfl, s2⟩ := hP
      rw [List.length_map] at hi
      have exx : x = .str zs[i] := by
        rw [List.getElem?_map, List.getElem?_eq_getElem hi] at hx
        exact (Option.some.inj hx).symm
      subst exx
      have hs : i < D.notes.length := by rw [hM.ln]; exact hi
      have hdr : i < D.fallen.length := by rw [hM.lf]; exact hi
      have ll := ro _ (List.getElem_mem hs)
      refine ⟨_, rfl, .ref a.m, rfl, .str zs[i], rfl, a, D, zs, _, i, _, _, rfl, model_same hM s2, List.getElem?_eq_getElem hi, List.getElem?_eq_getElem hs, List.getElem?_eq_getElem hdr, by omega, fun t g m gx mx H4 s4 ht ng nm hg hm dg dm => ?_⟩
      refine ⟨t, _, 0, .ref g, rfl, rfl, .inl (.inl ht), rfl, g, rfl, ⟨_, .inl (.inl hg)⟩, fun D' nD => ?_⟩
      generalize hG : goneN D.notes[i] D.fallen[i] = G at dg
      have lg : gx.length = G.length := by
        rw [dg.len]
        unfold notesD
        rw [List.length_map]
      have lG : G.length ≤ 60 := by
        rw [← hG]
        exact Nat.le_trans (goneN_len _ _) ll
      refine lc_it (walk_list (K := K) (a := g) (xs := gx)) (fun i' H' => Same H4 H' ∧ H' D' = some (.lst (((G.take i').filter fun n => decide (n.1 = z)).map fun n => .int n.2))) ⟨same_upd nD, upd_same⟩ (fun i' H' _ hP => hP.1.seq (.inl (.inl hg)))
        (fun i' x' H5' H5 hi' hP hY => ?_) (fun H5 hP => ?_)
      · obtain ⟨rfl, hx'⟩ := hY
        obtain ⟨hil, dn⟩ := (DtAll.same hP.1 _ dg).notes_get hx'
        obtain ⟨na, rfl, qn⟩ := note_inv dn
        refine ⟨na, _, rfl, qn, rfl, _, _, rfl, _, _, rfl, rfl, rfl, _, rfl, _, rfl, rfl, _, rfl, ?_⟩
        have tk := take_succ hil
        by_cases hz : G[i'].1 = z
        · rw [show decide (V.str G[i'].1 = V.str z) = true from decide_eq_true (by rw [hz])]
          refine iteT ⟨_, rfl, _, hP.2, ?_, fun c o ec => ?_, ?_⟩
          · rw [List.length_map]
            have := List.length_filter_le (fun n : Str × Int => decide (n.1 = z)) (G.take i')
            rw [List.length_take] at this
            exact small1000 (by omega)
          · rw [upd_ne (ne_of_none ec nD)]
            exact hP.1 c o ec
          · rw [upd_same, tk, List.filter_append, List.map_append]
            simp [hz]
        · rw [show decide (V.str G[i'].1 = V.str z) = false from decide_eq_false (fun c => hz (V.str.inj c))]
          refine iteF ⟨hP.1, ?_⟩
          rw [hP.2, tk, List.filter_append]
          simp [hz]
      · refine ⟨D', (G.filter fun n => decide (n.1 = z)).map (·.2), rfl, .inl (.inl ?_), _, _, rfl, rfl, ?_⟩
        · rw [hP.2, lg, List.take_length, List.map_map]
          rfl
        refine ⟨some (.str zs[i]), y4, y5, ?_, s2.trans (s4.trans hP.1)⟩
        have tk : (D.notes.zip D.fallen).take (i + 1) = (D.notes.zip D.fallen).take i ++ [(D.notes[i], D.fallen[i])] := by
          rw [List.take_add_one, List.getElem?_zip_eq_some (z := (D.notes[i], D.fallen[i])) |>.mpr ⟨List.getElem?_eq_getElem hs, List.getElem?_eq_getElem hdr⟩]
          rfl
        rw [tk, List.map_append, List.sum_append]
        simp only [List.map_cons, List.map_nil, List.sum_cons, List.sum_nil, Int.add_zero]
        rw [hG, ← Int.add_assoc]
        rfl
    · obtain ⟨y3, y4, y5, rfl, s2⟩ := hP
      refine ⟨_, rfl, ?_⟩
      rw [List.take_of_length_le (by rw [List.length_zip, hM.ln, hM.lf, Nat.min_self, List.length_map]; exact Nat.le_refl _)]
      have ec : cashD D j z = gv - f' + ((D.notes.zip D.fallen).map fun p => sumTo z (goneN p.1 p.2)).sum := by
        unfold cashD sumsD
        rw [getD_of eg, getD_of ef]
      rw [← ec]
      exact q _ s2
end
end Rc

namespace Rc
open PySem PySem.Spec PyProof.Rows L2 RZ
section
variable {P : Program} {w : World} {K : PySem.W.Frag} {mg : Str → Option Value} {base : Heap}
/-! ### _law_done -/
abbrev sLDn : Stmt := topS 52
theorem scLDn : FnScope ["_law_model_here", "_law_deed"] ["_law_model_here", "_law_deed"] (defScope sLDn) := ⟨rfl, rfl, rfl, by decide +kernel, rfl, by decide +kernel, by decide +kernel⟩
def spLDn (K : PySem.W.Frag) : Sp := fun vs H Q _ => ∃ (a : MdA) (D : Md) (zs : List Str) (v : V) (d : Deed), vs = [.ref a.m, v] ∧ ModelAt K H zs a D ∧ Dt K H v (deedD d) ∧ d.Ok zs ∧ zs.length ≤ 13 ∧ RowsOk D ∧ ∀ H', ButF a H H' → ModelAt K H' zs a (doneD zs D d) → Q .non H'
theorem ok_ldn {f : Addr} {fd : FuncData} (F : Fun K "_law_done" "_law_done" sLDn f fd) : FnOk P w K mg base CX0 1 f fd ["_law_model_here", "_law_deed"] (spLDn K) := by
  refine F.ok scLDn (fun vs H Q E h => ?_) (fun cdv Ar outer s H vs Q E hr h => ?_)
  · obtain ⟨_, _, _, _, _, rfl, _⟩ := h
    rfl
  · obtain ⟨a, D, zs, v, d, rfl, hM, hd, od, lz, ro, q⟩ := h
    have hu := hu_of hr
    refine ⟨_, pss_one (ps_if (pt_cmpR op_eq (pe_ix ix_tupD (pv 1) pe_int (fun _ _ => rfl)) pe_str (nomark _))
      (pss_one (ps_dput hu (pe_dget hu (pv 0) pe_str (fun _ _ => rfl)) (pe_ix ix_tupD (pv 1) pe_int (fun _ _ => rfl))
        (pe_op op_add (pe_dget hu (pe_dget hu (pv 0) pe_str (fun _ _ => rfl)) (pe_ix ix_tupD (pv 1) pe_int (fun _ _ => rfl)) (fun _ _ => rfl)) (pe_ix ix_tupD (pv 1) pe_int (fun _ _ => rfl))) rfl))
      (pss_one (ps_expr (pe_bm PySem.F.plainAttrs_list PySem.F.slot_list_append PySem.F.type_list_append mt_append (pe_dget hu (pe_dget hu (pv 0) pe_str (fun _ _ => rfl)) (pe_ix ix_tupD (pv 1) pe_int (fun _ _ => rfl)) (fun _ _ => rfl))
        (pa_cons (pe_tup (pa_cons (pe_ix ix_tupD (pv 1) pe_int (fun _ _ => rfl)) (pa_cons (pe_ix ix_tupD (pv 1) pe_int (fun _ _ => rfl)) pa_nil))) pa_nil))))), ?_⟩
    cases d with
    | give z n =>
      have ej := idx_get od.1
      obtain ⟨gv, f', l', r, xs, eg, ef, el, er, hr0, hd0⟩ := hM.at_ ej
      refine ⟨v, rfl, _, 0, .str "give", hd, rfl, rfl, fun v0 d0 => ?_⟩
      cases d0
      refine ⟨rfl, _, rfl, ?_⟩
      rw [decide_eq_true rfl]
      refine iteT ⟨.ref a.m, rfl, a.m, .ref a.dg, rfl, hM.g1, v, rfl, _, 1, .str z, hd, rfl, rfl, fun v1 d1 => ?_⟩
      cases d1
      refine ⟨a.dg, .int gv, rfl, hM.gg ej eg, v, rfl, _, 2, .int n, hd, rfl, rfl, fun v2 d2 => ?_⟩
      cases d2
      refine ⟨_, _, rfl, rfl, .ref a.m, rfl, a.m, .ref a.dg, rfl, hM.g1, v, rfl, _, 1, .str z, hd, rfl, rfl, fun v3 d3 => ?_⟩
      cases d3
      have hj : zs.idxOf z < D.given.length := by
        rw [hM.lg]
        exact List.idxOf_lt_length_of_mem od.1
      refine ⟨a.dg, _, rfl, DPut.k (k := Sum.inr z) hM.hg (by rw [dct_len (by rw [List.length_map, hM.lg])]; exact small1000 (by omega)), ?_⟩
      rw [dct_put hM.zn ej (by rw [List.length_map]; exact hj), map_set V.int]
      have bf' : ButF a H (upd H a.dg (.dK (dct zs ((D.given.set (zs.idxOf z) (gv + n)).map V.int)))) := fun b o nf e => by
        rw [upd_ne (fun z => nf (.inl z))]
        exact e
      have rne : ∀ r ∈ a.rs, r ≠ a.dg := fun r hr z => by
        obtain ⟨i, hi, e'⟩ := List.getElem_of_mem hr
        have hn : i < D.notes.length := by
          rw [hM.ln, ← hM.lr]
          exact hi
        obtain ⟨xs, e1, _⟩ := hM.rows i r _ (by rw [List.getElem?_eq_getElem hi, e']) (List.getElem?_eq_getElem hn)
        rw [z, hM.hg] at e1
        cases e1
      have lone : a.lo ≠ a.dg := fun z => by
        have := hM.ho
        rw [z, hM.hg] at this
        cases this
      refine q _ bf' ⟨?_, ?_, ?_, ?_, ?_, fun i r l e1 e2 => ?_, hM.nd, hM.olo, hM.ogf, hM.ogn, hM.ogm, hM.omn, hM.zn, ?_, hM.lf, hM.ln, hM.lr⟩
      · rw [upd_ne hM.ogm.symm]
        exact hM.hm
      · rw [upd_ne lone]
        exact hM.ho
      · rw [upd_same]
        show _ = some (HO.dK (dct zs ((D.given.set (zs.idxOf z) (D.given.getD (zs.idxOf z) 0 + n)).map V.int)))
        rw [getD_of eg]
      · rw [upd_ne hM.ogf.symm]
        exact hM.hf
      · rw [upd_ne hM.ogn.symm]
        exact hM.hn
      · obtain ⟨xs, e3, d3⟩ := hM.rows i r l e1 e2
        refine ⟨xs, ?_, DtAll.keepT (bf'.kt hM) _ (tup_notes l) d3⟩
        rw [upd_ne (rne r (List.mem_of_getElem? e1))]
        exact e3
      · show (D.given.set _ _).length = _
        rw [List.length_set]
        exact hM.lg
    | put z y n =>
      have ej := idx_get od.1
      obtain ⟨gv, f', l', r, xs, eg, ef, el, er, hr0, hd0⟩ := hM.at_ ej
      refine ⟨v, rfl, _, 0, .str "put", hd, rfl, rfl, fun v0 d0 => ?_⟩
      cases d0
      refine ⟨rfl, _, rfl, ?_⟩
      rw [decide_eq_false give_ne_put]
      refine iteF ⟨.ref a.m, rfl, a.m, .ref a.dn, rfl, hM.g3, v, rfl, _, 1, .str z, hd, rfl, rfl, fun v1 d1 => ?_⟩
      cases d1
      refine ⟨a.dn, .ref r, rfl, hM.gn ej er, .inl ⟨rfl, _, .inl (.inl hr0)⟩, v, rfl, _, 2, .str y, hd, rfl, rfl, fun v2 d2 => ?_⟩
      cases d2
      refine ⟨v, rfl, _, 3, .int n, hd, rfl, rfl, fun v3 d3 => ?_⟩
      cases d3
      refine ⟨by show 2 ≤ sizeLine; decide, fun t nt => ?_⟩
      have tr : t ≠ r := (ne_of_none hr0 nt).symm
      have lx : xs.length ≤ 60 := by
        rw [hd0.len]
        unfold notesD
        rw [List.length_map]
        exact ro _ (List.mem_of_getElem? el)
      refine ⟨r, xs, _, rfl, rfl, by rw [upd_ne tr.symm]; exact hr0, small1000 (by omega), ?_⟩
      have rm : r ∈ a.rs := List.mem_of_getElem? er
      have bf' : ButF a H (upd (upd H t (.tup [V.str y, V.int n])) r (.lst (xs ++ [V.ref t]))) := fun b o nf e => by
        have nb : b ≠ r := fun z => nf (.inr (by rw [z]; exact rm))
        rw [upd_ne nb, upd_ne (ne_of_none e nt)]
        exact e
      have keepD : ∀ {b : Addr} {o : HO}, b ≠ r → H b = some o → upd (upd H t (.tup [V.str y, V.int n])) r (.lst (xs ++ [V.ref t])) b = some o := fun {b o} n e => by
        rw [upd_ne n, upd_ne (ne_of_none e nt)]
        exact e
      have dne : ∀ {b : Addr} {kvs : List (Key × V)}, H b = some (.dK kvs) → b ≠ r := fun {b kvs} e z => by
        rw [z, hr0] at e
        cases e
      refine q _ bf' ⟨keepD (dne hM.hm) hM.hm, keepD (fun z => hM.olo (by rw [z]; exact rm)) hM.ho, keepD (dne hM.hg) hM.hg, keepD (dne hM.hf) hM.hf, keepD (dne hM.hn) hM.hn, fun i r' l e1 e2 => ?_, hM.nd, hM.olo, hM.ogf, hM.ogn, hM.ogm, hM.omn, hM.zn, hM.lg, hM.lf, ?_, hM.lr⟩
      · have hkt := bf'.kt hM
        by_cases hi : i = zs.idxOf z
        · have er' : r' = r := by
            rw [hi, er] at e1
            exact (Option.some.inj e1).symm
          subst er'
          have e2' : (D.notes.set (zs.idxOf z) (D.notes.getD (zs.idxOf z) [] ++ [(y, n)]))[i]? = some l := e2
          rw [hi, List.getElem?_set_self (by rw [hM.ln]; exact List.idxOf_lt_length_of_mem od.1), getD_of el] at e2'
          cases e2'
          refine ⟨_, upd_same, ?_⟩
          unfold notesD
          rw [List.map_append]
          refine (DtAll.keepT hkt _ (tup_notes l') hd0).append (.cons (.tup (.inl (.inl ?_)) (.cons (.str _) (.cons (.int _) .nil))) .nil)
          rw [upd_ne tr, upd_same]
        · have e2' : (D.notes.set (zs.idxOf z) (D.notes.getD (zs.idxOf z) [] ++ [(y, n)]))[i]? = some l := e2
          rw [List.getElem?_set_ne (fun c => hi c.symm)] at e2'
          obtain ⟨xs', e3, d3⟩ := hM.rows i r' l e1 e2'
          have nr' : r' ≠ r := fun c => by
            obtain ⟨h1, k1⟩ := List.getElem?_eq_some_iff.mp e1
            obtain ⟨h2, k2⟩ := List.getElem?_eq_some_iff.mp er
            exact hi ((List.getElem_inj hM.nd).mp (k1.trans (c.trans k2.symm)))
          exact ⟨xs', keepD nr' e3, DtAll.keepT hkt _ (tup_notes l) d3⟩
      · show (D.notes.set _ _).length = _
        rw [List.length_set]
        exact hM.ln
end
end Rc

namespace Rc
open PySem PySem.Spec PyProof.Rows L2 RZ
section
variable {P : Program} {w : World} {K : PySem.W.Frag} {mg : Str → Option Value} {base : Heap}
/-! ### _law_alike, whatever has fallen -/
abbrev sLAl : Stmt := topS 53
abbrev nLAl : List Str := ["_law_model_here", "_law_book", "_law_who", "_law_told", "_law_wanted"]
theorem scLAl : FnScope nLAl ["_law_model_here", "_law_book"] (defScope sLAl) := ⟨rfl, rfl, rfl, by decide +kernel, rfl, by decide +kernel, by decide +kernel⟩
def spLAl (K : PySem.W.Frag) (C : Addr) : Sp := fun vs H Q _ => ∃ (a : MdA) (D : Md) (zs : List Str) (b : Addr), vs = [.ref a.m, .ref b] ∧ ModelAt K H zs a D ∧ BookAt K C H b (bkOf zs D) ∧ Gs zs D ∧ Gb D ∧ ∀ H', Same H H' → Q (.bl true) H'
def toldD (g f c : Int) (l p : List (Str × Int)) : PyData := .list [.int g, .int f, .int c, .list (notesD l), .list (notesD p)]
theorem notes_depth {zs : List Str} (hz : ∀ z ∈ zs, nameT z = true) : ∀ {l : List (Str × Int)}, (∀ n ∈ l, NoteOk zs n) → PyData.depthAll (notesD l) ≤ 1
  | [], _ => Nat.zero_le _
  | a :: r, h => by
    show PyData.depthAll (noteD a :: notesD r) ≤ 1
    simp only [PyData.depthAll]
    have h1 := (nice_note hz (h a List.mem_cons_self)).2
    have h2 := notes_depth hz fun n hn => h n (List.mem_cons_of_mem _ hn)
    omega
theorem nice_told {zs : List Str} (hz : ∀ z ∈ zs, nameT z = true) {g f c : Int} {l p : List (Str × Int)} (hg : BigOk g) (hf : BigOk f) (hc : BigOk c) (hl : ∀ n ∈ l, NoteOk zs n) (ll : l.length ≤ 60) (hp : ∀ n ∈ p, NoteOk zs n) (lp : p.length ≤ 60) : NiceD (toldD g f c l p) 8000 := by
  have nl := (nice_notes hz hl).list
  have np := (nice_notes hz hp).list
  have dl : (PyData.list (notesD l)).depth ≤ 4 := by
    simp only [PyData.depth]
    have := notes_depth hz hl
    omega
  have dp : (PyData.list (notesD p)).depth ≤ 4 := by
    simp only [PyData.depth]
    have := notes_depth hz hp
    omega
  have z4 : ∀ i : Int, (PyData.int i).depth ≤ 4 := fun i => by simp only [PyData.depth]; omega
  have a := (NiceA.cons (nice_int hg) (z4 _) (NiceA.cons (nice_int hf) (z4 _) (NiceA.cons (nice_int hc) (z4 _) (NiceA.cons nl dl (NiceA.cons np dp NiceA.nil))))).list
  exact ⟨a.sh, a.lv, a.nd, a.dp, Nat.le_trans a.bk (by omega), a.cl⟩
theorem ok_lal {f f1 f2 f3 f4 f5 f6 f7 f8 C : Addr} {fd fd1 fd2 fd3 fd4 fd5 fd6 fd7 fd8 : FuncData} (F : Fun K "_law_alike" "_law_alike" sLAl f fd) (T : ClsF K C) (B2 : Blt2 mg)
    (PE1 : HasM P w K mg base C 1 "persons" ["self"] (spPersons K C) f1 fd1) (GV : HasM P w K mg base C 4 "given" ["self", "who"] (spNum K C Bk.gifts) f2 fd2) (FL : HasM P w K mg base C 4 "fallen" ["self", "who"] (spNum K C Bk.drops) f3 fd3)
    (CS : HasM P w K mg base C 5 "cash" ["self", "who"] (spCalc K C cashM) f4 fd4) (NT : HasM P w K mg base C 4 "notes" ["self", "who"] (spRow K C fun l _ => l) f5 fd5) (PL : HasM P w K mg base C 5 "pile" ["self", "who"] (spRow K C leftN) f6 fd6)
    (LC : Has P w K mg base 2 "_law_cash" ["_law_model_here", "_law_who"] (spLCs K) f7 fd7) (LL : Has P w K mg base 2 "_law_left" ["_law_model_here", "_law_who"] (spLLf K) f8 fd8) :
    FnG P w K mg base CX0 6 f fd ["_law_model_here", "_law_book"] (spLAl K C) := by
  refine okG0 F scLAl (fun vs H Q E h => ?_) (fun cdv Ar outer s H vs Q E hr hgd h => ?_)
  · obtain ⟨_, _, _, _, rfl, _⟩ := h
    rfl
  · obtain ⟨a, D, zs, b, rfl, hM, hb, g, gb, q⟩ := h
    have nz := g.nz
    have hu := hu_of hr
    have hr1 := hr.mono (show 1 ≤ 5 by decide)
    have hr2 := hr.mono (show 2 ≤ 5 by decide)
    have hr4 := hr.mono (show 4 ≤ 5 by decide)
    refine ⟨_, pss_cons (ps_if (pt_cmpR (op_neD hr.units) (pe_meth0 (pv 1) T.cl PE1.m PE1.ok hr1 PE1.b .nil pass0) (pe_dget hu (pv 0) pe_str (fun _ _ => rfl)) (nomark _)) (pss_one (ps_ret pe_bl)) pss_nil)
      (pss_cons (ps_for PassesOwn.never rfl (pi_list (pe_dget hu (pv 0) pe_str (fun _ _ => rfl))) (pg_name (i := 2) scLAl.nd rfl (.inl rfl))
        (pss_cons (ps_set (i := 3) scLAl.nd rfl (.inl rfl) (pe_lst (pa_cons (pe_meth (pv 1) T.cl GV.m GV.ok hr4 GV.b .nil pass0 (pa_cons (pv 2) pa_nil)) (pa_cons (pe_meth (pv 1) T.cl FL.m FL.ok hr4 FL.b .nil pass0 (pa_cons (pv 2) pa_nil))
          (pa_cons (pe_meth (pv 1) T.cl CS.m CS.ok hr CS.b .nil pass0 (pa_cons (pv 2) pa_nil)) (pa_cons (pe_meth (pv 1) T.cl NT.m NT.ok hr4 NT.b .nil pass0 (pa_cons (pv 2) pa_nil)) (pa_cons (pe_meth (pv 1) T.cl PL.m PL.ok hr PL.b .nil pass0 (pa_cons (pv 2) pa_nil)) pa_nil)))))))
        (pss_cons (ps_set (i := 4) scLAl.nd rfl (.inl rfl) (pe_lst (pa_cons (pe_dget hu (pe_dget hu (pv 0) pe_str (fun _ _ => rfl)) (pv 2) (fun _ _ => rfl)) (pa_cons (pe_dget hu (pe_dget hu (pv 0) pe_str (fun _ _ => rfl)) (pv 2) (fun _ _ => rfl))
          (pa_cons (pe_call LC.ok hr2 (by rfl) LC.g LC.kp LC.b .nil pass0 (pa_cons (pv 0) (pa_cons (pv 2) pa_nil))) (pa_cons (pe_dget hu (pe_dget hu (pv 0) pe_str (fun _ _ => rfl)) (pv 2) (fun _ _ => rfl)) pa_nil))))))
        (pss_one (ps_if (pt_cmpR op_ne (pe_callB (call_repr hr hgd) (by rfl) B2.repr (by decide +kernel) (pa_cons (pv 3) pa_nil))
          (pe_callB (call_repr hr hgd) (by rfl) B2.repr (by decide +kernel) (pa_cons (pe_op op_cat (pv 4) (pe_lst (pa_cons (pe_call LL.ok hr2 (by rfl) LL.g LL.kp LL.b .nil pass0 (pa_cons (pv 0) (pa_cons (pv 2) pa_nil))) pa_nil))) pa_nil)) (nomark _))
          (pss_one (ps_ret pe_bl)) pss_nil)))))
      (pss_one (ps_ret pe_bl))), ?_⟩
    obtain ⟨dx, tn, on, wg, ws, wd, e, h1, hn, h2, h3, h4⟩ := hb.ex
    have okb := g.ok
    have nn := nice_names nz.nm
    refine ⟨.ref b, rfl, b, dx, _, rfl, e, bf_no (NoF.mk' (by decide +kernel)), b, _, rfl, hb, fun l nl => ?_⟩
    have s1 := same_upd (o := .lst ((bkOf zs D).names.map V.str)) nl
    have hM1 := model_same hM s1
    refine ⟨.ref a.m, rfl, a.m, .ref a.lo, rfl, hM1.g0, .list (zs.map .str), .list (zs.map .str), .lst (.inl (.inl upd_same)) (DpAll.strs zs), .lst (.inl (.inl hM1.ho)) (DpAll.strs zs), nice_shaped nn.list, nice_shaped nn.list, _, rfl, ?_⟩
    rw [SeqAt.eqv_refl _ nn.list.cl]
    refine iteF ?_
    refine ⟨.ref a.m, rfl, a.m, .ref a.lo, rfl, hM1.g0, a.lo, rfl, ⟨_, .inl (.inl hM1.ho)⟩, ?_⟩
    refine for_it (walk_list (K := K) (a := a.lo) (xs := zs.map V.str)) (fun i σ H' => ∃ y2 y3 y4, σ = [some (.ref a.m), some (.ref b), y2, y3, y4] ∧ Same H H') ⟨_, _, _, rfl, s1⟩ (fun i σ H' _ hP => ?_) (fun i x σ H2' H2 hi hP hY => ?_) (fun σ H' hP => ?_)
    · obtain ⟨_, _, _, _, s2⟩ := hP
      exact .inl (.inl (s2 _ _ hM.ho))
    · obtain ⟨rfl, hx⟩ := hY
      obtain ⟨y2, y3, y4, rfl, s2⟩ := hP
      rw [List.length_map] at hi
      have exx : x = .str zs[i] := by
        rw [List.getElem?_map, List.getElem?_eq_getElem hi] at hx
        exact (Option.some.inj hx).symm
      subst exx
      have ej : zs[i]? = some zs[i] := List.getElem?_eq_getElem hi
      obtain ⟨gv, f', l', r, xs, eg, ef, el, er, hr0, hd0⟩ := hM.at_ ej
      have hl' := g.nt l' (List.mem_of_getElem? el)
      have ll' := g.rows l' (List.mem_of_getElem? el)
      have gl := g.left el ef
      have lp : (leftN l' f').length ≤ 60 := Nat.le_trans (leftN_len _ _) ll'
      obtain ⟨bg, bff, bc⟩ := gb.bigs g ej eg ef el
      generalize hc : cashM (bkOf zs D) i zs[i] = cc at bc
      generalize hpl : leftN l' f' = pl at gl lp
      have noB : ∀ {m : Str}, ((m == "names") || (m == "gifts") || (m == "stacks") || (m == "drops")) = false → (bf (.ref tn) wg ws wd).lookup m = none := fun h => bf_no (NoF.mk' h)
      -- told
      refine ⟨.ref b, rfl, b, dx, _, rfl, s2 _ _ e, noB (by decide +kernel), .str zs[i], rfl, b, _, _, i, gv, rfl, book_same hb s2, nz, ej, eg, fun H3 s3 => ?_⟩
      have s23 := s2.trans s3
      refine ⟨.ref b, rfl, b, dx, _, rfl, s23 _ _ e, noB (by decide +kernel), .str zs[i], rfl, b, _, _, i, f', rfl, book_same hb s23, nz, ej, ef, fun H4 s4 => ?_⟩
      have s24 := s23.trans s4
      refine ⟨.ref b, rfl, b, dx, _, rfl, s24 _ _ e, noB (by decide +kernel), .str zs[i], rfl, b, _, _, i, rfl, book_same hb s24, okb, ej, fun H5 s5 => ?_⟩
      rw [hc]
      have s25 := s24.trans s5
      refine ⟨.ref b, rfl, b, dx, _, rfl, s25 _ _ e, noB (by decide +kernel), .str zs[i], rfl, b, _, _, i, l', f', rfl, book_same hb s25, nz, ej, el, ef, by omega, fun r1 x1 H6 s6 nr1 hr1' d1 => ?_⟩
      have s26 := s25.trans s6
      refine ⟨.ref b, rfl, b, dx, _, rfl, s26 _ _ e, noB (by decide +kernel), .str zs[i], rfl, b, _, _, i, l', f', rfl, book_same hb s26, nz, ej, el, ef, by omega, fun r2 x2 H7 s7 nr2 hr2' d2 => ⟨by show 5 ≤ sizeLine; decide, fun t1 nt1 => ?_⟩⟩
      rw [hpl] at d2
      have s8 := same_upd (o := .lst [V.int gv, V.int f', V.int cc, V.ref r1, V.ref r2]) nt1
      have s28 := s26.trans (s7.trans s8)
      generalize hH8 : upd H7 t1 (.lst [V.int gv, V.int f', V.int cc, V.ref r1, V.ref r2]) = H8 at s8 s28
      have ht1 : H8 t1 = some (.lst [V.int gv, V.int f', V.int cc, V.ref r1, V.ref r2]) := by
        rw [← hH8, upd_same]
      have hM8 := model_same hM s28
      -- wanted
      refine ⟨.ref a.m, rfl, a.m, .ref a.dg, rfl, hM8.g1, .str zs[i], rfl, a.dg, .int gv, rfl, hM8.gg ej eg, .ref a.m, rfl, a.m, .ref a.df, rfl, hM8.g2, .str zs[i], rfl, a.df, .int f', rfl, hM8.gf ej ef, .ref a.m, rfl, .str zs[i], rfl, a, D, zs, _, i, rfl, hM8, ej, g.rows, fun H9 s9 => ?_⟩
      have ec2 : cashD D i zs[i] = cc := by
        rw [← cash_eq zs]
        exact hc
      rw [ec2]
      have s29 := s28.trans s9
      have hM9 := model_same hM s29
      refine ⟨.ref a.m, rfl, a.m, .ref a.dn, rfl, hM9.g3, .str zs[i], rfl, a.dn, .ref r, rfl, hM9.gn ej er, by show 4 ≤ sizeLine; decide, fun t2 nt2 => ?_⟩
      have s10 := same_upd (o := .lst [V.int gv, V.int f', V.int cc, V.ref r]) nt2
      generalize hH10 : upd H9 t2 (.lst [V.int gv, V.int f', V.int cc, V.ref r]) = H10 at s10
      have ht2 : H10 t2 = some (.lst [V.int gv, V.int f', V.int cc, V.ref r]) := by
        rw [← hH10, upd_same]
      have s210 := s29.trans s10
      have dTold : Dt K H10 (.ref t1) (toldD gv f' cc l' pl) := .lst (.inl (.inl (s10 _ _ (s9 _ _ ht1)))) (.cons (.int _) (.cons (.int _) (.cons (.int _) (.cons (.lst (.inl (.inl ((s9.trans s10) _ _ (s8 _ _ (s7 _ _ hr1'))))) (DtAll.same ((s7.trans s8).trans (s9.trans s10)) _ d1))
        (.cons (.lst (.inl (.inl ((s9.trans s10) _ _ (s8 _ _ hr2')))) (DtAll.same (s8.trans (s9.trans s10)) _ d2)) .nil)))))
      have nt := nice_told nz.nm bg bff bc hl' ll' gl lp
      have dp20 : (toldD gv f' cc l' pl).depth ≤ 20 := by
        have := nt.dp
        omega
      refine ⟨.ref t1, rfl, .ref t1, toldD gv f' cc l' pl, rfl, dTold, nt.sh, .inl nt.nd, dp20, nice_fits nt (Nat.le_refl _), ?_⟩
      have hM10 := model_same hM s210
      refine ⟨.ref t2, rfl, .ref a.m, rfl, .str zs[i], rfl, a, D, zs, _, i, l', f', rfl, hM10, ej, el, ef, by omega, fun m mx H11 s11 nm hm dm => ⟨by show 1 ≤ sizeLine; decide, fun t3 nt3 => ?_⟩⟩
      rw [hpl] at dm
      have s12 := s11.trans (same_upd (o := .lst [V.ref m]) nt3)
      refine ⟨t2, t3, _, _, rfl, rfl, s12 _ _ ht2, upd_same, by show 4 + 1 ≤ sizeLine; decide, fun t4 nt4 => ?_⟩
      have s13 := same_upd (o := .lst ([V.int gv, V.int f', V.int cc, V.ref r] ++ [V.ref m])) nt4
      have s1013 := s12.trans s13
      have hMr : ∀ {H' : Hp}, Same H H' → Dt K H' (.ref r) (.list (notesD l')) := fun {H'} sm => .lst (.inl (.inl (sm _ _ hr0))) (DtAll.same sm _ hd0)
      have dW : Dt K (upd (upd H11 t3 (.lst [V.ref m])) t4 (.lst ([V.int gv, V.int f', V.int cc, V.ref r] ++ [V.ref m]))) (.ref t4) (toldD gv f' cc l' pl) := .lst (.inl (.inl upd_same)) (.cons (.int _) (.cons (.int _) (.cons (.int _) (.cons (hMr (s210.trans s1013))
        (.cons (.lst (.inl (.inl (s13 _ _ (same_upd nt3 _ _ hm)))) (DtAll.same ((same_upd nt3).trans s13) _ dm)) .nil)))))
      refine ⟨_, _, rfl, dW, nt.sh, .inl nt.nd, dp20, nice_fits nt (Nat.le_refl _), rfl, _, rfl, ?_⟩
      exact iteNS rfl ⟨_, _, _, rfl, s210.trans s1013⟩
    · obtain ⟨_, _, _, rfl, s2⟩ := hP
      exact q _ s2
end
end Rc

set_option pp.maxSteps 700
namespace Rc
open PySem PySem.Spec PyProof.Rows L2
/-! ### methods within a try; exceptions without fields -/
section
variable {X : Cx} {CX : CXT} {k : Nat} {f C : Addr} {fd : FuncData} {ps : List Str} {sp : Sp} {E : L2.St → XK} {m : Str} {pos apos : Pos} {e o : Expr} {es : List Expr} {ta : TE} {t : TA}
def tMethP (C : Addr) (m : Str) (sp : Sp) (E : L2.St → XK) (ta : TE) (t : TA) : TE := fun σ H Q => ta σ H fun x H1 => ∃ a dx fs, x = .ref a ∧ H1 a = some (.ins C dx fs) ∧ fs.lookup m = none ∧ t σ H1 fun vs H2 => sp (x :: vs) H2 Q (E σ)
theorem pe_methP {pl : Sem Bool} (he : PE X o ta) (c : Cls X.K C) (hm : Meth X.K C m f) (F : FnOk X.prog X.w X.K X.mg X.base CX k f fd ps sp) (hr : Room k X.A) (hb : Binds X.K fd ps []) (hx : ∀ σ, PassesAt CX X σ (E σ)) (ha : PA X (e :: es) t)
    (hst : starEach (e :: es) X.env = (false, eval e X.env) :: starEach es X.env := by rfl) (hpl : (backTo pos (starEach es X.env)).any (·.1) = false := by rfl)
    (ht : eval (.Call (.Attribute o m apos) (e :: es) [] pos) X.env = (do
      let ov ← eval o X.env
      standAt apos.atName
      let (f, first) ← holding [ov] (getMethod ov m pl)
      callWith pos f first (backTo pos (starEach (e :: es) X.env)) (backToKw pos (keywordEach [] X.env))) := by rfl) :
    PE X (.Call (.Attribute o m apos) (e :: es) [] pos) (tMethP C m sp E ta t) := by
  refine ⟨fun pins s σ H Q I h => ?_⟩
  refine PySem.W.methodCall_KW (pl := pl) (thn (he.run pins s σ H _ I h) fun u s1 ⟨x, H1, I1, rx, a, dx, fs, ex, ea, l, q⟩ => ?_) ht
  subst ex
  obtain rfl : u = Value.ref a := rx
  refine getmeth_ok I1 ea c hm l ?_
  refine PySem.W.callWith_K (first := [.ref a]) (h₀ := X.base) I.ok.mod.kin hm.kp (thn (ha.run pos pins s1 σ H1 _ I1 q) fun us s2 ⟨vs, H2, I2, r, q2⟩ => ⟨I2.kIn, ?_⟩) hst hpl
  exact run_fnS (us := .ref a :: us) (vs := .ref a :: vs) F hr hb (hx σ) I2 (.cons rfl r) q2
/-- isinstance(e, c), e without fields -/
def rIsN (K : PySem.W.Frag) (D a : Addr) (cls : Value) (d : Option Addr) : List V → Hp → VK → Prop := fun xs H Q => ∃ (c : V) (cv : Value) (b : Bool), xs = [.ref a, c] ∧ (∀ u, RelV c u → u = cv) ∧ PySem.W.kitOne K (.ref D) cv = some b ∧ cls = .ref D ∧ d = none ∧ Q (.bl b) H
theorem call_isN {K : PySem.W.Frag} {a D : Addr} {oe : Obj} {cls : Value} {d : Option Addr} {pn : List (Addr × Obj)} (eK : X.K = K) (C : ExcC K D) (hz : Zc cls d oe) (hf : ∃ vs, oe.data = .fields vs) : CallR (X.suite a ((a, oe) :: pn)) (.builtin "isinstance") (rIsN K D a cls d) := by
  subst eK
  intro pins s σ H xs us Q I r h
  obtain ⟨c, cv, b, rfl, hcv, e, rfl, rfl, q⟩ := h
  exact call_isE C hz hf pins s σ H _ us Q I r ⟨c, cv, b, rfl, hcv, e, q⟩
end
/-- an exception class over BookError, without an __init__ of its own -/
structure ClsP (K : PySem.W.Frag) (mg : Str → Option Value) (nm : Str) (D CB : Addr) : Prop where
  gP : mg nm = some (.ref D)
  xP : PySem.W.excIn K D [.type "ValueError", .type "Exception", .type "BaseException", .type "object"] "ValueError.__new__" = true
  kP : PySem.W.keepIn K (.ref D) = true
  bP : PySem.W.subIn K (.ref D) (.type "BaseException") = some true
  tP : PySem.W.typeIn K (.ref D) = some (.type "type")
  hd : PySem.W.hasDictIn K D = true
  sP : PySem.W.subIn K (.ref D) (.ref D) = some true
  ga : PySem.W.findIn K (.ref D) "__getattribute__" = some (some (.builtin "BaseException.__getattribute__"))
  gg : PySem.W.findIn K (.ref D) "__getattr__" = some none
  cl : PySem.W.findIn K (.ref D) "__class__" = some (some (.builtin "object.__class__"))
  sp : PySem.W.specialIn K (.builtin "object.__class__") "__get__" = some (some (.builtin "getset_descriptor.__get__"))
  tk : PySem.W.takesIn K (.builtin "object.__class__") = some true
  ob : PySem.W.mroIn K D (.type "object") = some true
  gB : mg "BookError" = some (.ref CB)
  kit : PySem.W.kitOne K (.ref D) (.ref CB) = some true
section
variable {K : PySem.W.Frag} {mg : Str → Option Value} {nm : Str} {D CB : Addr}
theorem ClsP.exc (P : ClsP K mg nm D CB) : ExcC K D := ⟨P.ga, P.gg, P.bP, P.hd, P.cl, P.sp, P.tk, P.ob⟩
theorem ClsP.hit (P : ClsP K mg nm D CB) : PySem.W.exmOne K (.ref D) (.ref D) = some true := PySem.W.exm_ref P.bP P.hd P.tP P.sP
theorem mkClsP {h : Heap} (X : K.In h) (G : h.Ns mainGlobals mg) (a : PySem.W.nsIn K mainGlobals nm = some (some (.ref D)))
    (a1 : PySem.W.excIn K D [.type "ValueError", .type "Exception", .type "BaseException", .type "object"] "ValueError.__new__" = true) (a2 : PySem.W.keepIn K (.ref D) = true) (a3 : PySem.W.subIn K (.ref D) (.type "BaseException") = some true)
    (a4 : PySem.W.typeIn K (.ref D) = some (.type "type")) (a5 : PySem.W.hasDictIn K D = true) (a6 : PySem.W.subIn K (.ref D) (.ref D) = some true)
    (a7 : PySem.W.findIn K (.ref D) "__getattribute__" = some (some (.builtin "BaseException.__getattribute__"))) (a8 : PySem.W.findIn K (.ref D) "__getattr__" = some none) (a9 : PySem.W.findIn K (.ref D) "__class__" = some (some (.builtin "object.__class__")))
    (b1 : PySem.W.specialIn K (.builtin "object.__class__") "__get__" = some (some (.builtin "getset_descriptor.__get__"))) (b2 : PySem.W.takesIn K (.builtin "object.__class__") = some true) (b3 : PySem.W.mroIn K D (.type "object") = some true)
    (b4 : PySem.W.nsIn K mainGlobals "BookError" = some (some (.ref CB))) (b5 : PySem.W.kitOne K (.ref D) (.ref CB) = some true) : ClsP K mg nm D CB :=
  ⟨PySem.W.mg_of X G a, a1, a2, a3, a4, a5, a6, a7, a8, a9, b1, b2, b3, PySem.W.mg_of X G b4, b5⟩
end
end Rc

namespace Rc
open PySem PySem.Spec PyProof.Rows L2 RZ
/-! ### refusals -/
inductive Rf where
  | step
  | such (v : V)
  | amount
  | ring (z : Str)
  | much (z : Str) (n : Int)
  | full
/-- the classes of what is refused -/
structure Xs where
  S : Addr
  N : Addr
  A : Addr
  R : Addr
  T : Addr
  F : Addr
abbrev XH := Hp → Prop
def Thr (X : Xs) (E : XK) (G : XH) : Rf → Prop
  | .step => ∀ H', G H' → E (.ref X.S) none H'
  | .such v => ∀ H' dd, G H' → H' dd = some (.xd [("who", v)]) → E (.ref X.N) (some dd) H'
  | .amount => ∀ H', G H' → E (.ref X.A) none H'
  | .ring z => ∀ H' dd, G H' → H' dd = some (.xd [("who", .str z)]) → E (.ref X.R) (some dd) H'
  | .much z n => ∀ H' dd, G H' → H' dd = some (.xd [("most", .int n), ("who", .str z)]) → E (.ref X.T) (some dd) H'
  | .full => ∀ H' dd, G H' → H' dd = some (.xd [("many", .int 60)]) → E (.ref X.F) (some dd) H'
theorem Thr.mono {X : Xs} {E : XK} {G G' : XH} (i : ∀ H, G' H → G H) : ∀ {r : Rf}, Thr X E G r → Thr X E G' r
  | .step, h => fun H' g => h H' (i _ g)
  | .such _, h => fun H' dd g => h H' dd (i _ g)
  | .amount, h => fun H' g => h H' (i _ g)
  | .ring _, h => fun H' dd g => h H' dd (i _ g)
  | .much _ _, h => fun H' dd g => h H' dd (i _ g)
  | .full, h => fun H' dd g => h H' dd (i _ g)
theorem Thr.same {X : Xs} {E : XK} {H H1 : Hp} {r : Rf} (h : Thr X E (Same H) r) (s : Same H H1) : Thr X E (Same H1) r := h.mono fun _ s1 => s.trans s1
section
variable {P : Program} {w : World} {K : PySem.W.Frag} {mg : Str → Option Value} {base : Heap}
/-! ### no amount -/
def spCAX (K : PySem.W.Frag) (CA : Addr) : Sp := fun vs H _ E => ∃ v d, vs = [v] ∧ Dt K H v d ∧ ShortD d ∧ amountD d = false ∧ ∀ H', Same H H' → E (.ref CA) none H'
theorem no_checkA {f fN CA CB : Addr} {fd fdN : FuncData} (F : Fun K "check_amount" "check_amount" sCheckA f fd) (PA' : ClsP K mg "NoAmount" CA CB) (N : Has P w K mg base 2 "is_amount" ["thing"] (spBool K amountD) fN fdN) : FnOk P w K mg base (L2N.CX P w) 3 f fd ["amount"] (spCAX K CA) := by
  refine okXN F scCheckA (fun vs H Q E h => ?_) (fun cdv A outer s H vs Q E hr h => ?_)
  · obtain ⟨_, _, rfl, _⟩ := h
    rfl
  · obtain ⟨v, d, rfl, hv, hs, hb, q⟩ := h
    refine ⟨_, pss_one (ps_if (pt_not (pt_val (pe_call N.ok hr (by rfl) N.g N.kp N.b .nil pass0 (pa_cons (pv 0) pa_nil)))) (pss_one (L2N.ps_raise rfl (L2N.takes_of rfl rfl rfl rfl) (L2N.pmk_own PySem.F.excBase_ValueError PA'.xP PA'.gP PA'.kP (raises_own PA'.bP PA'.tP) rfl))) pss_nil), ?_⟩
    refine ⟨v, rfl, v, d, rfl, hv, hs, fun H1 s1 => ⟨_, rfl, ?_⟩⟩
    rw [hb]
    exact iteT (q H1 s1)
end
end Rc

namespace Rc
open PySem PySem.Spec PyProof.Rows L2 RZ
/-! ### Full -/
abbrev sFul : Stmt := inClass (topS 7) 0
theorem txFul : EX.Txt sFul ["many"] :=
  ⟨by simp, by decide, rfl, rfl, rfl, by decide +kernel, rfl, rfl, rfl, fun f hf => by
      obtain rfl := List.mem_singleton.mp hf
      exact ⟨rfl, by decide, by decide⟩, by decide, ⟨_, rfl, rfl⟩,
    fun _ _ _ _ _ _ _ _ vs hl => match vs, hl with | [v], _ => rfl, ⟨_, _, _, _, _, _, _, _, rfl, ⟨_, fun _ => rfl⟩, .cons .nil⟩⟩
abbrev ClsFu (P : Program) (K : PySem.W.Frag) (mg : Str → Option Value) (CF : Addr) : Prop :=
  EX.Cx' P K mg "Full" sFul ["many"] "RuntimeError" "RuntimeError.__new__" "RuntimeError.__init__" [.type "RuntimeError", .type "Exception", .type "BaseException", .type "object"] CF
/-- refusals of a note -/
inductive PuR (K : PySem.W.Frag) (H : Hp) (M : Bk) : V → V → V → Rf → Prop
  | who {v u a : V} {d : PyData} : Dt K H v d → ShortD d → hasD M d = false → PuR K H M v u a (.such v)
  | to {z : Str} {j : Nat} {u a : V} {d : PyData} : M.names[j]? = some z → Dt K H u d → ShortD d → hasD M d = false → PuR K H M (.str z) u a (.such u)
  | amount {z y : Str} {j k : Nat} {a : V} {d : PyData} : M.names[j]? = some z → M.names[k]? = some y → Dt K H a d → ShortD d → amountD d = false → PuR K H M (.str z) (.str y) a .amount
  | full {z y : Str} {j k : Nat} {m : Int} : M.names[j]? = some z → M.names[k]? = some y → 1 ≤ m → 60 ≤ manyM M → PuR K H M (.str z) (.str y) (.int m) .full
/-- .. of a gift -/
inductive GiR (K : PySem.W.Frag) (H : Hp) (M : Bk) : V → V → Rf → Prop
  | who {v a : V} {d : PyData} : Dt K H v d → ShortD d → hasD M d = false → GiR K H M v a (.such v)
  | amount {z : Str} {j : Nat} {a : V} {d : PyData} : M.names[j]? = some z → Dt K H a d → ShortD d → amountD d = false → GiR K H M (.str z) a .amount
section
variable {P : Program} {w : World} {K : PySem.W.Frag} {mg : Str → Option Value} {base : Heap}
def spPuR (K : PySem.W.Frag) (C : Addr) (X : Xs) : Sp := fun vs H _ E => ∃ (b : Addr) (M : Bk) (v u a : V) (r : Rf), vs = [.ref b, v, u, a] ∧ BookAt K C H b M ∧ M.Ok ∧ PuR K H M v u a r ∧ Thr X E (Same H) r
set_option maxHeartbeats 1000000 in
theorem no_puR {f f1 f2 C : Addr} {fd fd1 fd2 : FuncData} {X : Xs} (F : Fun K "put" "Book.put" sPut f fd) (T : ClsF K C) (B : Blt mg) (B3 : Blt3 mg) (gM : ∃ t, mg "MOST" = some (.int 60 t)) (FU : ClsFu P K mg X.F)
    (PL : HasM P w K mg base C 3 "place_of" ["self", "who"] (spPlace K C) f1 fd1) (PN : FnOk P w K mg base (L2N.CX P w) 3 f1 fd1 ["self", "who"] (spNo K C X.N)) (CA : Has P w K mg base 3 "check_amount" ["amount"] (spCheckA K) f2 fd2) (CN' : FnOk P w K mg base (L2N.CX P w) 3 f2 fd2 ["amount"] (spCAX K X.A)) :
    FnOk P w K mg base (L2N.CX P w) 6 f fd ["self", "who", "to", "amount"] (spPuR K C X) := by
  obtain ⟨tM, gM⟩ := gM
  refine okXN F scPut (fun vs H Q E h => ?_) (fun cdv A outer s H vs Q E hr h => ?_)
  · obtain ⟨_, _, _, _, _, _, rfl, _⟩ := h
    rfl
  obtain ⟨b, M, v, u, a, r, rfl, hb, ok, h, q⟩ := h
  have hr3 := hr.mono (show 3 ≤ 5 by decide)
  obtain ⟨dx, tn, on, wg, ws, wd, e, h1, hn, h2, h3, h4⟩ := hb.ex
  cases h with
  | who hv hs hno =>
    refine ⟨_, pss_cons (ps_set (i := 4) scPut.nd rfl (.inl rfl) (pe_meth (pv 0) T.cl PL.m PN hr3 PL.b .nil (L2N.passes_call (L2N.takes_of rfl rfl rfl rfl) fun _ _ _ _ z => z) (pa_cons (pv 1) pa_nil))) pss_never, ?_⟩
    exact ⟨.ref b, rfl, b, dx, _, rfl, e, bf_no (NoF.mk' (by decide +kernel)), v, rfl, b, M, v, _, rfl, hb, ok.names, hv, hs, hno, fun H' dd s _ ed => q H' dd s ed⟩
  | @to z j _ _ d ej hu hs hno =>
    refine ⟨_, pss_cons (ps_set (i := 4) scPut.nd rfl (.inl rfl) (pe_meth (pv 0) T.cl PL.m PL.ok hr3 PL.b .nil pass0 (pa_cons (pv 1) pa_nil)))
      (pss_cons (ps_set (i := 5) scPut.nd rfl (.inl rfl) (pe_ix ix_tup (pe_fld (pv 0) rfl) (pe_meth (pv 0) T.cl PL.m PN hr3 PL.b .nil (L2N.passes_call (L2N.takes_of rfl rfl rfl rfl) fun _ _ _ _ z => z) (pa_cons (pv 2) pa_nil)) (fun _ _ => rfl))) pss_never), ?_⟩
    refine ⟨.ref b, rfl, b, dx, _, rfl, e, bf_no (NoF.mk' (by decide +kernel)), .str z, rfl, b, M, z, j, rfl, hb, ok.names, ej, fun H1 s1 => ?_⟩
    exact ⟨.ref b, rfl, b, C, dx, _, _, rfl, s1 _ _ e, T.cl, T.n1, bf_names, .ref b, rfl, b, dx, _, rfl, s1 _ _ e, bf_no (NoF.mk' (by decide +kernel)), u, rfl, b, M, u, d, rfl, book_same hb s1, ok.names, Dt.same s1 _ hu, hs, hno, fun H' dd s _ ed => q H' dd (s1.trans s) ed⟩
  | @amount z y j k _ d ej ek ha hs hno =>
    refine ⟨_, pss_cons (ps_set (i := 4) scPut.nd rfl (.inl rfl) (pe_meth (pv 0) T.cl PL.m PL.ok hr3 PL.b .nil pass0 (pa_cons (pv 1) pa_nil)))
      (pss_cons (ps_set (i := 5) scPut.nd rfl (.inl rfl) (pe_ix ix_tup (pe_fld (pv 0) rfl) (pe_meth (pv 0) T.cl PL.m PL.ok hr3 PL.b .nil pass0 (pa_cons (pv 2) pa_nil)) (fun _ _ => rfl)))
      (pss_cons (ps_expr (pe_call CN' hr3 (by rfl) CA.g CA.kp CA.b .nil (L2N.passes_call (L2N.takes_of rfl rfl rfl rfl) fun _ _ _ _ z => z) (pa_cons (pv 3) pa_nil))) pss_never)), ?_⟩
    refine ⟨.ref b, rfl, b, dx, _, rfl, e, bf_no (NoF.mk' (by decide +kernel)), .str z, rfl, b, M, z, j, rfl, hb, ok.names, ej, fun H1 s1 => ?_⟩
    refine ⟨.ref b, rfl, b, C, dx, _, _, rfl, s1 _ _ e, T.cl, T.n1, bf_names, .ref b, rfl, b, dx, _, rfl, s1 _ _ e, bf_no (NoF.mk' (by decide +kernel)), .str y, rfl, b, M, y, k, rfl, book_same hb s1, ok.names, ek, fun H2 s2 => ?_⟩
    have s12 := s1.trans s2
    exact ⟨tn, _, _, .str y, rfl, rfl, .inl (.inr ⟨on, s12 _ _ h1⟩), atI_nat (map_get ek), a, rfl, a, d, rfl, Dt.same s12 _ ha, hs, hno, fun H' s => q H' (s12.trans s)⟩
  | @full z y j k n ej ek n1 mm =>
    refine ⟨_, pss_cons (ps_set (i := 4) scPut.nd rfl (.inl rfl) (pe_meth (pv 0) T.cl PL.m PL.ok hr3 PL.b .nil pass0 (pa_cons (pv 1) pa_nil)))
      (pss_cons (ps_set (i := 5) scPut.nd rfl (.inl rfl) (pe_ix ix_tup (pe_fld (pv 0) rfl) (pe_meth (pv 0) T.cl PL.m PL.ok hr3 PL.b .nil pass0 (pa_cons (pv 2) pa_nil)) (fun _ _ => rfl)))
      (pss_cons (ps_expr (pe_call CA.ok hr3 (by rfl) CA.g CA.kp CA.b .nil pass0 (pa_cons (pv 3) pa_nil)))
      (pss_cons (ps_if (pt_cmpR op_ge (pe_callB (cr_sum rfl) (by rfl) B3.sum (by decide +kernel) (pa_cons
          (pe_lc (own := [("stack", 6)]) (g := gName 6) (tt := tYes) rfl scPut.nd (pi_tup (pe_fld (pv 0) rfl)) (blkOk_by (N := nPut) (sc := defScope sPut) (own := [("stack", 6)]) (by decide +kernel))
            (fun _ _ _ _ _ => pg_name (i := 6) scPut.nd rfl (.inl rfl) (hf := .inr rfl)) (fun _ _ _ _ _ => pts_nil)
            (fun _ _ _ _ _ => pe_callB (call_lenS (K := K) rfl) (by rfl) B.len PySem.boot_len (pa_cons (pv 6) pa_nil))) pa_nil)) (pe_glob (v := .int 60) (by rfl) gM ⟨_, rfl⟩) (nomark _))
          (pss_one (L2N.ps_raise rfl (L2N.takes_of rfl rfl rfl rfl) (pmkN_ex FU txFul EX.base_Runtime hr (pa_cons (pe_glob (v := .int 60) (by rfl) gM ⟨_, rfl⟩) pa_nil) (by rfl)))) pss_nil) pss_never))), ?_⟩
    refine ⟨.ref b, rfl, b, dx, _, rfl, e, bf_no (NoF.mk' (by decide +kernel)), .str z, rfl, b, M, z, j, rfl, hb, ok.names, ej, fun H1 s1 => ?_⟩
    refine ⟨.ref b, rfl, b, C, dx, _, _, rfl, s1 _ _ e, T.cl, T.n1, bf_names, .ref b, rfl, b, dx, _, rfl, s1 _ _ e, bf_no (NoF.mk' (by decide +kernel)), .str y, rfl, b, M, y, k, rfl, book_same hb s1, ok.names, ek, fun H2 s2 => ?_⟩
    have s12 := s1.trans s2
    refine ⟨tn, _, _, .str y, rfl, rfl, .inl (.inr ⟨on, s12 _ _ h1⟩), atI_nat (map_get ek), ?_⟩
    refine ⟨.int n, rfl, n, rfl, n1, fun H3 s3 => ?_⟩
    have s13 := s12.trans s3
    obtain ⟨ta, xs, ews, qa, da⟩ := (Dt.same s13 _ h3).tup_inv
    subst ews
    refine ⟨.ref b, rfl, b, C, dx, _, _, rfl, s13 _ _ e, T.cl, T.n3, bf_stacks, ta, rfl, ⟨_, qa⟩, fun D nD => ?_⟩
    refine lc_it (walk_tup (xs := xs)) (fun i H' => Same H3 H' ∧ H' D = some (.lst ((M.stacks.take i).map fun l => .int (l.length : Nat)))) ⟨same_upd nD, upd_same⟩ (fun i H' _ hP => same_seqT hP.1 qa)
      (fun i x H4' H4 hi hP hY => ?_) (fun H4 hP => ?_)
    · obtain ⟨rfl, hx⟩ := hY
      have hs : i < M.stacks.length := by
        have := da.len
        rw [List.length_map] at this
        omega
      obtain ⟨v1, g1, d1⟩ := da.get (n := i) (d := stackD M.stacks[i]) (map_get (List.getElem?_eq_getElem hs))
      rw [hx] at g1
      cases g1
      obtain ⟨sa, sx, rfl, sq, sd⟩ := (Dt.same hP.1 _ d1).tup_inv
      have lsx : sx.length = M.stacks[i].length := by
        rw [sd.len]
        unfold notesD
        rw [List.length_map]
      refine ⟨rfl, .ref sa, rfl, sa, sx, rfl, .inr sq, _, hP.2, ?_, fun c o ec => ?_, ?_⟩
      · rw [List.length_map, List.length_take]
        have := ok.n1
        have := ok.ls
        exact small1000 (by omega)
      · rw [upd_ne (ne_of_none ec nD)]
        exact hP.1 c o ec
      · rw [upd_same, List.take_add_one, List.getElem?_eq_getElem hs, List.map_append, lsx]
        rfl
    · have lx : xs.length = M.stacks.length := by
        rw [da.len, List.length_map]
      refine ⟨D, M.stacks.map fun l => ((l.length : Nat) : Int), rfl, .inl (.inl ?_), _, _, rfl, rfl, _, rfl, ?_⟩
      · rw [hP.2, lx, List.take_length, List.map_map]
        rfl
      have esum : (M.stacks.map fun l => ((l.length : Nat) : Int)).sum = ((manyM M : Nat) : Int) := by
        unfold manyM
        generalize M.stacks = S
        induction S with
        | nil => rfl
        | cons a r ih =>
          rw [List.map_cons, List.sum_cons, ih, List.map_cons, List.sum_cons]
          omega
      rw [esum, show decide ((60 : Int) ≤ ((manyM M : Nat) : Int)) = true from decide_eq_true (by omega)]
      have s14 := s13.trans hP.1
      refine iteT ⟨rfl, fun dd nd => ?_⟩
      exact q _ dd (s14.trans (same_upd nd)) upd_same
def spGiR (K : PySem.W.Frag) (C : Addr) (X : Xs) : Sp := fun vs H _ E => ∃ (b : Addr) (M : Bk) (v a : V) (r : Rf), vs = [.ref b, v, a] ∧ BookAt K C H b M ∧ M.Ok ∧ GiR K H M v a r ∧ Thr X E (Same H) r
theorem no_giR {f f1 f2 C : Addr} {fd fd1 fd2 : FuncData} {X : Xs} (F : Fun K "give" "Book.give" sGive f fd) (T : ClsF K C)
    (PL : HasM P w K mg base C 3 "place_of" ["self", "who"] (spPlace K C) f1 fd1) (PN : FnOk P w K mg base (L2N.CX P w) 3 f1 fd1 ["self", "who"] (spNo K C X.N)) (CA : Has P w K mg base 3 "check_amount" ["amount"] (spCheckA K) f2 fd2) (CN' : FnOk P w K mg base (L2N.CX P w) 3 f2 fd2 ["amount"] (spCAX K X.A)) :
    FnOk P w K mg base (L2N.CX P w) 6 f fd ["self", "who", "amount"] (spGiR K C X) := by
  refine okXN F scGive (fun vs H Q E h => ?_) (fun cdv A outer s H vs Q E hr h => ?_)
  · obtain ⟨_, _, _, _, _, rfl, _⟩ := h
    rfl
  obtain ⟨b, M, v, a, r, rfl, hb, ok, h, q⟩ := h
  have hr3 := hr.mono (show 3 ≤ 5 by decide)
  obtain ⟨dx, tn, on, wg, ws, wd, e, h1, hn, h2, h3, h4⟩ := hb.ex
  cases h with
  | who hv hs hno =>
    refine ⟨_, pss_cons (ps_set (i := 3) scGive.nd rfl (.inl rfl) (pe_meth (pv 0) T.cl PL.m PN hr3 PL.b .nil (L2N.passes_call (L2N.takes_of rfl rfl rfl rfl) fun _ _ _ _ z => z) (pa_cons (pv 1) pa_nil))) pss_never, ?_⟩
    exact ⟨.ref b, rfl, b, dx, _, rfl, e, bf_no (NoF.mk' (by decide +kernel)), v, rfl, b, M, v, _, rfl, hb, ok.names, hv, hs, hno, fun H' dd s _ ed => q H' dd s ed⟩
  | @amount z j _ d ej ha hs hno =>
    refine ⟨_, pss_cons (ps_set (i := 3) scGive.nd rfl (.inl rfl) (pe_meth (pv 0) T.cl PL.m PL.ok hr3 PL.b .nil pass0 (pa_cons (pv 1) pa_nil)))
      (pss_cons (ps_expr (pe_call CN' hr3 (by rfl) CA.g CA.kp CA.b .nil (L2N.passes_call (L2N.takes_of rfl rfl rfl rfl) fun _ _ _ _ z => z) (pa_cons (pv 2) pa_nil))) pss_never), ?_⟩
    refine ⟨.ref b, rfl, b, dx, _, rfl, e, bf_no (NoF.mk' (by decide +kernel)), .str z, rfl, b, M, z, j, rfl, hb, ok.names, ej, fun H1 s1 => ?_⟩
    exact ⟨a, rfl, a, d, rfl, Dt.same s1 _ ha, hs, hno, fun H' s => q H' (s1.trans s)⟩
end
end Rc

namespace Rc
open PySem PySem.Spec PyProof.Rows L2 RZ
/-! ### NoBook -/
abbrev sNoB : Stmt := inClass (topS 2) 0
theorem txNoB : EX.Txt sNoB ["what", "who"] :=
  ⟨by simp, by decide, rfl, rfl, rfl, by decide +kernel, rfl, rfl, rfl, fun f hf => by
      rcases List.mem_cons.mp hf with rfl | hf
      · exact ⟨rfl, by decide, by decide⟩
      · obtain rfl := List.mem_singleton.mp hf
        exact ⟨rfl, by decide, by decide⟩, by decide, ⟨_, rfl, rfl⟩,
    fun _ _ _ _ _ _ _ _ vs hl => match vs, hl with | [v, u], _ => rfl, ⟨_, _, _, _, _, _, _, _, rfl, ⟨_, fun _ => rfl⟩, .cons (.cons .nil)⟩⟩
abbrev ClsNoB (P : Program) (K : PySem.W.Frag) (mg : Str → Option Value) (CN : Addr) : Prop :=
  EX.Cx' P K mg "NoBook" sNoB ["what", "who"] "ValueError" "ValueError.__new__" "ValueError.__init__" [.type "ValueError", .type "Exception", .type "BaseException", .type "object"] CN
/-! C(e, ..) within a try -/
section
variable {X : Cx} {CX : CXT} {k : Nat} {f C : Addr} {fd : FuncData} {ps : List Str} {sp : Sp} {E : L2.St → XK} {x : Str} {p pos : Pos} {e : Expr} {es : List Expr} {t : TA}
def tMakeP (C : Addr) (sp : Sp) (E : L2.St → XK) (t : TA) : TE := fun σ H Q => t σ H fun vs H1 => ∀ x dx, H1 x = none → H1 dx = none → dx ≠ x →
  sp (.ref x :: vs) (upd (upd H1 dx (.own x)) x (.ins C dx [])) (fun v H2 => v = .non ∧ Q (.ref x) H2) (E σ)
theorem run_makeP {pins : List (Addr × Obj)} {σ : L2.St} {H : Hp} {s : Shared} {Q : VK} {us : List Value} {vs : List V} (M : Mk X.K C f) (F : FnOk X.prog X.w X.K X.mg X.base CX k f fd ps sp) (hr : Room (k + 1) X.A) (hb : Binds X.K fd ps [])
    (hx : PassesAt CX X σ (E σ)) (I : Inv X pins σ H s) (r : Vals vs us)
    (h : ∀ x dx, H x = none → H dx = none → dx ≠ x → sp (.ref x :: vs) (upd (upd H dx (.own x)) x (.ins C dx [])) (fun v H2 => v = .non ∧ Q (.ref x) H2) (E σ)) :
    wpAny (model X.prog X.w) X.A (call (.ref C) us) (EP X pins σ Q) X.xe s := by
  have hq := h (s.heap.objs.size + 1) s.heap.objs.size (I.hok.fresh (Nat.le_succ _)) (I.hok.fresh (Nat.le_refl _)) (Nat.ne_of_lt (Nat.lt_succ_self _))
  have I2 := Inv.made (C := C) I
  have r2 : Vals (V.ref (s.heap.objs.size + 1) :: vs) (Value.ref (s.heap.objs.size + 1) :: us) := .cons rfl r
  have hl : (Value.ref (s.heap.objs.size + 1) :: us).length = ps.length := by
    have e := r2.length
    rw [F.len _ _ _ _ hq] at e
    exact e.symm
  have b := hb _ (Value.ref (s.heap.objs.size + 1) :: us) I2.kIn (by rw [List.append_nil]; exact hl)
  rw [List.append_nil] at b
  refine wpAny_call (make_map (f := f) I.kIn M.makes M.init (beq_iff_eq.mp M.fn) (codeAny_mono (F.run _ X.stack _ _ ⟨Value.ref (s.heap.objs.size + 1) :: us, []⟩ (Value.ref (s.heap.objs.size + 1) :: us) _ _ (E σ) (hr.make C us [])
    (I2.env0.make C us []) b r2 hq) fun r s' hq' => ?_))
  cases r with
  | error e => exact hx pins _ _ e s' I2 hq'
  | ok fl =>
    cases fl with
    | ret u =>
      obtain ⟨v, H', I3, rv, ev, q3⟩ := I2.after hq'
      subst ev
      exact ⟨rv, ⟨V.ref (s.heap.objs.size + 1), H', I3, rfl, q3⟩⟩
    | next => exact False.elim hq'
    | brk => exact False.elim hq'
    | cont => exact False.elim hq'
theorem pe_makeP (M : Mk X.K C f) (F : FnOk X.prog X.w X.K X.mg X.base CX k f fd ps sp) (hr : Room (k + 1) X.A) (hg : Gl X x) (hm : X.mg x = some (.ref C)) (hb : Binds X.K fd ps []) (hx : ∀ σ, PassesAt CX X σ (E σ))
    (ha : PA X (e :: es) t) (hdb : (x == ("__debug__" : Str)) = false := by decide) (he : starEach (e :: es) X.env = (false, eval e X.env) :: starEach es X.env := by rfl) (hpl : (backTo pos (starEach es X.env)).any (·.1) = false := by rfl) :
    PE X (.Call (.Name x p) (e :: es) [] pos) (tMakeP C sp E t) := by
  refine ⟨fun pins s σ H Q I h => ?_⟩
  refine wpAny_Call_Name_kw (ld_glob I hg hm ?_ hdb)
  refine PySem.W.callWith_K (h₀ := X.base) I.ok.mod.kin M.kp (thn (ha.run pos pins s σ H _ I h) fun us s1 ⟨vs, H1, I1, r, q⟩ => ⟨I1.kIn, ?_⟩) he hpl
  exact run_makeP M F hr hb (hx σ) I1 r q
end
def listD : PyData → Bool
  | .list _ => true
  | _ => false
theorem kit_list {K : PySem.W.Frag} (d : PyData) : PySem.W.kitOne K (.type (tyD d)) (.type "list") = some (listD d) :=
  match d with
  | PyData.none => kit_ty (a := "NoneType") (b := "list") (r := false) (by decide +kernel)
  | .bool _ => kit_ty (a := "bool") (b := "list") (r := false) (by decide +kernel)
  | .int _ => kit_ty (a := "int") (b := "list") (r := false) (by decide +kernel)
  | .str _ => kit_ty (a := "str") (b := "list") (r := false) (by decide +kernel)
  | .list _ => kit_ty (a := "list") (b := "list") (r := true) (by decide +kernel)
  | .tuple _ => kit_ty (a := "tuple") (b := "list") (r := false) (by decide +kernel)
  | .dict _ => kit_ty (a := "dict") (b := "list") (r := false) (by decide +kernel)
/-- what is told of a thing that is no name -/
def whoV (n : Nat) : PyData → V
  | .str z => .str z
  | _ => .str (Str.ofString (toString ((n : Nat) : Int)))
/-- what is no list of persons, and what is told of it -/
def BadQ (K : PySem.W.Frag) (H : Hp) (v w1 w2 : V) : Prop :=
  (∃ d, Dt K H v d ∧ listD d = false ∧ w1 = .str "persons" ∧ w2 = .str "persons") ∨
  (∃ (a : Addr) (xs : List V), v = .ref a ∧ H a = some (.lst xs) ∧ (xs = [] ∨ 12 < xs.length) ∧ w1 = .str "persons" ∧ w2 = .str "persons") ∨
  (∃ (a : Addr) (zs : List Str) (x : V) (rest : List V), v = .ref a ∧ H a = some (.lst (zs.map V.str ++ x :: rest)) ∧ zs.length + 1 + rest.length ≤ 12 ∧ zs.Nodup ∧ (∀ z ∈ zs, nameT z = true) ∧
    ((∃ z, x = .str z ∧ z ∈ zs ∧ w1 = .str "again" ∧ w2 = .str z) ∨ (∃ d, Dt K H x d ∧ ShortD d ∧ nameD d = false ∧ w1 = .str "name" ∧ w2 = whoV zs.length d)))
theorem BadQ.same {K : PySem.W.Frag} {H H' : Hp} {v w1 w2 : V} (h : BadQ K H v w1 w2) (s : Same H H') : BadQ K H' v w1 w2 := by
  rcases h with ⟨d, hd, h⟩ | ⟨a, xs, e, ha, h⟩ | ⟨a, zs, x, rest, e, ha, l, nd, nm, h⟩
  · exact .inl ⟨d, Dt.same s _ hd, h⟩
  · exact .inr (.inl ⟨a, xs, e, s _ _ ha, h⟩)
  · refine .inr (.inr ⟨a, zs, x, rest, e, s _ _ ha, l, nd, nm, ?_⟩)
    rcases h with h | ⟨d, hd, h⟩
    · exact .inl h
    · exact .inr ⟨d, Dt.same s _ hd, h⟩
def ENB (CN : Addr) (E : XK) (H : Hp) (w1 w2 : V) : Prop := ∀ H' dd, Same H H' → H dd = none → H' dd = some (.xd [("who", w2), ("what", w1)]) → E (.ref CN) (some dd) H'
theorem ENB.same {CN : Addr} {E : XK} {H H1 : Hp} {w1 w2 : V} (h : ENB CN E H w1 w2) (s : Same H H1) : ENB CN E H1 w1 w2 := fun H' dd s1 nd hd => h H' dd (s.trans s1) (s.free nd) hd
section
variable {P : Program} {w : World} {K : PySem.W.Frag} {mg : Str → Option Value} {base : Heap}
def spCkX (K : PySem.W.Frag) (CN : Addr) : Sp := fun vs H _ E => ∃ v w1 w2, vs = [v] ∧ BadQ K H v w1 w2 ∧ ENB CN E H w1 w2
theorem no_checkP {f fN CN : Addr} {fd fdN : FuncData} (F : Fun K "check_persons" "check_persons" sCheckP f fd) (B : Blt mg) (B3 : Blt3 mg) (NB : ClsNoB P K mg CN) (gM : ∃ t, mg "MOST_PERSONS" = some (.int 12 t))
    (N : Has P w K mg base 1 "is_name" ["thing"] (spBool K nameD) fN fdN) : FnOk P w K mg base (L2N.CX P w) 2 f fd ["persons"] (spCkX K CN) := by
  obtain ⟨tM, gM⟩ := gM
  refine okXN F scCheckP (fun vs H Q E h => ?_) (fun cdv A outer s H vs Q E hr h => ?_)
  · obtain ⟨_, _, _, rfl, _⟩ := h
    rfl
  · obtain ⟨v, w1, w2, rfl, bad, q⟩ := h
    refine ⟨_, pss_cons (ps_if (PW.pt (pw_or (pt_not (pt_val (pe_callB call_isi (by rfl) B.isi (by decide +kernel) (pa_cons (pv 0) (pa_cons (pe_bltn (v := .ty "list") (by rfl) B3.list (by decide +kernel) rfl) pa_nil)))))
        (pw_or (pt_cmpR op_lt (pe_callB call_len_seq (by rfl) B.len PySem.boot_len (pa_cons (pv 0) pa_nil)) pe_int (nomark _))
        (pw_or1 (pt_cmpR op_gt (pe_callB call_len_seq (by rfl) B.len PySem.boot_len (pa_cons (pv 0) pa_nil)) (pe_glob (v := .int 12) (by rfl) gM ⟨_, rfl⟩) (nomark _))))))
          (pss_one (L2N.ps_raise rfl (L2N.takes_of rfl rfl rfl rfl) (pmkN_ex NB txNoB EX.base_Value hr (pa_cons pe_str (pa_cons pe_str pa_nil)) (by rfl)))) pss_nil)
      (pss_one (ps_for (passes_of rfl) rfl (pi_enum (by rfl) B3.enumerate (pa_cons (pv 0) pa_nil)) (pg_tup rfl (pgs_cons (pg_name (i := 1) scCheckP.nd rfl (.inl rfl)) (pgs_cons (pg_name (i := 2) scCheckP.nd rfl (.inl rfl)) pgs_nil)))
        (pss_cons (ps_if (pt_not (pt_val (pe_call N.ok hr (by rfl) N.g N.kp N.b .nil pass0 (pa_cons (pv 2) pa_nil))))
          (pss_one (L2N.ps_raise rfl (L2N.takes_of rfl rfl rfl rfl) (pmkN_ex NB txNoB EX.base_Value hr (pa_cons pe_str (pa_cons (pe_ifExp (pt_val (pe_callB call_isi (by rfl) B.isi (by decide +kernel) (pa_cons (pv 2) (pa_cons (pe_bltn (v := .ty "str") (by rfl) B.str (by decide +kernel) rfl) pa_nil)))) (pv 2) (pe_callTy call_str_int (by rfl) B.str (by decide +kernel) (pa_cons (pv 1) pa_nil))) pa_nil)) (by rfl)))) pss_nil)
        (pss_one (ps_if (pt_cmpR op_in_seq (pv 2) (pe_slice sl_list (pv 0) po_none (po_some (pv 1))) (by rfl))
          (pss_one (L2N.ps_raise rfl (L2N.takes_of rfl rfl rfl rfl) (pmkN_ex NB txNoB EX.base_Value hr (pa_cons pe_str (pa_cons (pv 2) pa_nil)) (by rfl)))) pss_nil))))), ?_⟩
    have out : ∀ {H1 : Hp}, Same H H1 → ∀ dd, H1 dd = none → E (.ref CN) (some dd) (upd H1 dd (.xd [("who", w2), ("what", w1)])) := fun s1 dd nd => q _ dd (s1.trans (same_upd nd)) (s1.free nd) upd_same
    rcases bad with ⟨d, hd, ld, rfl, rfl⟩ | ⟨a, xs, rfl, ha, hl, rfl, rfl⟩ | ⟨a, zs, x, rest, rfl, ha, l11, znd, znm, hx⟩
    · refine ⟨v, rfl, v, .ty "list", _, _, listD d, rfl, .ty "list", hd.ty, kit_list d, _, rfl, ?_⟩
      rw [ld]
      exact iteT ⟨rfl, fun dd nd => out (Same.refl _) dd nd⟩
    · have sq : SqL K H a xs := .inl (.inl ha)
      refine ⟨.ref a, rfl, _, .ty "list", _, _, true, rfl, .ty "list", .base (.lst ha), kit_ty (by decide +kernel), _, rfl, iteF ?_⟩
      refine ⟨.ref a, rfl, a, _, rfl, .inl sq, _, _, rfl, rfl, _, rfl, ite2 (fun _ => ⟨rfl, fun dd nd => out (Same.refl _) dd nd⟩) (fun c => ?_)⟩
      refine ⟨.ref a, rfl, a, _, rfl, .inl sq, _, _, rfl, rfl, _, rfl, ?_⟩
      have c' : ¬ ((xs.length : Int) < 1) := by simpa using c
      rw [show decide ((12 : Int) < (xs.length : Int)) = true from decide_eq_true (by
        rcases hl with rfl | h
        · exact absurd (by decide) c'
        · omega)]
      exact iteT ⟨rfl, fun dd nd => out (Same.refl _) dd nd⟩
    · have sq : SqL K H a (zs.map V.str ++ x :: rest) := .inl (.inl ha)
      have lx : (zs.map V.str ++ x :: rest).length = zs.length + (rest.length + 1) := by rw [List.length_append, List.length_map]; rfl
      refine ⟨.ref a, rfl, _, .ty "list", _, _, true, rfl, .ty "list", .base (.lst ha), kit_ty (by decide +kernel), _, rfl, iteF ?_⟩
      refine ⟨.ref a, rfl, a, _, rfl, .inl sq, _, _, rfl, rfl, _, rfl, ?_⟩
      rw [show decide (((zs.map V.str ++ x :: rest).length : Int) < 1) = false from decide_eq_false (by rw [lx]; omega)]
      refine iteF ⟨.ref a, rfl, a, _, rfl, .inl sq, _, _, rfl, rfl, _, rfl, ?_⟩
      rw [show decide ((12 : Int) < ((zs.map V.str ++ x :: rest).length : Int)) = false from decide_eq_false (by rw [lx]; omega)]
      refine iteF ⟨.ref a, rfl, a, _, rfl, sq, ?_⟩
      refine for_it (walk_enum (xs := zs.map V.str ++ x :: rest)) (fun i σ H' => i ≤ zs.length ∧ ∃ y1 y2, σ = [some (.ref a), y1, y2] ∧ Same H H') ⟨Nat.zero_le _, _, _, rfl, Same.refl _⟩ (fun i σ H' _ hP => ?_) (fun i x σ H1' H1 hi hP hY => ?_) (fun σ H' hP => ?_)
      · obtain ⟨_, _, _, _, s⟩ := hP
        exact s.seq sq
      · obtain ⟨T, x1, x2, rfl, nT, rfl, e1, e2⟩ := hY
        obtain ⟨il, y1, y2, rfl, s1⟩ := hP
        cases e1
        have s2 := s1.trans (same_upd (o := .tup [V.int (i : Nat), x2]) nT)
        refine ⟨T, _, rfl, .inl (.inl upd_same), rfl, _, _, rfl, _, _, rfl, rfl, ?_⟩
        have e2' : (zs.map V.str ++ x :: rest)[i]? = some x2 := e2
        have tk : ∀ z : Str, nameT z = true → z.length ≤ 1000 := fun z h => by have := (nameT_len h).2; omega
        by_cases hz : i < zs.length
        · have ex : x2 = .str zs[i] := by
            rw [List.getElem?_append_left (by rw [List.length_map]; exact hz), List.getElem?_map, List.getElem?_eq_getElem hz] at e2'
            exact (Option.some.inj e2').symm
          subst ex
          have hm : zs[i] ∈ zs := List.getElem_mem hz
          have nm := znm _ hm
          refine ⟨.str zs[i], rfl, .str zs[i], .str zs[i], rfl, .str _, fun z e => by cases e; exact tk _ nm, fun H2 sm => ⟨_, rfl, ?_⟩⟩
          rw [show nameD (.str zs[i]) = true from nm]
          refine iteF ⟨.str zs[i], rfl, .ref a, rfl, .int (i : Nat), rfl, _, rfl, a, _, rfl, sm.seq (s2.seq sq), fun p np => ?_⟩
          rw [cut_take, List.take_append_of_le_length (by rw [List.length_map]; omega), ← List.map_take]
          refine ⟨p, _, rfl, .inl (.inl (.inl upd_same)), rfl, flat_strs _, _, rfl, ?_⟩
          have no : ¬ zs[i] ∈ zs.take i := fun z => by
            obtain ⟨j, hj, e⟩ := List.getElem_of_mem z
            rw [List.length_take] at hj
            rw [List.getElem_take] at e
            have := (List.getElem_inj znd).mp e
            omega
          show if inV (.str zs[i]) ((zs.take i).map V.str) = true then _ else _
          rw [inV_strs, decide_eq_false no]
          exact iteF ⟨by omega, _, _, rfl, s2.trans (sm.trans (same_upd np))⟩
        · have ei : i = zs.length := by omega
          subst ei
          have ex : x2 = x := by
            rw [List.getElem?_append_right (by rw [List.length_map]; exact Nat.le_refl _), List.length_map, Nat.sub_self] at e2'
            exact (Option.some.inj e2').symm
          subst ex
          rcases hx with ⟨z, rfl, hz, rfl, rfl⟩ | ⟨d, hd, sd, nn, rfl, rfl⟩
          · have nm := znm _ hz
            refine ⟨.str z, rfl, .str z, .str z, rfl, .str _, fun z e => by cases e; exact tk _ nm, fun H2 sm => ⟨_, rfl, ?_⟩⟩
            rw [show nameD (.str z) = true from nm]
            refine iteF ⟨.str z, rfl, .ref a, rfl, .int (zs.length : Nat), rfl, _, rfl, a, _, rfl, sm.seq (s2.seq sq), fun p np => ?_⟩
            rw [cut_take, List.take_append_of_le_length (by rw [List.length_map]; omega), ← List.map_take, List.take_length]
            refine ⟨p, _, rfl, .inl (.inl (.inl upd_same)), rfl, flat_strs _, _, rfl, ?_⟩
            show if inV (.str z) (zs.map V.str) = true then _ else _
            rw [inV_strs, decide_eq_true hz]
            exact iteT ⟨.str z, rfl, rfl, fun dd nd => out (s2.trans (sm.trans (same_upd np))) dd nd⟩
          · have hd2 := Dt.same s2 _ hd
            refine ⟨x2, rfl, x2, d, rfl, hd2, sd, fun H2 sm => ⟨_, rfl, ?_⟩⟩
            rw [nn]
            have hd3 := Dt.same sm _ hd2
            refine iteT ⟨x2, rfl, x2, .ty "str", _, _, strD d, rfl, .ty "str", hd3.ty, kit_str d, _, rfl, ?_⟩
            cases hs : strD d with
            | true =>
              obtain ⟨z, rfl⟩ : ∃ z, d = .str z := by cases d <;> first | exact ⟨_, rfl⟩ | cases hs
              obtain rfl : x2 = .str z := by
                cases hd3
                rfl
              exact iteT ⟨.str z, rfl, rfl, fun dd nd => out (s2.trans sm) dd nd⟩
            | false =>
              have ew : whoV zs.length d = .str (Str.ofString (toString ((zs.length : Nat) : Int))) := by cases d <;> first | rfl | cases hs
              rw [ew] at out
              refine iteF ⟨.int (zs.length : Nat), rfl, _, rfl, ?_, rfl, fun dd nd => out (s2.trans sm) dd nd⟩
              have h11 : zs.length < 12 := by omega
              have := (by decide : ∀ n, n < 12 → ((n : Nat) : Int).natAbs.log2 < 10) _ h11
              omega
      · obtain ⟨hle, _⟩ := hP
        rw [lx] at hle
        omega
def spInX (K : PySem.W.Frag) (CN : Addr) : Sp := fun vs H _ E => ∃ x v w1 w2, vs = [.ref x, v] ∧ BadQ K H v w1 w2 ∧ ENB CN E H w1 w2
theorem no_init {f fc C CN : Addr} {fd fdc : FuncData} (F : Fun K "__init__" "Book.__init__" sInit f fd) (CP : HasXN P w K mg base 2 "check_persons" ["persons"] (spCkX K CN) fc fdc) : FnOk P w K mg base (L2N.CX P w) 3 f fd ["self", "persons"] (spInX K CN) := by
  refine okXN F scInit (fun vs H Q E h => ?_) (fun cdv A outer s H vs Q E hr h => ?_)
  · obtain ⟨_, _, _, _, rfl, _⟩ := h
    rfl
  · obtain ⟨x, v, w1, w2, rfl, bad, q⟩ := h
    exact ⟨_, pss_cons (ps_expr (pe_call CP.ok hr (by rfl) CP.g CP.kp CP.b .nil (L2N.passes_call (L2N.takes_of rfl rfl rfl rfl) fun _ _ _ _ z => z) (pa_cons (pv 1) pa_nil))) pss_never, v, rfl, v, w1, w2, rfl, bad, q⟩
end
end Rc

namespace Rc
open PySem PySem.Spec PyProof.Rows L2
/-! ### a dict with a key of another kind: d[None] = v, d[("a",)] = v -/
section
variable {prog : Program} {w : World} {A : Around} {E : Value → Shared → Prop} {s : Shared}
theorem hash_none {Q : Int → Shared → Prop} (h : Q 0xFCA86420 { s with toks := s.toks + 1 }) : wpAny (model prog w) A (pyHash .none) Q E s := by
  have tT : s.TypeIs .none "NoneType" := rfl
  unfold pyHash
  unfold pyHashByItsType
  have hv : [Value.none].any Value.onHeap = false := rfl
  refine wpAny_bind ?_
  rw [cRoomFor, if_neg (by rw [hv]; exact Bool.false_ne_true)]; refine wpAny_pure ?_
  refine wpAny_bind (wpAny_specialOf tT PySem.F.slot_NoneType_hash.lookup ?_)
  show wpAny _ _ (if (some (Value.builtin "NoneType.__hash__") == some Value.none) = true then _ else _) Q E s
  rw [if_neg (by rw [beq_builtin_none]; exact Bool.false_ne_true)]
  refine wpAny_bind (wpAny_specialOf tT PySem.F.slot_NoneType_hash.lookup ?_)
  show wpAny _ _ (callSpecialIfBoundUnlessNone? .none "__hash__" _ >>= _) Q E s
  refine wpAny_bind (wpAny_callSpecialIfBoundUnlessNone?_slot tT PySem.F.slot_NoneType_hash
    (wpAny_call_entry PySem.F.slot_NoneType_hash tT PySem.F.entry_NoneType_hash
      (show wpAny _ _ (do ret (← mkInt 0xFCA86420)) _ _ s from wpAny_ret_mkInt ?_) (PySem.F.args_NoneType_hash_1 _)))
  show wpAny _ _ (if (decide (-(2 : Int) ^ 63 ≤ 0xFCA86420) && decide ((0xFCA86420 : Int) < 2 ^ 63)) = true then _ else _) Q E _
  rw [if_pos (by decide)]
  exact wpAny_pure h
/-- no key of the dict is like it -/
theorem find_none {d : Addr} {o : Obj} {es : Array DictEntry} {ep : Nat} {hk : Int} {Q : Option Nat → Shared → Prop} (ho : s.heap.get? d = some o) (hd : o.data = .dict es ep) (hs : ∀ e ∈ es, ∃ x t, e.key = .str x t) (h : Q none s) :
    wpAny (model prog w) A (dictFind d .none hk) Q E s := by
  have hall : ((Value.none :: (placesWithHash es.size (fun i => es[i]?.map (·.hash)) hk).filterMap fun i => es[i]?.map (·.key)).all carriedByValue) = true := by
    rw [List.all_cons, List.all_eq_true.mpr]
    · rfl
    · intro v hv
      obtain ⟨i, _, hi⟩ := List.mem_filterMap.mp hv
      cases he : es[i]? with
      | none => rw [he] at hi; cases hi
      | some e =>
        rw [he] at hi
        obtain rfl : e.key = v := by simpa using hi
        obtain ⟨x, t, ek⟩ := hs e (Array.mem_of_getElem? he)
        rw [ek]
        rfl
  unfold dictFind
  try with_reducible refine wpAny_holding ?_
  refine wpAny_bind (wpAny_dictEntries ho hd ?_)
  dsimp only
  rw [if_pos hall]
  refine wpAny_bind ?_
  refine wpAny_forIn_list _ (fun rest b s' => s' = s ∧ b = (none, ())) _ ?_ ?_ _ _ ⟨rfl, rfl⟩
  · rintro x rest b s' ⟨rfl, rfl⟩
    cases hex : es[x]? with
    | none => exact wpAny_pure ⟨rfl, rfl⟩
    | some e =>
      obtain ⟨y, t, ek⟩ := hs e (Array.mem_of_getElem? hex)
      dsimp only
      by_cases hh : (e.hash == hk) = true
      · rw [if_pos hh, ek]
        refine wpAny_bind (wpAny_dictEpoch ho hd (wpAny_bind (SeqAt.EqAt.str_none y t _ _ _ _ (wpAny_bind (wpAny_dictEpoch ho hd ?_)))))
        show wpAny _ _ (if (ep != ep) = true then _ else _) _ E _
        rw [if_neg (by simp)]
        simp only [Bool.false_eq_true, if_false]
        exact wpAny_bind (wpAny_rule (wpAny_pure ⟨rfl, rfl⟩))
      · rw [if_neg hh]
        exact wpAny_pure ⟨rfl, rfl⟩
  · rintro b s' ⟨rfl, rfl⟩
    exact wpAny_pure h
theorem tells_no {u : Value} {stored : List Value} {Q : Bool → Shared → Prop} (hq : ∀ Q' : Bool → Shared → Prop, Q' true s → wpAny (model prog w) A (eqIsQuiet 8 u) Q' E s) (hst : ∀ v ∈ stored, carriedByValue v = true) (h : Q false s) : wpAny (model prog w) A (tableMayTell u stored) Q E s := by
  unfold tableMayTell
  split
  · exact wpAny_pure h
  · refine wpAny_bind (hq _ ?_)
    simp only [Bool.not_true, Bool.false_eq_true, if_false]
    refine wpAny_bind ?_
    refine wpAny_forIn_list _ (fun rest r s' => s' = s ∧ r = (none, ()) ∧ ∀ v ∈ rest, carriedByValue v = true) _ ?_ ?_ _ _ ⟨rfl, rfl, hst⟩
    · rintro x rest r s' ⟨rfl, rfl, hr⟩
      rw [eqIsQuiet_byValue 8 (hr x List.mem_cons_self)]
      refine wpAny_bind (wpAny_pure ?_)
      simp only [Bool.not_true, Bool.false_eq_true, if_false]
      exact wpAny_pure ⟨rfl, rfl, fun v hv => hr v (List.mem_cons_of_mem _ hv)⟩
    · rintro r s' ⟨rfl, rfl, _⟩
      exact wpAny_pure h
theorem find_tup {d a : Addr} {o : Obj} {es : Array DictEntry} {ep : Nat} {hk : Int} {ks : List Key} {items : Array Value} {Q : Option Nat → Shared → Prop} (hu : A.units < cLine) (hkey : (tupleKind (mixKind prog w)).is s.heap ks a) (hT : IsTup s.heap a items)
    (ho : s.heap.get? d = some o) (hd : o.data = .dict es ep) (hs : ∀ e ∈ es, ∃ x t, e.key = .str x t) (h : Q none s) : wpAny (model prog w) A (dictFind d (.ref a) hk) Q E s := by
  have hany : ¬ (es.any fun e => e.key == Value.ref a && e.hash != hk) = true := by
    rw [← Array.any_toList, List.any_eq_true]
    rintro ⟨e, hin, hc⟩
    obtain ⟨x, t, ek⟩ := hs e (Array.mem_toList_iff.mp hin)
    rw [ek] at hc
    simp at hc
  have hst : ∀ v ∈ (placesWithHash es.size (fun i => es[i]?.map (·.hash)) hk).filterMap (fun i => es[i]?.map (·.key)), carriedByValue v = true := by
    intro v hv
    obtain ⟨i, _, hi⟩ := List.mem_filterMap.mp hv
    cases hei : es[i]? with
    | none => rw [hei] at hi; cases hi
    | some e =>
      rw [hei] at hi
      obtain rfl : e.key = v := by simpa using hi
      obtain ⟨x, t, ek⟩ := hs e (Array.mem_of_getElem? hei)
      rw [ek]
      rfl
  unfold dictFind
  try with_reducible refine wpAny_holding ?_
  refine wpAny_bind (wpAny_dictEntries ho hd ?_)
  dsimp only
  rw [if_neg (show ¬ ((Value.ref a :: (placesWithHash es.size (fun i => es[i]?.map (·.hash)) hk).filterMap (fun i => es[i]?.map (·.key))).all carriedByValue) = true by simp [carriedByValue])]
  rw [if_neg hany]
  by_cases hone : (((placesWithHash es.size (fun i => es[i]?.map (·.hash)) hk).filterMap (fun i => es[i]?.map (·.key))) == [Value.ref a]) = true <;>
  (first | rw [if_pos hone] | rw [if_neg hone]) <;> (first | refine wpAny_bind (wpAny_pure ?_) | refine wpAny_bind (tells_no (fun Q' q => (tupleKind (mixKind prog w)).quiet hkey q) hst ?_)) <;> (
    rw [if_neg (by simp)]
    refine wpAny_bind ?_
    refine wpAny_forIn_list _ (fun rest b s' => s' = s ∧ b = (none, none)) _ ?_ ?_ _ _ ⟨rfl, rfl⟩
    · rintro x rest b s' ⟨rfl, rfl⟩
      cases hex : es[x]? with
      | none => exact wpAny_pure ⟨rfl, rfl⟩
      | some e =>
        obtain ⟨y, t, ek⟩ := hs e (Array.mem_of_getElem? hex)
        dsimp only
        by_cases hh : (e.hash == hk) = true
        · rw [if_pos hh, ek]
          refine wpAny_bind (wpAny_dictEpoch ho hd (wpAny_bind (SeqAt.EqAt.str_tuple y t hT hu _ _ _ _ (wpAny_bind (wpAny_dictEpoch ho hd ?_)))))
          show wpAny _ _ (if (ep != ep) = true then _ else _) _ E _
          rw [if_neg (by simp)]
          simp only [Bool.false_eq_true, if_false]
          refine wpAny_bind (wpAny_rule ?_)
          first | rw [if_neg (by simp)] | skip
          first
            | exact wpAny_pure ⟨rfl, rfl⟩
            | exact wpAny_bind (wpAny_pure (wpAny_pure ⟨rfl, rfl⟩))
        · rw [if_neg hh]
          exact wpAny_pure ⟨rfl, rfl⟩
    · rintro b s' ⟨rfl, rfl⟩
      exact wpAny_pure h)
theorem set_raw {d : Addr} {o : Obj} {es : Array DictEntry} {ep n : Nat} {u r : Value} {hk : Int} {Q : Unit → Shared → Prop} (hu : A.units + 1 < cLine) (ho : s.heap.get? d = some o) (hc : o.ExactDict) (hd : o.data = .dict es ep) (hz : es.size ≤ sizeLine)
    (hash : ∀ (A' : Around) (E' : Value → Shared → Prop) (Q' : Int → Shared → Prop), A'.units < cLine → Q' hk { s with toks := s.toks + n } → wpAny (model prog w) A' (pyHash u) Q' E' s)
    (find : ∀ (A' : Around) (E' : Value → Shared → Prop) (Q' : Option Nat → Shared → Prop), A'.units < cLine → Q' none { s with toks := s.toks + n } → wpAny (model prog w) A' (dictFind d u hk) Q' E' { s with toks := s.toks + n })
    (hQ : ∀ h', (∃ o', h'.get? d = some o' ∧ o'.ExactDict ∧ o'.data = .dict (es.push ⟨hk, u, r⟩) (ep + 1)) → Heap.SameBut d s.heap h' → Q () { s with heap := h', toks := s.toks + n }) :
    wpAny (model prog w) A (setItem (.ref d) u r) Q E s := by
  have hT : s.TypeIs (.ref d) "dict" := ⟨o, ho, hc.1⟩
  have hr : A.in1.units < cLine := tupleKind_room_in1 (knd := mixKind prog w) hu
  unfold setItem
  try with_reducible refine wpAny_holding ?_
  refine wpAny_bind (wpAny_sequenceKey hT (by decide) ?_)
  refine wpAny_bind (wpAny_callSpecial?_slot (name := Str.ofString "__setitem__") hT slot_dict_setitem
    (wpAny_call_entry slot_dict_setitem hT entry_dict_setitem ?_ (args_dict_setitem _ _ _)))
  show wpAny _ _ (Builtin.Dict.notOrdered "__setitem__" ⟨[.ref d, u, r], []⟩ >>= _) _ _ s
  refine wpAny_bind (wpAny_notOrdered_dict hT ?_)
  show wpAny _ _ (dictSet d u r >>= _) _ _ s
  refine wpAny_bind ?_
  unfold dictSet
  try with_reducible refine wpAny_holding ?_
  refine wpAny_bind (hash _ _ _ hr ?_)
  unfold dictSetHashed
  try with_reducible refine wpAny_holding ?_
  refine wpAny_bind (find _ _ _ hr ?_)
  refine wpAny_bind (wpAny_rule (wpAny_updateDictKeys (hz := hz) (s := { s with toks := s.toks + n }) ho hd ?_))
  exact wpAny_pure ⟨.none, rfl, wpAny_pure (hQ _ ⟨_, Heap.get?_update_self _ ho (Obj.isFreed_of_dict (Obj.data_mapDictKeys hd _)), hc.mapDictKeys _, Obj.data_mapDictKeys hd _⟩ (Heap.SameBut.update ..))⟩
end
/-! as a thing of the heap -/
def MxAt (d : Addr) (ks vs : List V) (h : Heap) : Prop := (d == sysModules) = false ∧ ks.length ≤ sizeLine ∧ ∃ o es ep, h.get? d = some o ∧ o.ExactDict ∧ o.data = .dict es ep ∧ Vals ks (es.toList.map (·.key)) ∧ Vals vs (es.toList.map (·.val))
def dMx (d : Addr) (ks vs : List V) : HO := .ext (MxAt d ks vs)
theorem mx_ok {P : Program} {w : World} {H : Hp} {h : Heap} {d : Addr} {ks vs : List V} (e : MxAt d ks vs h) : ObjOk P w H h d (dMx d ks vs) := by
  refine ⟨e, ?_, fun h1 h2 x k => ?_⟩
  · obtain ⟨_, _, o, _, _, e, _⟩ := e
    exact ⟨o, e⟩
  · obtain ⟨a, b, o, es, ep, ho, r⟩ := x
    exact ⟨a, b, o, es, ep, k o ho, r⟩
theorem mx_of {P : Program} {w : World} {H : Hp} {h : Heap} {d : Addr} {ks vs : List V} (ok : HOk P w H h) (e : H d = some (dMx d ks vs)) : MxAt d ks vs h := (show ObjOk P w H h d (dMx d ks vs) from ok d _ e).1
theorem vals_snoc {xs : List V} {us : List Value} {x : V} {u : Value} (h : Vals xs us) (r : RelV x u) : Vals (xs ++ [x]) (us ++ [u]) := h.append (.cons r .nil)
/-- a key of another kind -/
inductive Frn (H : Hp) : V → Prop
  | non : Frn H .non
  | tup {t : Addr} {x : Str} : H t = some (.tup [.str x]) → Frn H (.ref t)
/-- d[k] = v, k of another kind -/
def rSetM : TSet := fun o i v H Q => ∃ (d : Addr) (zs : List Str) (ws : List V), o = .ref d ∧ H d = some (.dK (dct zs ws)) ∧ zs.length = ws.length ∧ zs.length < 1000 ∧ Frn H i ∧ Q (upd H d (dMx d (zs.map V.str ++ [i]) (ws ++ [v])))
theorem dct_fst : ∀ {zs : List Str} {ws : List V}, zs.length = ws.length → (dct zs ws).map (fun p => kV p.1) = zs.map V.str ∧ (dct zs ws).map (·.2) = ws
  | [], [], _ => ⟨rfl, rfl⟩
  | z :: zs, w :: ws, h => by
    obtain ⟨a, b⟩ := dct_fst (zs := zs) (ws := ws) (by simpa using h)
    constructor
    · show V.str z :: (dct zs ws).map (fun p => kV p.1) = V.str z :: zs.map V.str
      rw [a]
    · show w :: (dct zs ws).map (·.2) = w :: ws
      rw [b]
  | [], _ :: _, h => by simp at h
  | _ :: _, [], h => by simp at h
theorem set_mx {X : Cx} (hu : X.A.units + 1 < cLine) : PSet X rSetM := by
  intro pins s σ H o i v ov iv u Q I ro ri rv h
  obtain ⟨d, zs, ws, rfl, e, lz, l1, fr, q⟩ := h
  obtain rfl : ov = Value.ref d := ro
  obtain ⟨z, hd, vs, rel, ob, es, ep, ho, hx, hdt, hk, hp, _⟩ := dk_of I.hok e
  obtain ⟨k1, k2⟩ := keys_rel hp rel
  obtain ⟨f1, f2⟩ := dct_fst lz
  rw [f1] at k1
  rw [f2] at k2
  have les : es.size = zs.length := by
    have := k1.length
    rw [List.length_map, List.length_map] at this
    simpa using this.symm
  have hs : ∀ e ∈ es, ∃ x t, e.key = Value.str x t := fun e he => by
    have hm : e.key ∈ es.toList.map (·.key) := List.mem_map.mpr ⟨e, Array.mem_toList_iff.mpr he, rfl⟩
    obtain ⟨j, hj⟩ := List.mem_iff_getElem?.mp hm
    have hjl : j < (zs.map V.str).length := by
      rw [k1.length]
      exact (List.getElem?_eq_some_iff.mp hj).1
    obtain ⟨u', e1, r1⟩ := k1.get (List.getElem?_eq_getElem hjl)
    rw [hj] at e1
    cases e1
    rw [List.getElem_map] at r1
    obtain ⟨t, e2⟩ := r1
    exact ⟨_, t, e2⟩
  have line : es.size ≤ sizeLine := by rw [les]; exact small_line (by omega)
  have fin : ∀ (hk' : Int) (h' : Heap) (t' : Nat), (∃ o', h'.get? d = some o' ∧ o'.ExactDict ∧ o'.data = .dict (es.push ⟨hk', iv, u⟩) (ep + 1)) → Heap.SameBut d s.heap h' →
      (fun _ s' => ∃ H', Inv X pins σ H' s' ∧ Q H') () { s with heap := h', toks := t' } := fun hk' h' t' ⟨o', e1, e2, e3⟩ sb => by
    refine ⟨_, d_write I (by rw [e]; exact True.intro) sb ⟨o', e1⟩ (mx_ok ⟨hd, ?_, o', _, _, e1, e2, e3, ?_, ?_⟩), q⟩
    · rw [List.length_append, List.length_map]
      exact small_line (show zs.length + 1 ≤ 1000 by omega)
    · rw [Array.toList_push, List.map_append]
      exact vals_snoc k1 ri
    · rw [Array.toList_push, List.map_append]
      exact vals_snoc k2 rv
  cases fr with
  | non =>
    obtain rfl : iv = Value.none := ri
    exact set_raw (n := 1) hu ho hx hdt line (fun A' E' Q' _ q' => hash_none q') (fun A' E' Q' _ q' => find_none (s := { s with toks := s.toks + 1 }) ho hdt hs q') fun h' a b => fin _ h' _ a b
  | @tup t x hT =>
    obtain rfl : iv = Value.ref t := ri
    have hkey : (tupleKind (mixKind X.prog X.w)).is s.heap [Sum.inr x] t := key_of (ks := [Sum.inr x]) I.hok hT
    obtain ⟨_, its, _, hI⟩ := (show ObjOk X.prog X.w H s.heap t (.tup [.str x]) from I.hok t _ hT)
    exact set_raw hu ho hx hdt line (fun A' E' Q' hu' q' => (tupleKind (mixKind X.prog X.w)).pyHash hu' hkey q') (fun A' E' Q' hu' q' => find_tup (s := { s with toks := _ }) hu' hkey hI ho hdt hs q') fun h' a b => fin _ h' _ a b
end Rc

namespace Rc
open PySem PySem.Spec PyProof.Rows L2 RZ
/-! ### isinstance(d, dict), len(d), repr(d) of such a one -/
section
variable {prog : Program} {w : World} {A : Around} {E : Value → Shared → Prop} {s : Shared}
theorem meets_len_raw {d : Addr} {n : Nat} (hd : (d == sysModules) = false) :
    MeetsIn prog w (Builtin.«dict.__len__» ⟨[.ref d], []⟩) (fun _ R s => (∃ o es ep, s.heap.get? d = some o ∧ o.data = .dict es ep ∧ es.size = n) ∧ R (.ok (.ret (.int n s.toks))) { s with toks := s.toks + 1 }) :=
  .of_wp fun A R s ⟨⟨o, es, ep, ho, hdat, hn⟩, h⟩ => by
    show wpAny _ _ (dictSize d >>= _) _ _ s
    unfold dictSize
    refine wpAny_bind (wpAny_bind (wpAny_dictEntries ho hdat (wpAny_pure ?_)))
    show wpAny _ _ (Builtin.Dict.pendingCount d >>= _) _ _ s
    refine wpAny_bind (wpAny_pendingCount_other hd ?_)
    refine wpAny_ret_mkInt ?_
    rw [Nat.add_zero, hn]; exact h
theorem len_body_raw {d : Addr} {o : Obj} {es : Array DictEntry} {ep : Nat} {Q : Value → Shared → Prop} (hd : (d == sysModules) = false) (ho : s.heap.get? d = some o) (hc : o.ExactDict) (hdat : o.data = .dict es ep) (hfit : (es.size : Int) < 2 ^ 63)
    (h : Q (.int es.size (s.toks + 1)) { s with toks := s.toks + 1 + 1 }) : wpAny (model prog w) A (Builtin.«len» ⟨[.ref d], []⟩) (fun fin s' => ∃ r, fin = .done (.ret r) ∧ Q r s') E s := by
  have hT : s.TypeIs (.ref d) "dict" := ⟨o, ho, hc.1⟩
  unfold Builtin.«len»
  refine wpAny_bind (m := oneArg "len" _) (wpAny_pure ?_)
  refine wpAny_bind (m := callSpecial? (.ref d) (Str.ofString "__len__")) (wpAny_callSpecial?_slot (name := Str.ofString "__len__") hT PySem.F.slot_dict_len
    (call_meetsIn PySem.F.slot_dict_len hT PySem.F.entry_dict_len (PySem.F.args_dict_len_1 _) (meets_len_raw (n := es.size) hd) ⟨⟨o, es, ep, ho, hdat, rfl⟩, ?_⟩))
  show wpAny _ _ _ _ _ { s with toks := s.toks + 1 }
  refine wpAny_bind (wpAny_holding (wpAny_pure ?_))
  refine wpAny_bind (wpAny_letGo ?_)
  show wpAny _ _ (if ((es.size : Nat) : Int) < 0 then _ else _) _ _ _
  rw [if_neg (by omega)]
  show wpAny _ _ (if ((es.size : Nat) : Int) ≥ 2 ^ 63 then _ else _) _ _ _
  rw [if_neg (by omega)]
  exact wpAny_bind (wpAny_mkInt (wpAny_pure ⟨_, rfl, h⟩))
theorem call_len_raw {d : Addr} {o : Obj} {es : Array DictEntry} {ep : Nat} {Q : Value → Shared → Prop} (hd : (d == sysModules) = false) (ho : s.heap.get? d = some o) (hc : o.ExactDict) (hdat : o.data = .dict es ep) (hfit : (es.size : Int) < 2 ^ 63)
    (h : Q (.int es.size (s.toks + 1)) { s with toks := s.toks + 1 + 1 }) : wpAny (model prog w) A (call (.builtin "len") [.ref d]) Q E s :=
  Calls.call_function_entry kind_len plain_len entry_len (args_len1 _) (len_body_raw hd ho hc hdat hfit h)
end
section
variable {X : Cx}
def rIsiM (K : PySem.W.Frag) : List V → Hp → VK → Prop := fun xs H Q => rIsi K xs H Q ∨ ∃ (d : Addr) (ks vs : List V), xs = [.ref d, .ty "dict"] ∧ H d = some (dMx d ks vs) ∧ Q (.bl true) H
theorem call_isiM : CallR X (.builtin "isinstance") (rIsiM X.K) := by
  intro pins s σ H xs us Q I r h
  rcases h with h | ⟨d, ks, vs, rfl, hd, q⟩
  · exact call_isi pins s σ H xs us Q I r h
  · obtain ⟨u1, u2, rfl, r1, r2⟩ := vals2 r
    obtain rfl : u1 = Value.ref d := r1
    obtain rfl : u2 = Value.type "dict" := r2
    obtain ⟨_, _, o, es, ep, ho, hc, _⟩ := mx_of I.hok hd
    exact PySem.W.kia_one PySem.W.kitx_dict I.kIn ⟨o, ho, hc.1⟩ (kit_ty (a := "dict") (b := "dict") (r := true) (by decide +kernel)) (fun z => nomatch z) fun tk => ⟨.bl true, H, I.tok tk, rfl, q⟩
def rLenM : List V → Hp → VK → Prop := fun xs H Q => (∃ a kvs, xs = [V.ref a] ∧ H a = some (.dK kvs) ∧ Q (.int kvs.length) H) ∨ ∃ (d : Addr) (ks vs : List V), xs = [.ref d] ∧ H d = some (dMx d ks vs) ∧ Q (.int ks.length) H
theorem call_lenM : CallR X (.builtin "len") rLenM := by
  intro pins s σ H xs us Q I r h
  rcases h with h | ⟨d, ks, vs, rfl, hd, q⟩
  · exact call_lenD pins s σ H xs us Q I r h
  · obtain ⟨u, rfl, ru⟩ := vals1 r
    obtain rfl : u = Value.ref d := ru
    obtain ⟨hs, hl, o, es, ep, ho, hc, hdt, k1, k2⟩ := mx_of I.hok hd
    have e1 : es.size = ks.length := by
      have := k1.length
      rw [List.length_map] at this
      simpa using this.symm
    have hn := line63
    refine call_len_raw hs ho hc hdt (by omega) ?_
    rw [e1]
    exact ⟨.int ks.length, H, I.kept (t' := s.toks + 1 + 1) fun _ _ z => z, ⟨_, rfl⟩, q⟩
/-- [..], the new one not where modules stand -/
def tLstN (t : TA) : TE := fun σ H Q => t σ H fun xs H1 => xs.length ≤ sizeLine ∧ ∀ a, H1 a = none → a ≠ sysModules → Q (.ref a) (upd H1 a (.lst xs))
theorem sys_fresh {pins : List (Addr × Obj)} {σ : L2.St} {H : Hp} {s : Shared} (I : Inv X pins σ H s) : s.heap.objs.size ≠ sysModules := by
  have := I.big
  intro e
  rw [e] at this
  exact absurd this (by decide)
theorem pe_lstN {es : List Expr} {t : TA} {pos : Pos} (h : PA X es t) : PE X (.List es pos) (tLstN t) := by
  refine ⟨fun pins s σ H Q I hq => ?_⟩
  refine wpAny_List_spliced (thn (h.run pos pins s σ H _ I hq) fun us s1 ⟨xs, H1, I1, r, z, q⟩ => ⟨by rw [← r.length]; exact z, ?_⟩)
  have hf : H1 s1.heap.objs.size = none := I1.hok.fresh (Nat.le_refl _)
  refine ⟨.ref s1.heap.objs.size, upd H1 s1.heap.objs.size (.lst xs), I1.laid (t' := s1.toks) (fun b u e => Heap.get?_push_of_some _ e) (Nat.le_refl _) ?_, rfl, q _ hf (sys_fresh I1)⟩
  exact ⟨z, us, 0, r, Heap.get?_push_size _ rfl⟩
end
/-- flat, or a list or a tuple of such -/
inductive FlV (H : Hp) : V → PyData → Prop
  | flat {v : V} {d : PyData} : Flat v d → FlV H v d
  | lst {a : Addr} {xs : List V} {ds : List PyData} : H a = some (.lst xs) → a ≠ sysModules → Flats xs ds → FlV H (.ref a) (.list ds)
  | tup {a : Addr} {xs : List V} {ds : List PyData} : H a = some (.tup xs) → Flats xs ds → FlV H (.ref a) (.tuple ds)
inductive FlVs (H : Hp) : List V → List PyData → Prop
  | nil : FlVs H [] []
  | cons {v : V} {d : PyData} {vs : List V} {ds : List PyData} : FlV H v d → FlVs H vs ds → FlVs H (v :: vs) (d :: ds)
theorem FlV.keep {H H' : Hp} {v : V} {d : PyData} (h : FlV H v d) (k : ∀ c o, H c = some o → ((∃ xs, o = .lst xs) ∨ ∃ xs, o = .tup xs) → H' c = some o) : FlV H' v d := by
  cases h with
  | flat f => exact .flat f
  | lst e n f => exact .lst (k _ _ e (.inl ⟨_, rfl⟩)) n f
  | tup e f => exact .tup (k _ _ e (.inr ⟨_, rfl⟩)) f
theorem FlVs.keep {H H' : Hp} : ∀ {vs : List V} {ds : List PyData}, FlVs H vs ds → (∀ c o, H c = some o → ((∃ xs, o = .lst xs) ∨ ∃ xs, o = .tup xs) → H' c = some o) → FlVs H' vs ds
  | _, _, .nil, _ => .nil
  | _, _, .cons a b, k => .cons (a.keep k) (b.keep k)
theorem dts_flat {K : PySem.W.Frag} {H : Hp} : ∀ {vs : List V} {ds : List PyData}, Flats vs ds → DtAll K H vs ds
  | _, _, .nil => .nil
  | _, _, .cons f r => by
    refine .cons ?_ (dts_flat r)
    cases f with
    | non => exact .non
    | bl b => exact .bl b
    | int i => exact .int i
    | str x => exact .str x
theorem FlV.dt {K : PySem.W.Frag} {H : Hp} {v : V} {d : PyData} (h : FlV H v d) : Dt K H v d := by
  cases h with
  | flat f =>
    cases f with
    | non => exact .non
    | bl b => exact .bl b
    | int i => exact .int i
    | str x => exact .str x
  | lst e n f => exact .lst (.inl (.inl e)) (dts_flat f)
  | tup e f => exact .tup (.inl (.inl e)) (dts_flat f)
theorem FlV.reads {X : Cx} {pins : List (Addr × Obj)} {σ : L2.St} {H : Hp} {s : Shared} (I : Inv X pins σ H s) {v : V} {d : PyData} {u : Value} (h : FlV H v d) (r : RelV v u) : ∃ as, Reads s.heap u d as ∧ sysModules ∉ as := by
  cases h with
  | flat f => exact ⟨_, f.reads r, by simp⟩
  | @lst a xs ds e n f =>
    obtain rfl : u = Value.ref a := r
    obtain ⟨_, its, k, rv, ho⟩ := (show ObjOk X.prog X.w H s.heap a (.lst xs) from I.hok a _ e)
    exact ⟨_, .list ho rfl rfl (f.reads rv), fun z => n ((List.mem_singleton.mp (by simpa using z)).symm)⟩
  | @tup a xs ds e f =>
    obtain rfl : u = Value.ref a := r
    obtain ⟨_, its, rv, o, h1, h2, k, h3⟩ := (show ObjOk X.prog X.w H s.heap a (.tup xs) from I.hok a _ e)
    exact ⟨_, .tuple h1 h2 h3 (f.reads rv), by simp⟩
theorem FlVs.reads {X : Cx} {pins : List (Addr × Obj)} {σ : L2.St} {H : Hp} {s : Shared} (I : Inv X pins σ H s) : ∀ {vs : List V} {ds : List PyData} {us : List Value}, FlVs H vs ds → Vals vs us → ∃ as, ReadsAll s.heap us ds as ∧ sysModules ∉ as
  | _, _, _, .nil, .nil => ⟨_, .nil, by simp⟩
  | _, _, _, .cons a b, .cons r1 r2 => by
    obtain ⟨as, q1, n1⟩ := a.reads I r1
    obtain ⟨bs, q2, n2⟩ := FlVs.reads I b r2
    exact ⟨_, .cons q1 q2, fun z => (List.mem_append.mp z).elim n1 n2⟩
/-- a dict of any kind: its keys, its values -/
def AnyD (H : Hp) (d : Addr) (ks vs : List V) : Prop := H d = some (dMx d ks vs) ∨ ∃ kvs : List (Key × V), H d = some (.dK kvs) ∧ ks = kvs.map (fun p => kV p.1) ∧ vs = kvs.map (·.2)
theorem AnyD.same {H H' : Hp} {d : Addr} {ks vs : List V} (h : AnyD H d ks vs) (e : ∀ o, H d = some o → H' d = some o) : AnyD H' d ks vs := by
  rcases h with h | ⟨kvs, h, r⟩
  · exact .inl (e _ h)
  · exact .inr ⟨kvs, e _ h, r⟩
section
variable {X : Cx}
theorem any_raw {pins : List (Addr × Obj)} {σ : L2.St} {H : Hp} {s : Shared} (I : Inv X pins σ H s) {d : Addr} {ks vs : List V} (h : AnyD H d ks vs) : MxAt d ks vs s.heap := by
  rcases h with h | ⟨kvs, h, rfl, rfl⟩
  · exact mx_of I.hok h
  · obtain ⟨z, hd, ws, rel, ob, es, ep, ho, hx, hdt, hk, hp, _⟩ := dk_of I.hok h
    obtain ⟨k1, k2⟩ := keys_rel hp rel
    exact ⟨hd, by rw [List.length_map]; exact z, ob, es, ep, ho, hx, hdt, k1, k2⟩
def rReprG (K : PySem.W.Frag) : List V → Hp → VK → Prop := fun xs H Q => rRepr K xs H Q ∨ ∃ (d : Addr) (ks vs : List V) (ps : List (PyData × PyData)), xs = [.ref d] ∧ AnyD H d ks vs ∧ FlVs H ks (ps.map (·.1)) ∧ FlVs H vs (ps.map (·.2)) ∧ (PyData.dict ps).showable = true ∧ (PyData.dict ps).depth ≤ 20 ∧ (PyData.dict ps).shown.length ≤ sizeLine ∧ Q (.str (PyData.dict ps).shown) H
theorem call_reprG {k : Nat} (hr : Room k X.A) (hg : X.A.guards = some []) : CallR X (.builtin "repr") (rReprG X.K) := by
  intro pins s σ H xs us Q I r h
  rcases h with h | ⟨d, ks, vs, ps, rfl, ad, fk, fv, sh, dp, hz, q⟩
  · exact call_repr hr hg pins s σ H xs us Q I r h
  · obtain ⟨u, rfl, ru⟩ := vals1 r
    obtain rfl : u = Value.ref d := ru
    obtain ⟨hs, _, o, es, ep, ho, hc, hdt, k1, k2⟩ := any_raw I ad
    obtain ⟨as, r1, n1⟩ := fk.reads I k1
    obtain ⟨bs, r2, n2⟩ := fv.reads I k2
    have hu := hr.units
    refine repr_of_reads' (.dict ho hc.1 hdt r1 r2) sh (fun _ z => ?_) hg (by omega) (fun _ _ e => e) (fun h' t tk hk => ⟨.str _, H, I.kept hk, ⟨t, rfl⟩, q⟩) hz
    rcases List.mem_append.mp z with z | z
    · rcases List.mem_cons.mp z with z | z
      · rw [← z] at hs
        simp at hs
      · exact n1 z
    · exact n2 z
end
end Rc

namespace Rc
open PySem PySem.Spec PyProof.Rows L2
/-! ### a dict of text keys and one key of another kind behind them: none, True, 5 or ("a",) -/
/-- the key of another kind -/
inductive Fk | non | tru | num | tup (x : Str)
deriving DecidableEq
def fkIs : Fk → Value → Bool
  | .non, .none => true
  | .tru, .bool true => true
  | .num, .int i _ => i == 5
  | _, _ => false
def Fk.hash (P : Program) (w : World) : Fk → Int
  | .non => 0xFCA86420
  | .tru => 1
  | .num => hashInt 5
  | .tup x => (tupleKind (mixKind P w)).hash [Sum.inr x]
section
variable {prog : Program} {w : World} {A : Around} {E : Value → Shared → Prop} {s : Shared}
theorem hash_true {Q : Int → Shared → Prop} (h : Q 1 { s with toks := s.toks + 1 }) : wpAny (model prog w) A (pyHash (.bool true)) Q E s := by
  have tT : s.TypeIs (.bool true) "bool" := rfl
  unfold pyHash
  unfold pyHashByItsType
  have hv : [Value.bool true].any Value.onHeap = false := rfl
  refine wpAny_bind ?_
  rw [cRoomFor, if_neg (by rw [hv]; exact Bool.false_ne_true)]; refine wpAny_pure ?_
  refine wpAny_bind (wpAny_specialOf tT PySem.F.slot_bool_hash.lookup ?_)
  show wpAny _ _ (if (some (Value.builtin "int.__hash__") == some Value.none) = true then _ else _) Q E s
  rw [if_neg (by rw [beq_builtin_none]; exact Bool.false_ne_true)]
  refine wpAny_bind (wpAny_specialOf tT PySem.F.slot_bool_hash.lookup ?_)
  show wpAny _ _ (callSpecialIfBoundUnlessNone? (.bool true) "__hash__" _ >>= _) Q E s
  refine wpAny_bind (wpAny_callSpecialIfBoundUnlessNone?_slot tT PySem.F.slot_bool_hash
    (wpAny_call_entry PySem.F.slot_bool_hash tT PySem.F.entry_int_hash
      (show wpAny _ _ (do ret (← mkInt (rawHash 1))) _ _ s from wpAny_ret_mkInt ?_) (PySem.F.args_int_hash_1 _)))
  show wpAny _ _ (if (decide (-(2 : Int) ^ 63 ≤ rawHash 1) && decide (rawHash 1 < 2 ^ 63)) = true then _ else _) Q E _
  rw [show rawHash 1 = 1 by decide +kernel]
  rw [if_pos (by decide)]
  exact wpAny_pure h
/-- the keys with the same hash: just the one at j is like it -/
theorem find_gen {d : Addr} {o : Obj} {es : Array DictEntry} {ep : Nat} {hk : Int} {u : Value} {jo : Option Nat} {Q : Option Nat → Shared → Prop} (hu : (∃ x t, u = .str x t) ∨ (∃ a, u = .ref a) ∨ u = .none ∨ u = .bool true ∨ ∃ i t, u = .int i t) (ho : s.heap.get? d = some o) (hd : o.data = .dict es ep)
    (nx : ∀ x t, u = .str x t → (es.all fun e => isExactStrKey e.key) = false)
    (hj : ∀ j, jo = some j → ∃ e, es[j]? = some e ∧ e.hash = hk)
    (eqs : ∀ i e, es[i]? = some e → e.hash = hk → ∀ (E' : Value → Shared → Prop) (Q' : Bool → Shared → Prop), Q' (decide (jo = some i)) s → wpAny (model prog w) A (eqBool e.key u) Q' E' s)
    (qu : ∀ (E' : Value → Shared → Prop) (Q' : Bool → Shared → Prop), Q' true s → wpAny (model prog w) A (eqIsQuiet 8 u) Q' E' s)
    (qs : ∀ e ∈ es, ∀ (E' : Value → Shared → Prop) (Q' : Bool → Shared → Prop), Q' true s → wpAny (model prog w) A (eqIsQuiet 8 e.key) Q' E' s)
    (nc : ∀ a, u = .ref a → ∀ e ∈ es, e.key = .ref a → e.hash = hk)
    (h : Q jo s) : wpAny (model prog w) A (dictFind d u hk) Q E s := by
  generalize hpl : placesWithHash es.size (fun i => es[i]?.map (·.hash)) hk = places
  have hmem : ∀ i ∈ places, ∃ e, es[i]? = some e ∧ e.hash = hk := fun i hi => by
    rw [← hpl] at hi
    unfold placesWithHash at hi
    obtain ⟨_, h2⟩ := List.mem_filter.mp hi
    replace h2 : (es[i]?.map (·.hash) == some hk) = true := h2
    cases he : es[i]? with
    | none => rw [he] at h2; simp at h2
    | some e => rw [he] at h2; exact ⟨e, rfl, by simpa using h2⟩
  have hnd : places.Nodup := by
    rw [← hpl]
    unfold placesWithHash
    exact List.Pairwise.filter _ List.nodup_range
  have hin : ∀ j, jo = some j → j ∈ places := fun j ej => by
    obtain ⟨e, he, hh⟩ := hj j ej
    rw [← hpl]
    unfold placesWithHash
    refine List.mem_filter.mpr ⟨List.mem_range.mpr (Array.getElem?_eq_some_iff.mp he).1, ?_⟩
    show (es[j]?.map (·.hash) == some hk) = true
    rw [he, Option.map_some, hh]
    simp
  have plain : wpAny (model prog w) A (dictWalkPlain d u hk es places) Q E s := by
    unfold dictWalkPlain
    refine wpAny_bind ?_
    refine wpAny_forIn_list _ (fun rest b s' => s' = s ∧ b = (none, ()) ∧ (∀ i ∈ rest, i ∈ places) ∧ ∀ j, jo = some j → j ∈ rest) _ ?_ ?_ _ _ ⟨rfl, rfl, fun _ h => h, hin⟩
    · rintro x rest b s' ⟨rfl, rfl, hp, hjr⟩
      obtain ⟨e, he, hh⟩ := hmem x (hp x List.mem_cons_self)
      simp only [he]
      rw [if_pos (by rw [hh]; simp)]
      refine wpAny_bind (wpAny_dictEpoch ho hd (wpAny_bind (eqs x e he hh _ _ (wpAny_bind (wpAny_dictEpoch ho hd ?_)))))
      show wpAny _ _ (if (ep != ep) = true then _ else _) _ E _
      rw [if_neg (by simp)]
      by_cases c : jo = some x
      · rw [decide_eq_true c]
        rw [c] at h
        exact wpAny_bind (wpAny_rule (wpAny_pure (wpAny_pure h)))
      · rw [decide_eq_false c]
        exact wpAny_bind (wpAny_rule (wpAny_pure ⟨rfl, rfl, fun i hi => hp i (List.mem_cons_of_mem _ hi), fun j ej => (List.mem_cons.mp (hjr j ej)).resolve_left fun e' => c (e' ▸ ej)⟩))
    · rintro b s' ⟨rfl, rfl, _, hjr⟩
      cases jo with
      | none => exact wpAny_pure h
      | some j => exact absurd (hjr j rfl) (by simp)
  have tells0 : ∀ (E' : Value → Shared → Prop) (Q' : Bool → Shared → Prop), Q' false s → wpAny (model prog w) A (tableMayTell u (places.filterMap fun i => es[i]?.map (·.key))) Q' E' s := fun E' Q' q => by
    unfold tableMayTell
    split
    · exact wpAny_pure q
    · refine wpAny_bind (qu _ _ ?_)
      simp only [Bool.not_true, Bool.false_eq_true, if_false]
      refine wpAny_bind ?_
      refine wpAny_forIn_list _ (fun rest r s' => s' = s ∧ r = (none, ()) ∧ ∀ v ∈ rest, ∃ e ∈ es, e.key = v) _ ?_ ?_ _ _ ⟨rfl, rfl, fun v hv => ?_⟩
      · rintro x rest r s' ⟨rfl, rfl, hr⟩
        obtain ⟨e, he, rfl⟩ := hr x List.mem_cons_self
        refine wpAny_bind (qs e he _ _ ?_)
        simp only [Bool.not_true, Bool.false_eq_true, if_false]
        exact wpAny_pure ⟨rfl, rfl, fun v hv => hr v (List.mem_cons_of_mem _ hv)⟩
      · rintro r s' ⟨rfl, rfl, _⟩
        exact wpAny_pure q
      · obtain ⟨i, _, hi⟩ := List.mem_filterMap.mp hv
        obtain ⟨e, he, ek⟩ := Option.map_eq_some_iff.mp hi
        exact ⟨e, Array.mem_of_getElem? he, ek⟩
  have nany : ∀ a, u = .ref a → ¬ (es.any fun e => e.key == u && e.hash != hk) = true := by
    intro a ea
    rw [← Array.any_toList, List.any_eq_true]
    rintro ⟨e, hin', hc⟩
    rw [Bool.and_eq_true] at hc
    have e1 : e.key = u := by simpa using hc.1
    have e2 := nc a ea e (Array.mem_toList_iff.mp hin') (e1.trans ea)
    have := hc.2
    rw [e2] at this
    simp at this
  have nstr : ∀ x t, u = .str x t → ¬ (es.all fun e => isExactStrKey e.key) = true := fun x t ex => by rw [nx x t ex]; exact Bool.false_ne_true
  unfold dictFind
  try with_reducible refine wpAny_holding ?_
  refine wpAny_bind (wpAny_dictEntries ho hd ?_)
  rcases hu with ⟨x, t, rfl⟩ | ⟨a, rfl⟩ | rfl | rfl | ⟨n, t, rfl⟩
  · dsimp only
    rw [if_neg (nstr x t rfl), hpl]
    by_cases call : ((Value.str x t :: places.filterMap fun i => es[i]?.map (·.key)).all carriedByValue) = true
    · rw [if_pos call]
      exact plain
    · rw [if_neg call]
      by_cases hone : ((places.filterMap fun i => es[i]?.map (·.key)) == [Value.str x t]) = true <;>
      (first | rw [if_pos hone] | rw [if_neg hone]) <;> (first | refine wpAny_bind (wpAny_pure ?_) | refine wpAny_bind (tells0 _ _ ?_)) <;> (
        rw [if_neg (by simp)]
        refine wpAny_bind ?_
        refine wpAny_forIn_list _ (fun rest b s' => s' = s ∧ b.1 = none ∧ (∀ i ∈ rest, i ∈ places) ∧ rest.Nodup ∧ ((b.2 = none ∧ ∀ j, jo = some j → j ∈ rest) ∨ (b.2 = jo ∧ ∀ j, jo = some j → j ∉ rest))) _ ?_ ?_ _ _ ⟨rfl, rfl, fun _ h => h, hnd, .inl ⟨rfl, hin⟩⟩
        · rintro i rest ⟨b1, b2⟩ s' ⟨rfl, hb1, hp, nd, hb⟩
          obtain rfl : b1 = none := hb1
          obtain ⟨e, he, hh⟩ := hmem i (hp i List.mem_cons_self)
          have nd' := List.nodup_cons.mp nd
          simp only [he]
          rw [if_pos (by rw [hh]; simp)]
          refine wpAny_bind (wpAny_dictEpoch ho hd (wpAny_bind (eqs i e he hh _ _ (wpAny_bind (wpAny_dictEpoch ho hd ?_)))))
          show wpAny _ _ (if (ep != ep) = true then _ else _) _ E _
          rw [if_neg (by simp)]
          by_cases c : jo = some i
          · rw [decide_eq_true c]
            have e2 : b2 = none := hb.elim (fun h => h.1) fun h => absurd List.mem_cons_self (h.2 i c)
            subst e2
            rw [c] at h
            simp only [if_true, Option.isSome_none, Bool.false_eq_true, if_false]
            refine wpAny_bind (wpAny_rule ?_)
            split
            · exact wpAny_pure (wpAny_pure h)
            · exact wpAny_pure ⟨rfl, rfl, fun i hi => hp i (List.mem_cons_of_mem _ hi), nd'.2, .inr ⟨c.symm, fun j ej => by rw [c] at ej; cases ej; exact nd'.1⟩⟩
          · rw [decide_eq_false c]
            simp only [Bool.false_eq_true, if_false]
            refine wpAny_bind (wpAny_rule ?_)
            simp only [Bool.false_and, Bool.false_eq_true, if_false]
            refine wpAny_pure ⟨rfl, rfl, fun i hi => hp i (List.mem_cons_of_mem _ hi), nd'.2, ?_⟩
            rcases hb with ⟨h1, h2⟩ | ⟨h1, h2⟩
            · exact .inl ⟨h1, fun j ej => (List.mem_cons.mp (h2 j ej)).resolve_left fun e' => c (e' ▸ ej)⟩
            · exact .inr ⟨h1, fun j ej hr => h2 j ej (List.mem_cons_of_mem _ hr)⟩
        · rintro ⟨b1, b2⟩ s' ⟨rfl, hb1, hp, nd, hb⟩
          obtain rfl : b1 = none := hb1
          have e2 : b2 = jo := hb.elim (fun h => by
            cases jo with
            | none => exact h.1
            | some j => exact absurd (h.2 j rfl) (by simp)) fun h => h.1
          subst e2
          exact wpAny_pure h)
  · dsimp only
    rw [hpl]
    rw [if_neg (show ¬ ((Value.ref a :: places.filterMap fun i => es[i]?.map (·.key)).all carriedByValue) = true by simp [carriedByValue])]
    rw [if_neg (nany a rfl)]
    by_cases hone : ((places.filterMap fun i => es[i]?.map (·.key)) == [Value.ref a]) = true <;>
    (first | rw [if_pos hone] | rw [if_neg hone]) <;> (first | refine wpAny_bind (wpAny_pure ?_) | refine wpAny_bind (tells0 _ _ ?_)) <;> (
      rw [if_neg (by simp)]
      refine wpAny_bind ?_
      refine wpAny_forIn_list _ (fun rest b s' => s' = s ∧ b.1 = none ∧ (∀ i ∈ rest, i ∈ places) ∧ rest.Nodup ∧ ((b.2 = none ∧ ∀ j, jo = some j → j ∈ rest) ∨ (b.2 = jo ∧ ∀ j, jo = some j → j ∉ rest))) _ ?_ ?_ _ _ ⟨rfl, rfl, fun _ h => h, hnd, .inl ⟨rfl, hin⟩⟩
      · rintro i rest ⟨b1, b2⟩ s' ⟨rfl, hb1, hp, nd, hb⟩
        obtain rfl : b1 = none := hb1
        obtain ⟨e, he, hh⟩ := hmem i (hp i List.mem_cons_self)
        have nd' := List.nodup_cons.mp nd
        simp only [he]
        rw [if_pos (by rw [hh]; simp)]
        refine wpAny_bind (wpAny_dictEpoch ho hd (wpAny_bind (eqs i e he hh _ _ (wpAny_bind (wpAny_dictEpoch ho hd ?_)))))
        show wpAny _ _ (if (ep != ep) = true then _ else _) _ E _
        rw [if_neg (by simp)]
        by_cases c : jo = some i
        · rw [decide_eq_true c]
          have e2 : b2 = none := hb.elim (fun h => h.1) fun h => absurd List.mem_cons_self (h.2 i c)
          subst e2
          rw [c] at h
          simp only [if_true, Option.isSome_none, Bool.false_eq_true, if_false]
          refine wpAny_bind (wpAny_rule ?_)
          split
          · exact wpAny_pure (wpAny_pure h)
          · exact wpAny_pure ⟨rfl, rfl, fun i hi => hp i (List.mem_cons_of_mem _ hi), nd'.2, .inr ⟨c.symm, fun j ej => by rw [c] at ej; cases ej; exact nd'.1⟩⟩
        · rw [decide_eq_false c]
          simp only [Bool.false_eq_true, if_false]
          refine wpAny_bind (wpAny_rule ?_)
          simp only [Bool.false_and, Bool.false_eq_true, if_false]
          refine wpAny_pure ⟨rfl, rfl, fun i hi => hp i (List.mem_cons_of_mem _ hi), nd'.2, ?_⟩
          rcases hb with ⟨h1, h2⟩ | ⟨h1, h2⟩
          · exact .inl ⟨h1, fun j ej => (List.mem_cons.mp (h2 j ej)).resolve_left fun e' => c (e' ▸ ej)⟩
          · exact .inr ⟨h1, fun j ej hr => h2 j ej (List.mem_cons_of_mem _ hr)⟩
      · rintro ⟨b1, b2⟩ s' ⟨rfl, hb1, hp, nd, hb⟩
        obtain rfl : b1 = none := hb1
        have e2 : b2 = jo := hb.elim (fun h => by
          cases jo with
          | none => exact h.1
          | some j => exact absurd (h.2 j rfl) (by simp)) fun h => h.1
        subst e2
        exact wpAny_pure h)
  · dsimp only
    rw [hpl]
    by_cases call : ((Value.none :: places.filterMap fun i => es[i]?.map (·.key)).all carriedByValue) = true
    · rw [if_pos call]
      exact plain
    · rw [if_neg call]
      by_cases hone : ((places.filterMap fun i => es[i]?.map (·.key)) == [Value.none]) = true <;>
      (first | rw [if_pos hone] | rw [if_neg hone]) <;> (first | refine wpAny_bind (wpAny_pure ?_) | refine wpAny_bind (tells0 _ _ ?_)) <;> (
        rw [if_neg (by simp)]
        refine wpAny_bind ?_
        refine wpAny_forIn_list _ (fun rest b s' => s' = s ∧ b.1 = none ∧ (∀ i ∈ rest, i ∈ places) ∧ rest.Nodup ∧ ((b.2 = none ∧ ∀ j, jo = some j → j ∈ rest) ∨ (b.2 = jo ∧ ∀ j, jo = some j → j ∉ rest))) _ ?_ ?_ _ _ ⟨rfl, rfl, fun _ h => h, hnd, .inl ⟨rfl, hin⟩⟩
        · rintro i rest ⟨b1, b2⟩ s' ⟨rfl, hb1, hp, nd, hb⟩
          obtain rfl : b1 = none := hb1
          obtain ⟨e, he, hh⟩ := hmem i (hp i List.mem_cons_self)
          have nd' := List.nodup_cons.mp nd
          simp only [he]
          rw [if_pos (by rw [hh]; simp)]
          refine wpAny_bind (wpAny_dictEpoch ho hd (wpAny_bind (eqs i e he hh _ _ (wpAny_bind (wpAny_dictEpoch ho hd ?_)))))
          show wpAny _ _ (if (ep != ep) = true then _ else _) _ E _
          rw [if_neg (by simp)]
          by_cases c : jo = some i
          · rw [decide_eq_true c]
            have e2 : b2 = none := hb.elim (fun h => h.1) fun h => absurd List.mem_cons_self (h.2 i c)
            subst e2
            rw [c] at h
            simp only [if_true, Option.isSome_none, Bool.false_eq_true, if_false]
            refine wpAny_bind (wpAny_rule ?_)
            split
            · exact wpAny_pure (wpAny_pure h)
            · exact wpAny_pure ⟨rfl, rfl, fun i hi => hp i (List.mem_cons_of_mem _ hi), nd'.2, .inr ⟨c.symm, fun j ej => by rw [c] at ej; cases ej; exact nd'.1⟩⟩
          · rw [decide_eq_false c]
            simp only [Bool.false_eq_true, if_false]
            refine wpAny_bind (wpAny_rule ?_)
            simp only [Bool.false_and, Bool.false_eq_true, if_false]
            refine wpAny_pure ⟨rfl, rfl, fun i hi => hp i (List.mem_cons_of_mem _ hi), nd'.2, ?_⟩
            rcases hb with ⟨h1, h2⟩ | ⟨h1, h2⟩
            · exact .inl ⟨h1, fun j ej => (List.mem_cons.mp (h2 j ej)).resolve_left fun e' => c (e' ▸ ej)⟩
            · exact .inr ⟨h1, fun j ej hr => h2 j ej (List.mem_cons_of_mem _ hr)⟩
        · rintro ⟨b1, b2⟩ s' ⟨rfl, hb1, hp, nd, hb⟩
          obtain rfl : b1 = none := hb1
          have e2 : b2 = jo := hb.elim (fun h => by
            cases jo with
            | none => exact h.1
            | some j => exact absurd (h.2 j rfl) (by simp)) fun h => h.1
          subst e2
          exact wpAny_pure h)
  · dsimp only
    rw [hpl]
    by_cases call : (((Value.bool true) :: places.filterMap fun i => es[i]?.map (·.key)).all carriedByValue) = true
    · rw [if_pos call]
      exact plain
    · rw [if_neg call]
      by_cases hone : ((places.filterMap fun i => es[i]?.map (·.key)) == [Value.bool true]) = true <;>
      (first | rw [if_pos hone] | rw [if_neg hone]) <;> (first | refine wpAny_bind (wpAny_pure ?_) | refine wpAny_bind (tells0 _ _ ?_)) <;> (
        rw [if_neg (by simp)]
        refine wpAny_bind ?_
        refine wpAny_forIn_list _ (fun rest b s' => s' = s ∧ b.1 = none ∧ (∀ i ∈ rest, i ∈ places) ∧ rest.Nodup ∧ ((b.2 = none ∧ ∀ j, jo = some j → j ∈ rest) ∨ (b.2 = jo ∧ ∀ j, jo = some j → j ∉ rest))) _ ?_ ?_ _ _ ⟨rfl, rfl, fun _ h => h, hnd, .inl ⟨rfl, hin⟩⟩
        · rintro i rest ⟨b1, b2⟩ s' ⟨rfl, hb1, hp, nd, hb⟩
          obtain rfl : b1 = none := hb1
          obtain ⟨e, he, hh⟩ := hmem i (hp i List.mem_cons_self)
          have nd' := List.nodup_cons.mp nd
          simp only [he]
          rw [if_pos (by rw [hh]; simp)]
          refine wpAny_bind (wpAny_dictEpoch ho hd (wpAny_bind (eqs i e he hh _ _ (wpAny_bind (wpAny_dictEpoch ho hd ?_)))))
          show wpAny _ _ (if (ep != ep) = true then _ else _) _ E _
          rw [if_neg (by simp)]
          by_cases c : jo = some i
          · rw [decide_eq_true c]
            have e2 : b2 = none := hb.elim (fun h => h.1) fun h => absurd List.mem_cons_self (h.2 i c)
            subst e2
            rw [c] at h
            simp only [if_true, Option.isSome_none, Bool.false_eq_true, if_false]
            refine wpAny_bind (wpAny_rule ?_)
            split
            · exact wpAny_pure (wpAny_pure h)
            · exact wpAny_pure ⟨rfl, rfl, fun i hi => hp i (List.mem_cons_of_mem _ hi), nd'.2, .inr ⟨c.symm, fun j ej => by rw [c] at ej; cases ej; exact nd'.1⟩⟩
          · rw [decide_eq_false c]
            simp only [Bool.false_eq_true, if_false]
            refine wpAny_bind (wpAny_rule ?_)
            simp only [Bool.false_and, Bool.false_eq_true, if_false]
            refine wpAny_pure ⟨rfl, rfl, fun i hi => hp i (List.mem_cons_of_mem _ hi), nd'.2, ?_⟩
            rcases hb with ⟨h1, h2⟩ | ⟨h1, h2⟩
            · exact .inl ⟨h1, fun j ej => (List.mem_cons.mp (h2 j ej)).resolve_left fun e' => c (e' ▸ ej)⟩
            · exact .inr ⟨h1, fun j ej hr => h2 j ej (List.mem_cons_of_mem _ hr)⟩
        · rintro ⟨b1, b2⟩ s' ⟨rfl, hb1, hp, nd, hb⟩
          obtain rfl : b1 = none := hb1
          have e2 : b2 = jo := hb.elim (fun h => by
            cases jo with
            | none => exact h.1
            | some j => exact absurd (h.2 j rfl) (by simp)) fun h => h.1
          subst e2
          exact wpAny_pure h)
  · dsimp only
    rw [hpl]
    by_cases call : ((Value.int n t :: places.filterMap fun i => es[i]?.map (·.key)).all carriedByValue) = true
    · rw [if_pos call]
      exact plain
    · rw [if_neg call]
      by_cases hone : ((places.filterMap fun i => es[i]?.map (·.key)) == [Value.int n t]) = true <;>
      (first | rw [if_pos hone] | rw [if_neg hone]) <;> (first | refine wpAny_bind (wpAny_pure ?_) | refine wpAny_bind (tells0 _ _ ?_)) <;> (
        rw [if_neg (by simp)]
        refine wpAny_bind ?_
        refine wpAny_forIn_list _ (fun rest b s' => s' = s ∧ b.1 = none ∧ (∀ i ∈ rest, i ∈ places) ∧ rest.Nodup ∧ ((b.2 = none ∧ ∀ j, jo = some j → j ∈ rest) ∨ (b.2 = jo ∧ ∀ j, jo = some j → j ∉ rest))) _ ?_ ?_ _ _ ⟨rfl, rfl, fun _ h => h, hnd, .inl ⟨rfl, hin⟩⟩
        · rintro i rest ⟨b1, b2⟩ s' ⟨rfl, hb1, hp, nd, hb⟩
          obtain rfl : b1 = none := hb1
          obtain ⟨e, he, hh⟩ := hmem i (hp i List.mem_cons_self)
          have nd' := List.nodup_cons.mp nd
          simp only [he]
          rw [if_pos (by rw [hh]; simp)]
          refine wpAny_bind (wpAny_dictEpoch ho hd (wpAny_bind (eqs i e he hh _ _ (wpAny_bind (wpAny_dictEpoch ho hd ?_)))))
          show wpAny _ _ (if (ep != ep) = true then _ else _) _ E _
          rw [if_neg (by simp)]
          by_cases c : jo = some i
          · rw [decide_eq_true c]
            have e2 : b2 = none := hb.elim (fun h => h.1) fun h => absurd List.mem_cons_self (h.2 i c)
            subst e2
            rw [c] at h
            simp only [if_true, Option.isSome_none, Bool.false_eq_true, if_false]
            refine wpAny_bind (wpAny_rule ?_)
            split
            · exact wpAny_pure (wpAny_pure h)
            · exact wpAny_pure ⟨rfl, rfl, fun i hi => hp i (List.mem_cons_of_mem _ hi), nd'.2, .inr ⟨c.symm, fun j ej => by rw [c] at ej; cases ej; exact nd'.1⟩⟩
          · rw [decide_eq_false c]
            simp only [Bool.false_eq_true, if_false]
            refine wpAny_bind (wpAny_rule ?_)
            simp only [Bool.false_and, Bool.false_eq_true, if_false]
            refine wpAny_pure ⟨rfl, rfl, fun i hi => hp i (List.mem_cons_of_mem _ hi), nd'.2, ?_⟩
            rcases hb with ⟨h1, h2⟩ | ⟨h1, h2⟩
            · exact .inl ⟨h1, fun j ej => (List.mem_cons.mp (h2 j ej)).resolve_left fun e' => c (e' ▸ ej)⟩
            · exact .inr ⟨h1, fun j ej hr => h2 j ej (List.mem_cons_of_mem _ hr)⟩
        · rintro ⟨b1, b2⟩ s' ⟨rfl, hb1, hp, nd, hb⟩
          obtain rfl : b1 = none := hb1
          have e2 : b2 = jo := hb.elim (fun h => by
            cases jo with
            | none => exact h.1
            | some j => exact absurd (h.2 j rfl) (by simp)) fun h => h.1
          subst e2
          exact wpAny_pure h)
end
section
variable {prog : Program} {w : World} {A : Around} {E : Value → Shared → Prop} {s : Shared}
theorem get_raw {d : Addr} {o : Obj} {es : Array DictEntry} {ep n j : Nat} {u : Value} {e : DictEntry} {hk : Int} {Q : Value → Shared → Prop} (hu : A.units + 1 < cLine) (ho : s.heap.get? d = some o) (hc : o.ExactDict) (hd : o.data = .dict es ep) (he : es[j]? = some e)
    (hash : ∀ (A' : Around) (E' : Value → Shared → Prop) (Q' : Int → Shared → Prop), A'.units < cLine → Q' hk { s with toks := s.toks + n } → wpAny (model prog w) A' (pyHash u) Q' E' s)
    (find : ∀ (A' : Around) (E' : Value → Shared → Prop) (Q' : Option Nat → Shared → Prop), A'.units < cLine → Q' (some j) { s with toks := s.toks + n } → wpAny (model prog w) A' (dictFind d u hk) Q' E' { s with toks := s.toks + n })
    (hQ : Q e.val { s with toks := s.toks + n }) :
    wpAny (model prog w) A (getItem (.ref d) u) Q E s := by
  have hT : s.TypeIs (.ref d) "dict" := ⟨o, ho, hc.1⟩
  have hr : A.in1.units < cLine := tupleKind_room_in1 (knd := mixKind prog w) hu
  unfold getItem
  try with_reducible refine wpAny_holding ?_
  refine wpAny_bind (wpAny_sequenceKey hT (by decide) ?_)
  refine wpAny_bind (wpAny_callSpecial?_slot (name := Str.ofString "__getitem__") hT slot_dict_getitem
    (wpAny_call_entry slot_dict_getitem hT entry_dict_getitem ?_ (args_dict_getitem _ _)))
  show wpAny _ _ (dictGet d u >>= _) _ _ s
  refine wpAny_bind ?_
  unfold dictGet
  try with_reducible refine wpAny_holding ?_
  refine wpAny_bind (hash _ _ _ hr (wpAny_bind (find _ _ _ hr ?_)))
  refine wpAny_bind (wpAny_dictEntries (s := { s with toks := s.toks + n }) ho hd (wpAny_pure ?_))
  rw [he]
  exact wpAny_pure ⟨_, rfl, wpAny_pure hQ⟩
end
/-! as a thing of the heap -/
def TxtE (w : World) (es : Array DictEntry) (zs : List Str) : Prop := es.size = zs.length ∧ ∀ (i : Nat) (z : Str), zs[i]? = some z → ∃ e t, es[i]? = some e ∧ e.key = .str z t ∧ e.hash = hashStr w z
def MyAt (P : Program) (w : World) (d : Addr) (zs : List Str) (ws : List V) (f : Fk) (v r : V) (h : Heap) : Prop :=
  (d == sysModules) = false ∧ zs.length < 1000 ∧ zs.Nodup ∧ ∃ (o : Obj) (es : Array DictEntry) (ep : Nat) (fv rv : Value), h.get? d = some o ∧ o.ExactDict ∧ o.data = .dict (es.push ⟨f.hash P w, fv, rv⟩) ep ∧ TxtE w es zs ∧ RelV v fv ∧ RelV r rv ∧ Vals ws (es.toList.map (·.val))
def dMy (P : Program) (w : World) (d : Addr) (zs : List Str) (ws : List V) (f : Fk) (v r : V) : HO := .ext (MyAt P w d zs ws f v r)
theorem my_ok {P : Program} {w : World} {H : Hp} {h : Heap} {d : Addr} {zs : List Str} {ws : List V} {f : Fk} {v r : V} (e : MyAt P w d zs ws f v r h) : ObjOk P w H h d (dMy P w d zs ws f v r) := by
  refine ⟨e, ?_, fun h1 h2 x k => ?_⟩
  · obtain ⟨_, _, _, o, _, _, _, _, e, _⟩ := e
    exact ⟨o, e⟩
  · obtain ⟨a, b, c, o, es, ep, fv, rv, ho, q⟩ := x
    exact ⟨a, b, c, o, es, ep, fv, rv, k o ho, q⟩
theorem my_of {P : Program} {w : World} {H : Hp} {h : Heap} {d : Addr} {zs : List Str} {ws : List V} {f : Fk} {v r : V} (ok : HOk P w H h) (e : Rd H d (dMy P w d zs ws f v r)) : MyAt P w d zs ws f v r h :=
  (show ObjOk P w H h d (dMy P w d zs ws f v r) from e.ok ok).1
/-- what stands for the key of another kind -/
inductive FkV (H : Hp) : Fk → V → Prop
  | non : FkV H .non .non
  | tru : FkV H .tru (.bl true)
  | num : FkV H .num (.int 5)
  | tup {t : Addr} {x : Str} : H t = some (.tup [.str x]) → FkV H (.tup x) (.ref t)
theorem FkV.keep {H H' : Hp} {f : Fk} {v : V} (h : FkV H f v) (k : ∀ c xs, H c = some (.tup xs) → H' c = some (.tup xs)) : FkV H' f v := by
  cases h with
  | non => exact .non
  | tru => exact .tru
  | num => exact .num
  | tup e => exact .tup (k _ _ e)
/-- its value, its hash, how it compares with a text and with itself -/
structure FkR (P : Program) (w : World) (s : Shared) (f : Fk) (u : Value) (n : Nat) : Prop where
  hash : ∀ (A' : Around) (E' : Value → Shared → Prop) (Q' : Int → Shared → Prop), A'.units < cLine → Q' (f.hash P w) { s with toks := s.toks + n } → wpAny (model P w) A' (pyHash u) Q' E' s
  ft : ∀ (tk : Nat) (A' : Around) (E' : Value → Shared → Prop) (Q' : Bool → Shared → Prop) (x : Str) (t : Tok), A'.units < cLine → Q' false { s with toks := tk } → wpAny (model P w) A' (eqBool u (.str x t)) Q' E' { s with toks := tk }
  tf : ∀ (tk : Nat) (A' : Around) (E' : Value → Shared → Prop) (Q' : Bool → Shared → Prop) (x : Str) (t : Tok), A'.units < cLine → Q' false { s with toks := tk } → wpAny (model P w) A' (eqBool (.str x t) u) Q' E' { s with toks := tk }
  ff : ∀ (tk : Nat) (A' : Around) (E' : Value → Shared → Prop) (Q' : Bool → Shared → Prop), A'.units < cLine → Q' true { s with toks := tk } → wpAny (model P w) A' (eqBool u u) Q' E' { s with toks := tk }
  qu : ∀ (tk : Nat) (A' : Around) (E' : Value → Shared → Prop) (Q' : Bool → Shared → Prop), Q' true { s with toks := tk } → wpAny (model P w) A' (eqIsQuiet 8 u) Q' E' { s with toks := tk }
  ns : isExactStrKey u = false
  nk : (∃ x t, u = .str x t) ∨ (∃ a, u = .ref a) ∨ u = .none ∨ u = .bool true ∨ ∃ i t, u = .int i t
theorem fkr {P : Program} {w : World} {H : Hp} {s : Shared} (ok : HOk P w H s.heap) {f : Fk} {v : V} {u : Value} (h : FkV H f v) (r : RelV v u) : ∃ n, FkR P w s f u n := by
  cases h with
  | non =>
    obtain rfl : u = Value.none := r
    refine ⟨1, fun A' E' Q' _ q => hash_none q, fun tk A' E' Q' x t _ q => SeqAt.EqAt.none_str x t _ _ _ _ q, fun tk A' E' Q' x t _ q => SeqAt.EqAt.str_none x t _ _ _ _ q, fun tk A' E' Q' _ q => ?_, fun tk A' E' Q' q => ?_, rfl, .inr (.inr (.inl rfl))⟩
    · unfold eqBool
      rw [if_pos (show (Value.none == Value.none) = true by simp)]
      exact wpAny_bind (wpAny_rule (wpAny_pure q))
    · rw [eqIsQuiet_byValue 8 (show carriedByValue Value.none = true from rfl)]
      exact wpAny_pure q
  | tru =>
    obtain rfl : u = Value.bool true := r
    refine ⟨1, fun A' E' Q' _ q => hash_true q, fun tk A' E' Q' x t _ q => SeqAt.EqAt.bool_str true x t _ _ _ _ q, fun tk A' E' Q' x t _ q => SeqAt.EqAt.str_bool x t true _ _ _ _ q, fun tk A' E' Q' _ q => SeqAt.EqAt.bool_bool true true _ _ _ _ q, fun tk A' E' Q' q => ?_, rfl, .inr (.inr (.inr (.inl rfl)))⟩
    rw [eqIsQuiet_byValue 8 (show carriedByValue (Value.bool true) = true from rfl)]
    exact wpAny_pure q
  | num =>
    obtain ⟨t, rfl⟩ := r
    refine ⟨1, fun A' E' Q' _ q => wpAny_pyHash_int q, fun tk A' E' Q' x t' _ q => SeqAt.EqAt.int_str 5 t x t' _ _ _ _ q, fun tk A' E' Q' x t' _ q => SeqAt.EqAt.str_int x t' 5 t _ _ _ _ q, fun tk A' E' Q' _ q => wpAny_eqBool_int q, fun tk A' E' Q' q => ?_, rfl, .inr (.inr (.inr (.inr ⟨_, _, rfl⟩)))⟩
    rw [eqIsQuiet_byValue 8 (show carriedByValue (Value.int 5 t) = true from rfl)]
    exact wpAny_pure q
  | @tup t x hT =>
    obtain rfl : u = Value.ref t := r
    have hkey : (tupleKind (mixKind P w)).is s.heap [Sum.inr x] t := key_of (ks := [Sum.inr x]) ok hT
    obtain ⟨_, its, _, hI⟩ := (show ObjOk P w H s.heap t (.tup [.str x]) from ok t _ hT)
    refine ⟨_, fun A' E' Q' hu q => (tupleKind (mixKind P w)).pyHash hu hkey q, fun tk A' E' Q' y t' hu q => SeqAt.EqAt.tuple_str (s := { s with toks := tk }) y t' hI hu _ _ _ _ q, fun tk A' E' Q' y t' hu q => SeqAt.EqAt.str_tuple (s := { s with toks := tk }) y t' hI hu _ _ _ _ q, fun tk A' E' Q' hu q => ?_, fun tk A' E' Q' q => (tupleKind (mixKind P w)).quiet (s := { s with toks := tk }) hkey q, rfl, .inr (.inl ⟨_, rfl⟩)⟩
    have := (tupleKind (mixKind P w)).eqBool (s := { s with toks := tk }) (A := A') (E := E') (Q := Q') hu hkey hkey
    refine this ?_
    simpa using q
section
variable {P : Program} {w : World} {A : Around} {E : Value → Shared → Prop} {s : Shared} {d : Addr} {o : Obj} {es : Array DictEntry} {ep n : Nat} {zs : List Str} {f : Fk} {u r : Value}
theorem TxtE.key (T : TxtE w es zs) {e : DictEntry} (he : e ∈ es) : ∃ z t, e.key = .str z t := by
  obtain ⟨i, hi, rfl⟩ := Array.mem_iff_getElem.mp he
  have hz := List.getElem?_eq_getElem (l := zs) (i := i) (by rw [← T.1]; exact hi)
  obtain ⟨e, t, e1, e2, _⟩ := T.2 i _ hz
  rw [Array.getElem?_eq_getElem hi] at e1
  cases e1
  exact ⟨_, t, e2⟩
theorem TxtE.at_ (T : TxtE w es zs) {i : Nat} {e : DictEntry} (he : es[i]? = some e) : ∃ z t, zs[i]? = some z ∧ e.key = .str z t ∧ e.hash = hashStr w z := by
  have hi : i < es.size := (Array.getElem?_eq_some_iff.mp he).1
  have hz := List.getElem?_eq_getElem (l := zs) (i := i) (by rw [← T.1]; exact hi)
  obtain ⟨e', t, e1, e2, e3⟩ := T.2 i _ hz
  rw [he] at e1
  cases e1
  exact ⟨_, t, hz, e2, e3⟩
/-- the key of another kind is not there -/
theorem find_non (R : FkR P w s f u n) (T : TxtE w es zs) (tk : Nat) {Q : Option Nat → Shared → Prop} (hu : A.units < cLine) (ho : s.heap.get? d = some o) (hd : o.data = .dict es ep) (h : Q none { s with toks := tk }) :
    wpAny (model P w) A (dictFind d u (f.hash P w)) Q E { s with toks := tk } := by
  refine find_gen (s := { s with toks := tk }) (jo := none) R.nk ho hd (fun x t e => by have := R.ns; rw [e] at this; cases this) (fun j e => by cases e) (fun i e he hh E' Q' q => ?_) (fun E' Q' q => R.qu tk _ _ _ q) (fun e he E' Q' q => ?_) (fun a ea e he ek => ?_) h
  · obtain ⟨z, t, _, ek, _⟩ := T.at_ he
    rw [ek]
    exact R.tf tk _ _ _ z t hu (by simpa using q)
  · obtain ⟨z, t, ek⟩ := T.key he
    rw [ek, eqIsQuiet_byValue (v := Value.str z t) 8 rfl]
    exact wpAny_pure q
  · obtain ⟨z, t, ek'⟩ := T.key he
    rw [ek'] at ek
    cases ek
theorem nd_inj {α : Type} : ∀ {l : List α} {i j : Nat} {x : α}, l.Nodup → l[i]? = some x → l[j]? = some x → i = j
  | l, i, j, x, nd, h1, h2 => by
    obtain ⟨a1, a2⟩ := List.getElem?_eq_some_iff.mp h1
    obtain ⟨b1, b2⟩ := List.getElem?_eq_some_iff.mp h2
    exact (List.getElem_inj nd).mp (a2.trans b2.symm)
/-- a text among them -/
theorem find_txt (R : FkR P w s f u n) (T : TxtE w es zs) (nd : zs.Nodup) {i : Nat} {z : Str} {t : Tok} (hz : zs[i]? = some z) (tk : Nat) {Q : Option Nat → Shared → Prop} (hu : A.units < cLine) (ho : s.heap.get? d = some o) (hd : o.data = .dict (es.push ⟨f.hash P w, u, r⟩) ep) (h : Q (some i) { s with toks := tk }) :
    wpAny (model P w) A (dictFind d (.str z t) (hashStr w z)) Q E { s with toks := tk } := by
  have hi : i < zs.length := (List.getElem?_eq_some_iff.mp hz).1
  refine find_gen (s := { s with toks := tk }) (jo := some i) (.inl ⟨z, t, rfl⟩) ho hd (fun x t e => ?_) (fun j e => ?_) (fun k e he hh E' Q' q => ?_) (fun E' Q' q => ?_) (fun e he E' Q' q => ?_) (fun a ea => nomatch ea) h
  · rw [Array.all_push, Bool.and_eq_false_iff]
    exact .inr R.ns
  · cases e
    obtain ⟨e, t', e1, e2, e3⟩ := T.2 i z hz
    exact ⟨e, by rw [Array.getElem?_push, if_neg (by rw [T.1]; omega)]; exact e1, e3⟩
  · rw [Array.getElem?_push] at he
    split at he
    · cases he
      refine R.ft tk _ _ _ z t hu ?_
      rw [decide_eq_false (fun c => by cases c; rename_i c'; rw [T.1] at c'; omega)] at q
      exact q
    · obtain ⟨z', t', hz', ek, _⟩ := T.at_ he
      rw [ek]
      refine wpAny_eqBool_str ?_
      have : decide (z' = z) = decide (some i = some k) := by
        by_cases c : i = k
        · subst c
          rw [hz] at hz'
          cases hz'
          simp
        · rw [decide_eq_false (fun e : z' = z => c (nd_inj nd hz (by rw [hz', e]))), decide_eq_false (fun e => c (Option.some.inj e))]
      rw [this]
      exact q
  · rw [eqIsQuiet_byValue (v := Value.str z t) 8 rfl]
    exact wpAny_pure q
  · rcases Array.mem_push.mp he with he | rfl
    · obtain ⟨z, t, ek⟩ := T.key he
      rw [ek, eqIsQuiet_byValue (v := Value.str z t) 8 rfl]
      exact wpAny_pure q
    · exact R.qu tk _ _ _ q
/-- the key of another kind -/
theorem find_frn {u' : Value} {m : Nat} (R : FkR P w s f u n) (R' : FkR P w s f u' m) (tw : ∀ (tk : Nat) (A' : Around) (E' : Value → Shared → Prop) (Q' : Bool → Shared → Prop), A'.units < cLine → Q' true { s with toks := tk } → wpAny (model P w) A' (eqBool u' u) Q' E' { s with toks := tk }) (T : TxtE w es zs) (tk : Nat) {Q : Option Nat → Shared → Prop} (hu : A.units < cLine) (ho : s.heap.get? d = some o) (hd : o.data = .dict (es.push ⟨f.hash P w, u', r⟩) ep) (h : Q (some es.size) { s with toks := tk }) :
    wpAny (model P w) A (dictFind d u (f.hash P w)) Q E { s with toks := tk } := by
  refine find_gen (s := { s with toks := tk }) (jo := some es.size) R.nk ho hd (fun x t e => by have := R.ns; rw [e] at this; cases this) (fun j e => ?_) (fun k e he hh E' Q' q => ?_) (fun E' Q' q => R.qu tk _ _ _ q) (fun e he E' Q' q => ?_) (fun a ea e he ek => ?_) h
  · cases e
    exact ⟨_, by rw [Array.getElem?_push, if_pos rfl], rfl⟩
  · rw [Array.getElem?_push] at he
    split at he
    · rename_i c
      cases he
      refine tw tk _ _ _ hu ?_
      rw [decide_eq_true (by rw [c])] at q
      exact q
    · rename_i c
      obtain ⟨z', t', hz', ek, _⟩ := T.at_ he
      rw [ek]
      refine R.tf tk _ _ _ z' t' hu ?_
      rw [decide_eq_false (fun e => c (Option.some.inj e).symm)] at q
      exact q
  · rcases Array.mem_push.mp he with he | rfl
    · obtain ⟨z, t, ek⟩ := T.key he
      rw [ek, eqIsQuiet_byValue (v := Value.str z t) 8 rfl]
      exact wpAny_pure q
    · exact R'.qu tk _ _ _ q
  · rcases Array.mem_push.mp he with he | rfl
    · obtain ⟨z, t, ek'⟩ := T.key he
      rw [ek'] at ek
      cases ek
    · rfl
end
/-! d[k] = v, k of another kind -/
def rSetY (P : Program) (w : World) : TSet := fun o i v H Q => ∃ (d : Addr) (zs : List Str) (ws : List V) (f : Fk), o = .ref d ∧ H d = some (.dK (dct zs ws)) ∧ zs.length = ws.length ∧ zs.length < 1000 ∧ zs.Nodup ∧ FkV H f i ∧ Q (upd H d (dMy P w d zs ws f i v))
theorem txt_of {P : Program} {w : World} {H : Hp} {h : Heap} {d : Addr} {zs : List Str} {ws : List V} (ok : HOk P w H h) (e : H d = some (.dK (dct zs ws))) (l1 : zs.length = ws.length) :
    (d == sysModules) = false ∧ ∃ (o : Obj) (es : Array DictEntry) (ep : Nat), h.get? d = some o ∧ o.ExactDict ∧ o.data = .dict es ep ∧ TxtE w es zs ∧ Vals ws (es.toList.map (·.val)) := by
  obtain ⟨z, hd, vs, rel, ob, es, ep, ho, hx, hdt, hk, hp, _⟩ := dk_of ok e
  obtain ⟨k1, k2⟩ := keys_rel hp rel
  obtain ⟨f1, f2⟩ := dct_fst l1
  rw [f1] at k1
  rw [f2] at k2
  have les : es.size = zs.length := by
    have := k1.length
    rw [List.length_map, List.length_map] at this
    simpa using this.symm
  refine ⟨hd, ob, es, ep, ho, hx, hdt, ⟨les, fun i z hz => ?_⟩, k2⟩
  have hzv : (zs.map V.str)[i]? = some (.str z) := by rw [List.getElem?_map, hz]; rfl
  obtain ⟨u, hu, ru⟩ := k1.get hzv
  rw [List.getElem?_map] at hu
  obtain ⟨en, hen, ek⟩ := Option.map_eq_some_iff.mp hu
  have hen' : es[i]? = some en := by rw [← Array.getElem?_toList]; exact hen
  obtain ⟨t, rt⟩ := ru
  have ek' : en.key = .str z t := ek.trans rt
  obtain ⟨k, hk1, hk2⟩ := hk en (Array.mem_of_getElem? hen')
  refine ⟨en, t, hen', ek', ?_⟩
  rw [hk2]
  rw [ek'] at hk1
  rcases keyIs_shape hk1 with ⟨i, t', rfl, e⟩ | ⟨x, t', rfl, e⟩
  · exact nomatch e
  · injection e with e1 _
    subst e1
    rfl
theorem set_my {X : Cx} (hu : X.A.units + 1 < cLine) : PSet X (rSetY X.prog X.w) := by
  intro pins s σ H o i v ov iv u Q I ro ri rv h
  obtain ⟨d, zs, ws, f, rfl, e, lz, l1, nd, fr, q⟩ := h
  obtain rfl : ov = Value.ref d := ro
  obtain ⟨hd, ob, es, ep, ho, hx, hdt, T, k2⟩ := txt_of I.hok e lz
  obtain ⟨n, R⟩ := fkr I.hok fr ri
  refine set_raw (n := n) hu ho hx hdt (by rw [T.1]; exact small_line (by omega)) (fun A' E' Q' hu q' => R.hash A' E' Q' hu q') (fun A' E' Q' hu q' => find_non R T _ hu ho hdt q') fun h' ⟨o', e1, e2, e3⟩ sb => ?_
  exact ⟨_, d_write I (by rw [e]; exact True.intro) sb ⟨o', e1⟩ (my_ok ⟨hd, l1, nd, o', es, _, _, _, e1, e2, e3, T, ri, rv, k2⟩), q⟩
/-! d[k] -/
theorem ff_two {P : Program} {w : World} {H : Hp} {s : Shared} (ok : HOk P w H s.heap) {f : Fk} {v : V} {u u' : Value} (h : FkV H f v) (r : RelV v u) (r' : RelV v u') (tk : Nat) (A' : Around) (E' : Value → Shared → Prop) (Q' : Bool → Shared → Prop) (hu : A'.units < cLine) (q : Q' true { s with toks := tk }) :
    wpAny (model P w) A' (eqBool u' u) Q' E' { s with toks := tk } := by
  cases id h with
  | num =>
    obtain ⟨t, rfl⟩ := r
    obtain ⟨t', rfl⟩ := r'
    exact wpAny_eqBool_int q
  | _ =>
    obtain rfl : u' = u := (show u' = _ from r').trans (show u = _ from r).symm
    obtain ⟨n, R⟩ := fkr ok h r
    exact R.ff tk _ _ _ hu q
/-- what it holds at a key -/
inductive YAt (H : Hp) (zs : List Str) (ws : List V) (f : Fk) (v r : V) : V → V → Prop
  | txt {i : Nat} {z : Str} {x : V} : FkV H f v → zs[i]? = some z → ws[i]? = some x → YAt H zs ws f v r (.str z) x
  | frn : FkV H f v → YAt H zs ws f v r v r
def tGetY (P : Program) (w : World) (td ty : TE) : TE := fun σ H Q => td σ H fun x H1 => ty σ H1 fun y H2 => ∃ (a : Addr) (v : V), x = .ref a ∧ (DGet H2 a y (some v) ∨ ∃ zs ws f k r, Rd H2 a (dMy P w a zs ws f k r) ∧ YAt H2 zs ws f k r y v) ∧ Q v H2
section
variable {X : Cx} {o i : Expr} {td ty : TE} {pos : Pos}
theorem pe_getY (hu : X.A.units + 1 < cLine) (ho : PE X o td) (hi : PE X i ty) (hs : NoSl i) : PE X (.Subscript o i pos) (tGetY X.prog X.w td ty) := by
  refine ⟨fun pins s σ H Q I h => ?_⟩
  refine subD_of PySem.F.slot_dict_getitem.lookup hs (thn (ho.run pins s σ H _ I h) fun u s1 ⟨x, H1, I1, rx, q1⟩ => thn (hi.run pins s1 σ H1 _ I1 q1) fun iv s2 ⟨y, H2, I2, ry, a, v, ex, g, q2⟩ => ?_)
  subst ex
  obtain rfl : u = Value.ref a := rx
  rcases g with g | ⟨zs, ws, f, k, r, rd, g⟩
  · exact ⟨dict_typeIs I2 g, d_getItem hu I2 g ry fun w' s3 I3 rw' => ⟨v, H2, I3, rw', q2⟩⟩
  · obtain ⟨hd, l1, nd, ob, es, ep, fv, rv, hob, hx, hdt, T, r1, r2, k2⟩ := my_of I2.hok rd
    refine ⟨⟨ob, hob, hx.1⟩, ?_⟩
    cases g with
    | @txt j z _ fk hz hw =>
      obtain ⟨t, rfl⟩ := ry
      obtain ⟨u, hu', ru⟩ := k2.get hw
      rw [List.getElem?_map] at hu'
      obtain ⟨en, hen, ev⟩ := Option.map_eq_some_iff.mp hu'
      have hen' : es[j]? = some en := by rw [← Array.getElem?_toList]; exact hen
      have hj : j < es.size := (Array.getElem?_eq_some_iff.mp hen').1
      obtain ⟨n, R⟩ := fkr I2.hok fk r1
      refine get_raw (n := 1) (j := j) (e := en) hu hob hx hdt (by rw [Array.getElem?_push, if_neg (by omega)]; exact hen') (fun A' E' Q' _ q' => wpAny_pyHash_str q') (fun A' E' Q' hu q' => find_txt R T nd hz _ hu hob hdt q') ?_
      rw [ev]
      exact ⟨v, H2, I2.tok _, ru, q2⟩
    | frn fk =>
      obtain ⟨n, R⟩ := fkr I2.hok fk ry
      obtain ⟨m, R'⟩ := fkr I2.hok fk r1
      exact get_raw (n := n) (j := es.size) hu hob hx hdt (by rw [Array.getElem?_push, if_pos rfl]) (fun A' E' Q' hu q' => R.hash A' E' Q' hu q') (fun A' E' Q' hu q' => find_frn R R' (ff_two I2.hok fk ry r1) T _ hu hob hdt q') ⟨_, H2, I2.tok _, r2, q2⟩
end
end Rc

namespace Rc
open PySem PySem.Spec PyProof.Rows L2
/-! ### a dict with a key of another kind: shown, walked by keys, walked by items -/
theorem vals_of : ∀ {xs : List V} {us : List Value}, xs.length = us.length → (∀ (i : Nat) (x : V), xs[i]? = some x → ∃ u, us[i]? = some u ∧ RelV x u) → Vals xs us
  | [], [], _, _ => .nil
  | x :: xs, u :: us, h, f => by
    obtain ⟨u', e, r⟩ := f 0 x rfl
    cases e
    exact .cons r (vals_of (by simpa using h) fun i y ey => by simpa using f (i + 1) y (by simpa using ey))
  | [], _ :: _, h, _ => by simp at h
  | _ :: _, [], h, _ => by simp at h
abbrev kyO (zs : List Str) (v : V) : List V := zs.map V.str ++ [v]
theorem my_mx {P : Program} {w : World} {d : Addr} {zs : List Str} {ws : List V} {f : Fk} {v r : V} {h : Heap} (x : MyAt P w d zs ws f v r h) : MxAt d (kyO zs v) (ws ++ [r]) h := by
  obtain ⟨hd, l1, nd, o, es, ep, fv, rv, ho, hx, hdt, T, r1, r2, k2⟩ := x
  refine ⟨hd, ?_, o, _, ep, ho, hx, hdt, ?_, ?_⟩
  · rw [List.length_append, List.length_map]
    exact small_line (show zs.length + 1 ≤ 1000 by omega)
  · rw [Array.toList_push, List.map_append]
    refine vals_snoc (vals_of (by rw [List.length_map, List.length_map, Array.length_toList]; exact T.1.symm) fun i x ex => ?_) r1
    rw [List.getElem?_map] at ex
    obtain ⟨z, hz, rfl⟩ := Option.map_eq_some_iff.mp ex
    obtain ⟨e, t, e1, e2, _⟩ := T.2 i z hz
    exact ⟨e.key, by rw [List.getElem?_map, Array.getElem?_toList, e1]; rfl, t, e2⟩
  · rw [Array.toList_push, List.map_append]
    exact vals_snoc k2 r2
def ItYk (P : Program) (w : World) (d : Addr) (o : Obj) (zs : List Str) (ws : List V) (f : Fk) (v r : V) : It :=
  ⟨fun i H => H d = some (.frz o (dMy P w d zs ws f v r)) ∧ i < (kyO zs v).length, fun i H x H' => H' = H ∧ (kyO zs v)[i]? = some x, fun i H => H d = some (.frz o (dMy P w d zs ws f v r)) ∧ (kyO zs v).length ≤ i⟩
def ItYi (P : Program) (w : World) (d : Addr) (o : Obj) (zs : List Str) (ws : List V) (f : Fk) (v r : V) : It :=
  ⟨fun i H => H d = some (.frz o (dMy P w d zs ws f v r)) ∧ i < (kyO zs v).length, fun i H x H' => ∃ T k y, (kyO zs v)[i]? = some k ∧ (ws ++ [r])[i]? = some y ∧ x = .ref T ∧ H T = none ∧ H' = upd H T (.tup [k, y]), fun i H => H d = some (.frz o (dMy P w d zs ws f v r)) ∧ (kyO zs v).length ≤ i⟩
section
variable {X : Cx} {pins : List (Addr × Obj)} {σ : L2.St} {H : Hp} {s : Shared} {d : Addr} {o : Obj} {zs : List Str} {ws : List V} {f : Fk} {v r : V}
theorem vals_at' : ∀ {xs : List V} {us : List Value} {i : Nat} {x : V}, Vals xs us → xs[i]? = some x → ∃ u, us[i]? = some u ∧ RelV x u
  | _, _, 0, _, .cons r _, e => by cases e; exact ⟨_, rfl, r⟩
  | _, _, i + 1, _, .cons _ h, e => vals_at' h (i := i) e
  | _, _, _, _, .nil, e => by cases e
theorem frzY (I : Inv X pins σ H s) (h : H d = some (.frz o (dMy X.prog X.w d zs ws f v r))) :
    (d == sysModules) = false ∧ s.heap.get? d = some o ∧ o.ExactDict ∧ ∃ (es : Array DictEntry) (ep : Nat), o.data = .dict es ep ∧ es.size = (kyO zs v).length ∧ Vals (kyO zs v) (es.toList.map (·.key)) ∧ Vals (ws ++ [r]) (es.toList.map (·.val)) := by
  obtain ⟨hd, q⟩ := I.hok d _ h
  obtain ⟨a, b, o', es, ep, e, hx, hdt, v1, v2⟩ := my_mx (my_of I.hok (.inr ⟨_, h⟩))
  rw [hd] at e
  cases e
  refine ⟨a, hd, hx, es, ep, hdt, ?_, v1, v2⟩
  have := v1.length
  rw [List.length_map, Array.length_toList] at this
  exact this.symm
end
section
variable {P : Program} {w : World} {K : PySem.W.Frag} {tg : Expr} {d : Addr} {o : Obj} {es : Array DictEntry} {ep : Nat} {zs : List Str} {ws : List V} {f : Fk} {v r : V}
theorem turn_keysY (it : Addr) (hod : o.data = .dict es ep) : Turn P w K tg (ItYk P w d o zs ws f v r) [it] it (fun i h => h.IsKeyIter it d i (kyO zs v).length ep) where
  mem := by simp
  obj := fun i h st b hb => by
    have e : b = it := by simpa using hb
    subst e
    obtain ⟨oi, e, c, dd⟩ := st
    exact ⟨oi, e, fun v z => by rw [dd] at z; cases z⟩
  keep := fun i h h' st k => st.at fun oi e => k it (by simp) oi e
  item := by
    intro X hP hw hK hc i pins s σ H E I hf st hg
    subst hP hw hK
    obtain ⟨hd, hi⟩ := hg
    obtain ⟨f0, f1, f2, f3, f4, f5⟩ := hf it (by simp)
    obtain ⟨hs, hgd, hx, es', ep', hdt, hsz, v1, v2⟩ := frzY I hd
    obtain ⟨rfl, rfl⟩ := dict_ep hod hdt
    have ex : (kyO zs v)[i]? = some (kyO zs v)[i] := List.getElem?_eq_getElem hi
    obtain ⟨u, hu, ru⟩ := vals_at' v1 ex
    rw [List.getElem?_map] at hu
    obtain ⟨en, hen, ek⟩ := Option.map_eq_some_iff.mp hu
    have hen' : es'[i]? = some en := by rw [← Array.getElem?_toList]; exact hen
    refine next_key_item st hgd hdt hsz hen' fun h' st' sb => ?_
    have I1 : Inv X pins σ H { s with heap := h' } := I.turned (t' := s.toks) (fun b ob hb e => (sb.2 b hb).trans e) f0 f1 f3 f4 f5
    obtain ⟨oi, e, c, dd⟩ := id st'
    exact ⟨en.key, rfl, go_of (s := { s with heap := h' }) e c dd (by decide) ⟨(kyO zs v)[i], H, I1, ek ▸ ru, ⟨rfl, ex⟩, st', fun b hb => (hf b hb).1⟩⟩
  done := by
    intro X hP hw hK hc i pins s σ H E I hf st hg
    subst hP hw hK
    obtain ⟨hd, hi⟩ := hg
    obtain ⟨f0, f1, f2, f3, f4, f5⟩ := hf it (by simp)
    obtain ⟨hs, hgd, hx, es', ep', hdt, hsz, v1, v2⟩ := frzY I hd
    obtain ⟨rfl, rfl⟩ := dict_ep hod hdt
    exact next_key_end (I.ok.hd hc) st hgd hdt hsz hi fun h' eb => ⟨rfl, I.turned (t' := s.toks) (fun b ob hb e => eb b ob hb e) f0 f1 f3 f4 f5⟩
  self := fun A i s Q E st h => by
    refine wpAny_pyIter_slot st.typeIs F.slot_dict_keyiterator_iter (wpAny_call_entry F.slot_dict_keyiterator_iter st.typeIs F.entry_dict_keyiterator_iter ?_ (F.args_dict_keyiterator_iter_1 _))
    show wpAny _ _ (ret (.ref it)) _ _ s
    exact wpAny_pure ⟨_, rfl, "dict_keyiterator", _, st.typeIs, F.slot_dict_keyiterator_next.lookup, h⟩
theorem turn_itemsY {elts : List Expr} {kk : Nat} {tpos : Pos} (it : Addr) (hod : o.data = .dict es ep) :
    Turn P w K (.Tuple elts kk tpos) (ItYi P w d o zs ws f v r) [it] it (fun i h => ∃ ok ov, IsItemIter h it d i (kyO zs v).length ep ok ov) where
  mem := by simp
  obj := fun i h st b hb => by
    have e : b = it := by simpa using hb
    subst e
    obtain ⟨ok, ov, e⟩ := st
    exact ⟨_, e, fun v z => nomatch z⟩
  keep := fun i h h' st k => let ⟨ok, ov, e⟩ := st; ⟨ok, ov, k it (by simp) _ e⟩
  item := by
    intro X hP hw hK hc i pins s σ H E I hf st hg
    subst hP hw hK
    obtain ⟨hd, hi⟩ := hg
    obtain ⟨hs, hgd, hx, es', ep', hdt, hsz, v1, v2⟩ := frzY I hd
    obtain ⟨rfl, rfl⟩ := dict_ep hod hdt
    have l2 : (ws ++ [r]).length = (kyO zs v).length := by
      have a1 := v1.length
      have a2 := v2.length
      rw [List.length_map] at a1 a2
      omega
    have ex : (kyO zs v)[i]? = some (kyO zs v)[i] := List.getElem?_eq_getElem hi
    have ey : (ws ++ [r])[i]? = some (ws ++ [r])[i] := List.getElem?_eq_getElem (by rw [l2]; exact hi)
    obtain ⟨u, hu, ru⟩ := vals_at' v1 ex
    obtain ⟨u2, hu2, ru2⟩ := vals_at' v2 ey
    rw [List.getElem?_map] at hu hu2
    obtain ⟨en, hen, ek⟩ := Option.map_eq_some_iff.mp hu
    obtain ⟨en2, hen2, ek2⟩ := Option.map_eq_some_iff.mp hu2
    rw [hen] at hen2
    cases hen2
    have hsi : i < es'.size := by rw [hsz]; exact hi
    have een : es'[i] = en := by
      have : es'.toList[i]? = some es'[i] := by rw [Array.getElem?_toList]; exact Array.getElem?_eq_getElem hsi
      rw [hen] at this
      exact (Option.some.inj this).symm
    obtain ⟨ok, ov, he⟩ := st
    rw [← hsz] at he
    have hlt : it < s.heap.objs.size := Heap.lt_size he
    refine DT.nextI he ⟨o, hgd, hx, hdt⟩ hsi fun h' ho hT hz hk => ?_
    rw [een] at ho hT
    refine ⟨_, rfl, wpAny_letOwnedTupleGo_items (s := { s with heap := h' }) ho fun h'' he' sb => ?_⟩
    have hT2 : h''.get? s.heap.objs.size = some { cls := .type "tuple", data := .seq #[en.key, en.val] } := (sb.2 _ (Nat.ne_of_gt hlt)).trans hT
    have new : ObjOk X.prog X.w (upd H s.heap.objs.size (.tup [(kyO zs v)[i], (ws ++ [r])[i]])) h'' s.heap.objs.size (.tup [(kyO zs v)[i], (ws ++ [r])[i]]) :=
      ⟨by show 2 ≤ sizeLine; decide, [en.key, en.val], .cons (ek ▸ ru) (.cons (ek2 ▸ ru2) .nil), ⟨_, hT2, rfl, _, rfl⟩⟩
    have I1 : Inv X pins σ (upd H s.heap.objs.size (.tup [(kyO zs v)[i], (ws ++ [r])[i]])) { s with heap := h'' } :=
      I.turnedNew (t' := s.toks) (ch := [it]) (fun b ob hb e => (sb.2 b (by simpa using hb)).trans (hk b ob (by simpa using hb) e)) hf (Nat.le_refl _) new
    refine ⟨.ref s.heap.objs.size, _, I1, rfl, ⟨_, _, _, ex, ey, rfl, I.hok.fresh (Nat.le_refl _), rfl⟩, ⟨en.key, en.val, ?_⟩, fun b hb => ?_⟩
    · rw [← hsz]; exact he'
    · have e : b = it := by simpa using hb
      rw [e, upd_ne (Nat.ne_of_lt hlt)]
      exact (hf it (by simp)).1
  done := by
    intro X hP hw hK hc i pins s σ H E I hf st hg
    subst hP hw hK
    obtain ⟨hd, hi⟩ := hg
    obtain ⟨f0, f1, f2, f3, f4, f5⟩ := hf it (by simp)
    obtain ⟨hs, hgd, hx, es', ep', hdt, hsz, v1, v2⟩ := frzY I hd
    obtain ⟨rfl, rfl⟩ := dict_ep hod hdt
    obtain ⟨ok, ov, he⟩ := st
    rw [← hsz] at he
    exact DT.endI (I.ok.hd hc) he ⟨o, hgd, hx, hdt⟩ (by omega) fun h' eb => ⟨rfl, I.turned (t' := s.toks) (fun b ob hb e => eb b ob hb e) f0 f1 f3 f4 f5⟩
  self := fun A i s Q E st h => let ⟨_, _, e⟩ := st; PySem.W.kcp_self e h
end
section
variable {P : Program} {w : World} {d : Addr} {o : Obj} {zs : List Str} {ws : List V} {f : Fk} {v r : V}
theorem walk_keysY : Walk (ItYk P w d o zs ws f v r) (kyO zs v).length (fun H => H d = some (.frz o (dMy P w d zs ws f v r))) (fun i H x H' => H' = H ∧ (kyO zs v)[i]? = some x) :=
  ⟨fun _ _ hi q => ⟨q, hi⟩, fun _ q => ⟨q, Nat.le_refl _⟩, fun _ _ _ _ _ _ y => y⟩
theorem walk_itemsY : Walk (ItYi P w d o zs ws f v r) (kyO zs v).length (fun H => H d = some (.frz o (dMy P w d zs ws f v r))) (YPair (fun i => (kyO zs v)[i]?) (fun i => (ws ++ [r])[i]?)) := by
  refine ⟨fun _ _ hi q => ⟨q, hi⟩, fun _ q => ⟨q, Nat.le_refl _⟩, fun i H x H' _ _ y => ?_⟩
  obtain ⟨T, k, v, h1, h2, h3, h4, h5⟩ := y
  exact ⟨T, k, v, h3, h4, h5, h1, h2⟩
end
/-- what lies at d: a dict of texts, or one with a key of another kind behind them -/
def LkD (P : Program) (w : World) (H : Hp) (d : Addr) (ks vs : List V) (u : HO) : Prop :=
  (∃ zs ws, u = .dK (dct zs ws) ∧ zs.Nodup ∧ zs.length = ws.length ∧ ks = zs.map V.str ∧ vs = ws) ∨ ∃ zs ws f v r, u = dMy P w d zs ws f v r ∧ zs.Nodup ∧ zs.length = ws.length ∧ FkV H f v ∧ ks = kyO zs v ∧ vs = ws ++ [r]
theorem LkD.keep {P : Program} {w : World} {H H' : Hp} {d : Addr} {ks vs : List V} {u : HO} (h : LkD P w H d ks vs u) (k : ∀ c xs, H c = some (.tup xs) → H' c = some (.tup xs)) : LkD P w H' d ks vs u := by
  rcases h with h | ⟨zs, ws, f, v, r, a, b, c, fk, e, g⟩
  · exact .inl h
  · exact .inr ⟨zs, ws, f, v, r, a, b, c, fk.keep k, e, g⟩
theorem LkD.len {P : Program} {w : World} {H : Hp} {d : Addr} {ks vs : List V} {u : HO} (h : LkD P w H d ks vs u) : ks.length = vs.length := by
  rcases h with ⟨zs, ws, _, _, l, rfl, rfl⟩ | ⟨zs, ws, f, v, r, _, _, l, _, rfl, rfl⟩
  · rw [List.length_map, l]
  · rw [List.length_append, List.length_append, List.length_map, l]
    rfl
theorem LkD.mut {P : Program} {w : World} {H : Hp} {d : Addr} {ks vs : List V} {u : HO} (h : LkD P w H d ks vs u) : Mut (some u) := by
  rcases h with ⟨zs, ws, rfl, _⟩ | ⟨zs, ws, f, v, r, rfl, _⟩
  · trivial
  · trivial
theorem LkD.get {P : Program} {w : World} {H : Hp} {d : Addr} {ks vs : List V} {u : HO} {i : Nat} {k v : V} (h : LkD P w H d ks vs u) (rd : Rd H d u) (ek : ks[i]? = some k) (ev : vs[i]? = some v) :
    DGet H d k (some v) ∨ ∃ zs ws f k' r, Rd H d (dMy P w d zs ws f k' r) ∧ YAt H zs ws f k' r k v := by
  rcases h with ⟨zs, ws, rfl, nd, l, rfl, rfl⟩ | ⟨zs, ws, f, v', r, rfl, nd, l, fk, rfl, rfl⟩
  · rw [List.getElem?_map] at ek
    obtain ⟨z, hz, rfl⟩ := Option.map_eq_some_iff.mp ek
    exact .inl (.inl ⟨_, Sum.inr z, rd, rfl, (dct_val nd hz ev).symm⟩)
  · refine .inr ⟨zs, ws, f, v', r, rd, ?_⟩
    by_cases c : i < zs.length
    · rw [List.getElem?_append_left (by rw [List.length_map]; exact c), List.getElem?_map] at ek
      rw [List.getElem?_append_left (by omega)] at ev
      obtain ⟨z, hz, rfl⟩ := Option.map_eq_some_iff.mp ek
      exact .txt fk hz ev
    · have hi := (List.getElem?_eq_some_iff.mp ek).1
      rw [List.length_append, List.length_map] at hi
      have hi : i < zs.length + 1 := hi
      obtain rfl : i = zs.length := by omega
      rw [List.getElem?_append_right (by rw [List.length_map]; exact Nat.le_refl _), List.length_map, Nat.sub_self] at ek
      rw [l, List.getElem?_append_right (Nat.le_refl _), Nat.sub_self] at ev
      cases ek
      cases ev
      exact .frn fk
theorem lk_items {d : Addr} {o : Obj} {zs : List Str} {ws : List V} (l : zs.length = ws.length) : Walk (Iti d o (dct zs ws)) (zs.map V.str).length (fun H => H d = some (.frz o (.dK (dct zs ws)))) (YPair (fun i => (zs.map V.str)[i]?) (fun i => ws[i]?)) := by
  obtain ⟨f1, f2⟩ := dct_fst l
  have e : (zs.map V.str).length = (dct zs ws).length := by rw [← f1, List.length_map]
  rw [e]
  refine (walk_items (kvs := dct zs ws)).mono (fun _ h => h) fun i H x H' _ _ y => ?_
  obtain ⟨T, x1, x2, h1, h2, h3, h4, h5⟩ := y
  refine ⟨T, x1, x2, h1, h2, h3, ?_, ?_⟩
  · show (zs.map V.str)[i]? = _
    rw [← f1, List.getElem?_map]
    exact h4
  · show ws[i]? = _
    rw [← f2, List.getElem?_map]
    exact h5
theorem lk_keys {d : Addr} {o : Obj} {zs : List Str} {ws : List V} (l : zs.length = ws.length) : Walk (Itk d o (dct zs ws)) (zs.map V.str).length (fun H => H d = some (.frz o (.dK (dct zs ws)))) (fun i H x H' => H' = H ∧ (zs.map V.str)[i]? = some x) := by
  obtain ⟨f1, f2⟩ := dct_fst l
  have e : (zs.map V.str).length = (dct zs ws).length := by rw [← f1, List.length_map]
  rw [e]
  refine (walk_keys (kvs := dct zs ws)).mono (fun _ h => h) fun i H x H' _ _ y => ?_
  obtain ⟨h1, k, v, h2, rfl⟩ := y
  refine ⟨h1, ?_⟩
  rw [← f1, List.getElem?_map, h2]
  rfl
def iKeysY (P : Program) (w : World) (td : TE) : TI := fun σ H R => td σ H fun x H1 => ∃ d o ks vs u, x = .ref d ∧ LkD P w H1 d ks vs u ∧ H1 d = some (.frz o u) ∧ ∀ J, Walk J ks.length (fun H => H d = some (.frz o u)) (fun i H x H' => H' = H ∧ ks[i]? = some x) → R J H1
def iItemsY (P : Program) (w : World) (td : TE) : TI := fun σ H R => td σ H fun x H1 => ∃ d o ks vs u, x = .ref d ∧ LkD P w H1 d ks vs u ∧ H1 d = some (.frz o u) ∧ ∀ J, Walk J ks.length (fun H => H d = some (.frz o u)) (YPair (fun i => ks[i]?) (fun i => vs[i]?)) → R J H1
section
variable {X : Cx} {tg e : Expr} {td : TE} {apos cpos : Pos}
theorem pi_keysY (he : PE X e td) : PI X tg e (iKeysY X.prog X.w td) := by
  refine ⟨fun pins s σ H R I h => ?_⟩
  refine thn (he.run pins s σ H _ I h) fun u s1 ⟨x, H1, I1, rx, d, o, ks, vs, u', ex, lk, hd, q⟩ => ?_
  subst ex
  obtain rfl : u = Value.ref d := rx
  rcases lk with ⟨zs, ws, rfl, nd, l, rfl, rfl⟩ | ⟨zs, ws, f, v, r, rfl, nd, l, fk, rfl, rfl⟩
  · obtain ⟨hs, hgd, hx, es, ep, vs, hdt, hsz, kv, hm⟩ := I1.frzK hd
    refine iter_keys hs hgd hx hdt (pi_one (tk := s1.toks) I1 _ (turn_keys _ hdt) ⟨_, Heap.get?_push_size _ rfl, rfl, ?_⟩ (q _ (lk_keys l)))
    rw [hsz] <;> rfl
  · obtain ⟨hs, hgd, hx, es, ep, hdt, hsz, v1, v2⟩ := frzY I1 hd
    refine iter_keys hs hgd hx hdt (pi_one (tk := s1.toks) I1 _ (turn_keysY _ hdt) ⟨_, Heap.get?_push_size _ rfl, rfl, ?_⟩ (q _ walk_keysY))
    rw [hsz] <;> rfl
theorem pi_itemsY {elts : List Expr} {kk : Nat} {tpos : Pos} (he : PE X e td) (hbase : attributeBase e "items" X.env (eval e X.env) = eval e X.env := by rfl) (hline : (apos.endLine == cpos.line) = true := by rfl) :
    PI X (.Tuple elts kk tpos) (.Call (.Attribute e "items" apos) [] [] cpos) (iItemsY X.prog X.w td) := by
  refine ⟨fun pins s σ H R I h => ?_⟩
  refine wpAny_Call_method (T := "dict") (id := "dict.items") hbase rfl hline F.plainAttrs_dict F.slot_dict_items F.type_dict_items (thn (he.run pins s σ H _ I h) fun u s1 ⟨x, H1, I1, rx, d, o, ks, vs, u', ex, lk, hd, q⟩ => ?_)
  subst ex
  obtain rfl : u = Value.ref d := rx
  have raw : (d == sysModules) = false ∧ s1.heap.get? d = some o ∧ o.ExactDict ∧ ∃ es ep, o.data = .dict es ep := by
    rcases lk with ⟨zs, ws, rfl, nd, l, rfl, rfl⟩ | ⟨zs, ws, f, v, r, rfl, nd, l, fk, rfl, rfl⟩
    · obtain ⟨hs, hgd, hx, es, ep, vs, hdt, _⟩ := I1.frzK hd
      exact ⟨hs, hgd, hx, _, _, hdt⟩
    · obtain ⟨hs, hgd, hx, es, ep, hdt, _⟩ := frzY I1 hd
      exact ⟨hs, hgd, hx, _, _, hdt⟩
  obtain ⟨hs, hgd, hx, es, ep, hdt⟩ := raw
  refine ⟨⟨o, hgd, hx.1⟩, fun b eb => by cases eb; exact ⟨o, hgd, hx.2.1⟩, ?_⟩
  have I2 : Inv X pins σ H1 { s1 with heap := s1.heap.push { cls := .type "dict_items", data := .fields #[.ref d] } } := I1.kept (t' := s1.toks) fun b ob q => Heap.get?_push_of_some _ q
  have fin : wpAny (model X.prog X.w) X.A (pyIter (.ref s1.heap.objs.size)) (PIE X pins σ (.Tuple elts kk tpos) R) X.xe { s1 with heap := s1.heap.push { cls := .type "dict_items", data := .fields #[.ref d] } } := by
    refine DT.iterI (d := d) (es := es) (ep := ep) ⟨_, Heap.get?_push_size _ rfl, rfl, rfl⟩ ⟨o, Heap.get?_push_of_some _ hgd, hx, hdt⟩ ?_
    rcases lk with ⟨zs, ws, rfl, nd, l, rfl, rfl⟩ | ⟨zs, ws, f, v, r, rfl, nd, l, fk, rfl, rfl⟩
    · obtain ⟨_, _, _, es', ep', vs, hdt', hsz, kv, hm⟩ := I1.frzK hd
      obtain ⟨rfl, rfl⟩ := dict_ep hdt hdt'
      refine pi_one (tk := s1.toks) I2 _ (turn_items _ hdt) ⟨.none, .none, ?_⟩ (q _ (lk_items l))
      rw [← hsz]
      exact Heap.get?_push_size _ rfl
    · obtain ⟨_, _, _, es', ep', hdt', hsz, _⟩ := frzY I1 hd
      obtain ⟨rfl, rfl⟩ := dict_ep hdt hdt'
      refine pi_one (tk := s1.toks) I2 _ (turn_itemsY _ hdt) ⟨.none, .none, ?_⟩ (q _ walk_itemsY)
      rw [← hsz]
      exact Heap.get?_push_size _ rfl
  show wpAny _ _ (callWith cpos (.builtin "dict.items") [.ref d] [] []) _ X.xe s1
  exact method_meetsIn F.slot_dict_items F.entry_dict_items rfl (PySem.evalArgs_none ⟨rfl, ⟨o, hgd, hx.1⟩, F.args_dict_items_1 _, _, DT.meetsItems (es := es) (ep := ep) hs, ⟨o, hgd, hx, hdt⟩, fin⟩)
end
/-- flat, a list or a tuple of such, or an empty dict -/
inductive FlY (H : Hp) : V → PyData → Prop
  | fl {v : V} {d : PyData} : FlV H v d → FlY H v d
  | dc {a : Addr} : H a = some (.dK []) → FlY H (.ref a) (.dict [])
inductive FlYs (H : Hp) : List V → List PyData → Prop
  | nil : FlYs H [] []
  | cons {v : V} {d : PyData} {vs : List V} {ds : List PyData} : FlY H v d → FlYs H vs ds → FlYs H (v :: vs) (d :: ds)
theorem FlY.keep {H H' : Hp} {v : V} {d : PyData} (h : FlY H v d) (k : ∀ c o, H c = some o → ((∃ xs, o = .lst xs) ∨ (∃ xs, o = .tup xs) ∨ o = .dK []) → H' c = some o) : FlY H' v d := by
  cases h with
  | fl f => exact .fl (f.keep fun c o e h => k c o e (h.elim .inl fun h => .inr (.inl h)))
  | dc e => exact .dc (k _ _ e (.inr (.inr rfl)))
theorem FlYs.keep {H H' : Hp} : ∀ {vs : List V} {ds : List PyData}, FlYs H vs ds → (∀ c o, H c = some o → ((∃ xs, o = .lst xs) ∨ (∃ xs, o = .tup xs) ∨ o = .dK []) → H' c = some o) → FlYs H' vs ds
  | _, _, .nil, _ => .nil
  | _, _, .cons a b, k => .cons (a.keep k) (b.keep k)
theorem FlY.dt {K : PySem.W.Frag} {H : Hp} {v : V} {d : PyData} (h : FlY H v d) : Dt K H v d := by
  cases h with
  | fl f => exact f.dt
  | dc e => exact .dct (kvs := []) e .nil .nil
theorem FlY.reads {X : Cx} {pins : List (Addr × Obj)} {σ : L2.St} {H : Hp} {s : Shared} (I : Inv X pins σ H s) {v : V} {d : PyData} {u : Value} (h : FlY H v d) (r : RelV v u) : ∃ as, Reads s.heap u d as ∧ sysModules ∉ as := by
  cases h with
  | fl f => exact f.reads I r
  | @dc a e =>
    obtain rfl : u = Value.ref a := r
    obtain ⟨hs, _, o, es, ep, ho, hc, hdt, k1, k2⟩ := any_raw I (.inr ⟨[], e, rfl, rfl⟩)
    have l1 : es.toList = [] := by
      have := k1.length
      exact List.map_eq_nil_iff.mp (List.length_eq_zero_iff.mp this.symm)
    refine ⟨_, .dict (as := []) (bs := []) (kvs := []) ho hc.1 hdt (by rw [l1]; exact .nil) (by rw [l1]; exact .nil), fun z => ?_⟩
    have : sysModules = a := by simpa using z
    rw [← this] at hs
    simp at hs
theorem FlYs.reads {X : Cx} {pins : List (Addr × Obj)} {σ : L2.St} {H : Hp} {s : Shared} (I : Inv X pins σ H s) : ∀ {vs : List V} {ds : List PyData} {us : List Value}, FlYs H vs ds → Vals vs us → ∃ as, ReadsAll s.heap us ds as ∧ sysModules ∉ as
  | _, _, _, .nil, .nil => ⟨_, .nil, by simp⟩
  | _, _, _, .cons a b, .cons r1 r2 => by
    obtain ⟨as, q1, n1⟩ := a.reads I r1
    obtain ⟨bs, q2, n2⟩ := FlYs.reads I b r2
    exact ⟨_, .cons q1 q2, fun z => (List.mem_append.mp z).elim n1 n2⟩
/-- a dict of any kind: its keys, its values -/
def AnyY (P : Program) (w : World) (H : Hp) (d : Addr) (ks vs : List V) : Prop := ∃ u, LkD P w H d ks vs u ∧ H d = some u
section
variable {X : Cx}
theorem anyY_raw {pins : List (Addr × Obj)} {σ : L2.St} {H : Hp} {s : Shared} (I : Inv X pins σ H s) {d : Addr} {ks vs : List V} (h : AnyY X.prog X.w H d ks vs) : MxAt d ks vs s.heap := by
  obtain ⟨u, lk, h⟩ := h
  rcases lk with ⟨zs, ws, rfl, nd, l, rfl, rfl⟩ | ⟨zs, ws, f, v, r, rfl, nd, l, fk, rfl, rfl⟩
  · obtain ⟨f1, f2⟩ := dct_fst l
    exact any_raw I (.inr ⟨_, h, f1.symm, f2.symm⟩)
  · exact my_mx (my_of I.hok (.inl h))
def rIsiY (P : Program) (w : World) (K : PySem.W.Frag) : List V → Hp → VK → Prop := fun xs H Q => rIsi K xs H Q ∨ ∃ (d : Addr) (ks vs : List V), xs = [.ref d, .ty "dict"] ∧ AnyY P w H d ks vs ∧ Q (.bl true) H
theorem call_isiY : CallR X (.builtin "isinstance") (rIsiY X.prog X.w X.K) := by
  intro pins s σ H xs us Q I r h
  rcases h with h | ⟨d, ks, vs, rfl, hd, q⟩
  · exact call_isi pins s σ H xs us Q I r h
  · obtain ⟨u1, u2, rfl, r1, r2⟩ := vals2 r
    obtain rfl : u1 = Value.ref d := r1
    obtain rfl : u2 = Value.type "dict" := r2
    obtain ⟨_, _, o, es, ep, ho, hc, _⟩ := anyY_raw I hd
    exact PySem.W.kia_one PySem.W.kitx_dict I.kIn ⟨o, ho, hc.1⟩ (kit_ty (a := "dict") (b := "dict") (r := true) (by decide +kernel)) (fun z => nomatch z) fun tk => ⟨.bl true, H, I.tok tk, rfl, q⟩
def rReprY (P : Program) (w : World) (K : PySem.W.Frag) : List V → Hp → VK → Prop := fun xs H Q => rRepr K xs H Q ∨ (∃ (d : Addr) (ks vs : List V) (ps : List (PyData × PyData)), xs = [.ref d] ∧ AnyY P w H d ks vs ∧ FlYs H ks (ps.map (·.1)) ∧ FlYs H vs (ps.map (·.2)) ∧ (PyData.dict ps).showable = true ∧ (PyData.dict ps).depth ≤ 20 ∧ (PyData.dict ps).shown.length ≤ sizeLine ∧ Q (.str (PyData.dict ps).shown) H) ∨
  ∃ (L d : Addr) (ks vs : List V) (ps : List (PyData × PyData)), xs = [.ref L] ∧ H L = some (.lst [.ref d]) ∧ L ≠ sysModules ∧ AnyY P w H d ks vs ∧ FlYs H ks (ps.map (·.1)) ∧ FlYs H vs (ps.map (·.2)) ∧ (PyData.list [.dict ps]).showable = true ∧ (PyData.list [.dict ps]).depth ≤ 20 ∧ (PyData.list [.dict ps]).shown.length ≤ sizeLine ∧ Q (.str (PyData.list [.dict ps]).shown) H
theorem call_reprY {k : Nat} (hr : Room k X.A) (hg : X.A.guards = some []) : CallR X (.builtin "repr") (rReprY X.prog X.w X.K) := by
  intro pins s σ H xs us Q I r h
  rcases h with h | ⟨d, ks, vs, ps, rfl, ad, fk, fv, sh, dp, hz, q⟩ | ⟨L, d, ks, vs, ps, rfl, hL, nL, ad, fk, fv, sh, dp, hz, q⟩
  · exact call_repr hr hg pins s σ H xs us Q I r h
  · obtain ⟨u, rfl, ru⟩ := vals1 r
    obtain rfl : u = Value.ref d := ru
    obtain ⟨hs, _, o, es, ep, ho, hc, hdt, k1, k2⟩ := anyY_raw I ad
    obtain ⟨as, r1, n1⟩ := fk.reads I k1
    obtain ⟨bs, r2, n2⟩ := fv.reads I k2
    have hu := hr.units
    refine repr_of_reads' (.dict ho hc.1 hdt r1 r2) sh (fun _ z => ?_) hg (by omega) (fun _ _ e => e) (fun h' t tk hk => ⟨.str _, H, I.kept hk, ⟨t, rfl⟩, q⟩) hz
    rcases List.mem_append.mp z with z | z
    · rcases List.mem_cons.mp z with z | z
      · rw [← z] at hs
        simp at hs
      · exact n1 z
    · exact n2 z
  · obtain ⟨u, rfl, ru⟩ := vals1 r
    obtain rfl : u = Value.ref L := ru
    obtain ⟨hs, _, o, es, ep, ho, hc, hdt, k1, k2⟩ := anyY_raw I ad
    obtain ⟨as, r1, n1⟩ := fk.reads I k1
    obtain ⟨bs, r2, n2⟩ := fv.reads I k2
    have hu := hr.units
    obtain ⟨_, its, k, rv, hoL⟩ := (show ObjOk X.prog X.w H s.heap L (.lst [.ref d]) from I.hok L _ hL)
    obtain ⟨v1, rfl, rv1⟩ := vals1 rv
    obtain rfl : v1 = Value.ref d := rv1
    refine repr_of_reads' (.list hoL rfl rfl (.cons (.dict ho hc.1 hdt r1 r2) .nil)) sh (fun _ z => ?_) hg (by omega) (fun _ _ e => e) (fun h' t tk hk => ⟨.str _, H, I.kept hk, ⟨t, rfl⟩, q⟩) hz
    rcases List.mem_cons.mp z with z | z
    · exact nL z.symm
    · rw [List.append_nil] at z
      rcases List.mem_append.mp z with z | z
      · rcases List.mem_cons.mp z with z | z
        · rw [← z] at hs
          simp at hs
        · exact n1 z
      · exact n2 z
end
end Rc

namespace Rc
open PySem PySem.Spec PyProof.Rows L2 RZ
/-! ### what may fall, of any thing -/
def dictD : PyData → Bool
  | .dict _ => true
  | _ => false
theorem kit_dict {K : PySem.W.Frag} (d : PyData) : PySem.W.kitOne K (.type (tyD d)) (.type "dict") = some (dictD d) :=
  match d with
  | PyData.none => kit_ty (a := "NoneType") (b := "dict") (r := false) (by decide +kernel)
  | .bool _ => kit_ty (a := "bool") (b := "dict") (r := false) (by decide +kernel)
  | .int _ => kit_ty (a := "int") (b := "dict") (r := false) (by decide +kernel)
  | .str _ => kit_ty (a := "str") (b := "dict") (r := false) (by decide +kernel)
  | .list _ => kit_ty (a := "list") (b := "dict") (r := false) (by decide +kernel)
  | .tuple _ => kit_ty (a := "tuple") (b := "dict") (r := false) (by decide +kernel)
  | .dict _ => kit_ty (a := "dict") (b := "dict") (r := true) (by decide +kernel)
/-- an entry that is right -/
def GoodE (M : Bk) (k v : V) : Prop := ∃ (j : Nat) (z : Str) (l : List (Str × Int)) (f x : Int), k = .str z ∧ v = .int x ∧ M.names[j]? = some z ∧ M.stacks[j]? = some l ∧ M.drops[j]? = some f ∧ 0 ≤ x ∧ f + x ≤ wholeN l
/-- an entry that is wrong -/
def BadE (H : Hp) (M : Bk) (k v : V) : Prop :=
  (∃ e, FlV H k e ∧ ShortD e ∧ hasD M e = false) ∨ ∃ (j : Nat) (z : Str) (l : List (Str × Int)) (f : Int), k = .str z ∧ M.names[j]? = some z ∧ M.stacks[j]? = some l ∧ M.drops[j]? = some f ∧
    ((∃ e, FlY H v e ∧ ShortD e ∧ wholeD e = false) ∨ ∃ x, v = .int x ∧ (x < 0 ∨ wholeN l < f + x))
theorem BadE.keep {H H' : Hp} {M : Bk} {k v : V} (h : BadE H M k v) (kp : ∀ c o, H c = some o → ((∃ xs, o = .lst xs) ∨ (∃ xs, o = .tup xs) ∨ o = .dK []) → H' c = some o) : BadE H' M k v := by
  rcases h with ⟨e, a, b⟩ | ⟨j, z, l, f, a1, a2, a3, a4, h⟩
  · exact .inl ⟨e, a.keep fun c o e h => kp c o e (h.elim .inl fun h => .inr (.inl h)), b⟩
  · refine .inr ⟨j, z, l, f, a1, a2, a3, a4, ?_⟩
    rcases h with ⟨e, a, b⟩ | h
    · exact .inl ⟨e, a.keep kp, b⟩
    · exact .inr h
/-- the first n entries are right, the next one is not -/
structure PreE (P : Program) (w : World) (H : Hp) (M : Bk) (d : Addr) (ks vs : List V) (n : Nat) : Prop where
  any : AnyY P w H d ks vs
  nn : n ≤ ks.length
  gd : ∀ (i : Nat) (k v : V), i < n → ks[i]? = some k → vs[i]? = some v → GoodE M k v
  bd : ∀ k v, ks[n]? = some k → vs[n]? = some v → BadE H M k v
theorem AnyY.same {P : Program} {w : World} {H H' : Hp} {d : Addr} {ks vs : List V} (h : AnyY P w H d ks vs) (s : Same H H') : AnyY P w H' d ks vs := by
  obtain ⟨u, lk, e⟩ := h
  exact ⟨u, lk.keep fun c xs e => s _ _ e, s _ _ e⟩
theorem PreE.same {P : Program} {w : World} {H H' : Hp} {M : Bk} {d : Addr} {ks vs : List V} {n : Nat} (h : PreE P w H M d ks vs n) (s : Same H H') : PreE P w H' M d ks vs n :=
  ⟨h.any.same s, h.nn, h.gd, fun k v a b => (h.bd k v a b).keep fun c o e _ => s _ _ e⟩
/-- what may still fall of some -/
structure RightM (M : Bk) (ps : List (Str × Int)) : Prop where
  nd : (ps.map (·.1)).Nodup
  kd : ∀ p ∈ ps, ∃ (j : Nat) (l : List (Str × Int)) (f : Int), M.names[j]? = some p.1 ∧ M.stacks[j]? = some l ∧ M.drops[j]? = some f ∧ 0 ≤ p.2 ∧ f + p.2 ≤ wholeN l
theorem moreK_dct (ps : List (Str × Int)) : moreK ps = dct (ps.map (·.1)) (ps.map fun p => .int p.2) := by
  unfold moreK
  induction ps with
  | nil => rfl
  | cons p r ih =>
    show (Sum.inr p.1, V.int p.2) :: _ = (Sum.inr p.1, V.int p.2) :: _
    exact congrArg _ ih
theorem RightM.pre {P : Program} {w : World} {H : Hp} {M : Bk} {d : Addr} {ps : List (Str × Int)} (h : RightM M ps) (hd : H d = some (.dK (moreK ps))) : PreE P w H M d (ps.map fun p => .str p.1) (ps.map fun p => .int p.2) ps.length := by
  refine ⟨⟨_, .inl ⟨ps.map (·.1), _, congrArg HO.dK (moreK_dct ps), h.nd, by rw [List.length_map, List.length_map], by rw [List.map_map]; rfl, rfl⟩, hd⟩, by rw [List.length_map]; exact Nat.le_refl _, fun i k v hi ek ev => ?_, fun k v ek _ => ?_⟩
  · rw [List.getElem?_map, List.getElem?_eq_getElem hi] at ek ev
    cases ek
    cases ev
    obtain ⟨j, l, f, a, b, c, d, e⟩ := h.kd _ (List.getElem_mem hi)
    exact ⟨j, _, l, f, _, rfl, rfl, a, b, c, d, e⟩
  · have := (List.getElem?_eq_some_iff.mp ek).1
    rw [List.length_map] at this
    omega
inductive Thg (P : Program) (w : World) (K : PySem.W.Frag) (H : Hp) (M : Bk) : V → Option (List (Str × Int)) → Prop
  | nod {v : V} {d : PyData} : Dt K H v d → dictD d = false → Thg P w K H M v none
  | rgt {d : Addr} {ps : List (Str × Int)} : H d = some (.dK (moreK ps)) → RightM M ps → Thg P w K H M (.ref d) (some ps)
  | bad {d : Addr} {ks vs : List V} {n : Nat} : PreE P w H M d ks vs n → n < ks.length → Thg P w K H M (.ref d) none
theorem Thg.same {P : Program} {w : World} {K : PySem.W.Frag} {H H' : Hp} {M : Bk} {v : V} {o : Option (List (Str × Int))} (h : Thg P w K H M v o) (s : Same H H') : Thg P w K H' M v o := by
  cases h with
  | nod a b => exact .nod (Dt.same s _ a) b
  | rgt a b => exact .rgt (s _ _ a) b
  | bad a b => exact .bad (a.same s) b
theorem LkD.ne {P : Program} {w : World} {H : Hp} {d : Addr} {ks vs : List V} {u o : HO} {c : Addr} (lk : LkD P w H d ks vs u) (hd : H d = some u) (e : H c = some o) (h1 : ∀ kvs, o ≠ .dK kvs) (h2 : ∀ φ, o ≠ .ext φ) : c ≠ d := fun z => by
  rw [z, hd] at e
  cases e
  rcases lk with ⟨zs, ws, rfl, _⟩ | ⟨zs, ws, f, v, r, rfl, _⟩
  · exact h1 _ rfl
  · exact h2 _ rfl
/-- the dict is locked: a book stays -/
theorem book_lock {P : Program} {w : World} {K : PySem.W.Frag} {C : Addr} {H H' : Hp} {d b : Addr} {ks vs : List V} {u : HO} {M : Bk} (lk : LkD P w H d ks vs u) (hd : H d = some u) (k : ∀ c o, c ≠ d → H c = some o → H' c = some o) (h : BookAt K C H b M) : BookAt K C H' b M := by
  have kt : KT H H' := fun c o e f => k c o (lk.ne hd e (fun kvs z => by subst z; exact f) (fun φ z => by subst z; exact f)) e
  obtain ⟨dx, tn, on, vg, vs, vd, e, h1, hn, h2, h3, h4⟩ := h.ex
  exact ⟨dx, tn, on, vg, vs, vd, k _ _ (lk.ne hd e (fun _ z => nomatch z) (fun _ z => nomatch z)) e, k _ _ (lk.ne hd h1 (fun _ z => nomatch z) (fun _ z => nomatch z)) h1, hn, Dt.keepT kt _ (tup_ints _) h2, Dt.keepT kt _ (tup_stacks _) h3, Dt.keepT kt _ (tup_ints _) h4⟩
theorem dct_nil {zs : List Str} {ws : List V} (l : zs.length = ws.length) (h : dct zs ws = []) : zs = [] := by
  have := congrArg List.length h
  rw [dct_len l.symm] at this
  exact List.length_eq_zero_iff.mp this
theorem BadE.lock {P : Program} {w : World} {H H' : Hp} {d : Addr} {ks vs : List V} {u : HO} {M : Bk} {n : Nat} {k v : V} (lk : LkD P w H d ks vs u) (hd : H d = some u) (kp : ∀ c o, c ≠ d → H c = some o → H' c = some o) (ek : ks[n]? = some k) (h : BadE H M k v) : BadE H' M k v := by
  refine h.keep fun c o e q => kp c o (fun z => ?_) e
  rw [z, hd] at e
  cases e
  rcases lk with ⟨zs, ws, rfl, nd, l, rfl, rfl⟩ | ⟨zs, ws, f, v, r, rfl, _⟩
  · rcases q with ⟨_, q⟩ | ⟨_, q⟩ | q
    · cases q
    · cases q
    · rw [dct_nil l (HO.dK.inj q)] at ek
      cases ek
  · rcases q with ⟨_, q⟩ | ⟨_, q⟩ | q <;> cases q
section
variable {P : Program} {w : World} {K : PySem.W.Frag} {mg : Str → Option Value} {base : Heap}
/-! ### may_fall, of any thing -/
def spMayT (P : Program) (w : World) (K : PySem.W.Frag) (C : Addr) : Sp := fun vs H Q _ => ∃ (b : Addr) (M : Bk) (v : V) (o : Option (List (Str × Int))), vs = [.ref b, v] ∧ BookAt K C H b M ∧ M.Ok ∧ Thg P w K H M v o ∧ ∀ H', Same H H' → Q (.bl o.isSome) H'
set_option maxHeartbeats 2000000 in
theorem ok_mayT {f f1 f2 f3 f4 C : Addr} {fd fd1 fd2 fd3 fd4 : FuncData} (F : Fun K "may_fall" "Book.may_fall" sMayF f fd) (T : ClsF K C) (B : Blt mg) (B3 : Blt3 mg)
    (HS : HasM P w K mg base C 2 "has" ["self", "who"] (spHas K C) f1 fd1) (WH : Has P w K mg base 1 "is_whole" ["thing"] (spBool K wholeD) f2 fd2)
    (FL : HasM P w K mg base C 4 "fallen" ["self", "who"] (spNum K C Bk.drops) f3 fd3) (WO : HasM P w K mg base C 5 "whole_of" ["self", "who"] (spCalc K C fun M j _ => wholeN (M.stacks.getD j [])) f4 fd4) :
    FnOk P w K mg base CX0 6 f fd ["self", "more"] (spMayT P w K C) := by
  refine F.ok scMayF (fun vs H Q E h => ?_) (fun cdv A outer s H vs Q E hr h => ?_)
  · obtain ⟨_, _, _, _, rfl, _⟩ := h
    rfl
  · obtain ⟨b, M, v, oo, rfl, hb, ok, th, q⟩ := h
    have hr1 := hr.mono (show 1 ≤ 5 by decide)
    have hr2 := hr.mono (show 2 ≤ 5 by decide)
    have hr4 := hr.mono (show 4 ≤ 5 by decide)
    refine ⟨_, pss_cons (ps_if (pt_not (pt_val (pe_callB call_isiY (by rfl) B.isi (by decide +kernel) (pa_cons (pv 1) (pa_cons (pe_bltn (v := .ty "dict") (by rfl) B3.dict (by decide +kernel) rfl) pa_nil))))) (pss_one (ps_ret pe_bl)) pss_nil)
      (pss_cons (ps_lock (ps_for PassesOwn.never rfl (pi_itemsY (pv 1)) (pg_tup rfl (pgs_cons (pg_name (i := 2) scMayF.nd rfl (.inl rfl)) (pgs_cons (pg_name (i := 3) scMayF.nd rfl (.inl rfl)) pgs_nil)))
        (pss_cons (ps_if (PW.pt (pw_or (pt_not (pt_val (pe_meth (pv 0) T.cl HS.m HS.ok hr2 HS.b .nil pass0 (pa_cons (pv 2) pa_nil)))) (pw_or (pt_not (pt_val (pe_call WH.ok hr1 (by rfl) WH.g WH.kp WH.b .nil pass0 (pa_cons (pv 3) pa_nil))))
          (pw_or1 (pt_cmpR op_lt (pv 3) pe_int (nomark _)))))) (pss_one (ps_ret pe_bl)) pss_nil)
        (pss_one (ps_if (pt_cmpR op_gt (pe_op op_add (pe_meth (pv 0) T.cl FL.m FL.ok hr4 FL.b .nil pass0 (pa_cons (pv 2) pa_nil)) (pv 3)) (pe_meth (pv 0) T.cl WO.m WO.ok hr WO.b .nil pass0 (pa_cons (pv 2) pa_nil)) (nomark _)) (pss_one (ps_ret pe_bl)) pss_nil)))))
      (pss_one (ps_ret pe_bl))), ?_⟩
    have hh : (∃ dd, Dt K H v dd ∧ dictD dd = false ∧ oo = none) ∨ ∃ (d : Addr) (ks vs : List V) (n : Nat), v = .ref d ∧ PreE P w H M d ks vs n ∧ oo.isSome = decide (n = ks.length) := by
      cases th with
      | nod hd nd => exact .inl ⟨_, hd, nd, rfl⟩
      | rgt hd rm => exact .inr ⟨_, _, _, _, rfl, rm.pre hd, by rw [List.length_map]; simp⟩
      | bad pe ln => exact .inr ⟨_, _, _, _, rfl, pe, by rw [decide_eq_false (by omega)]; rfl⟩
    rcases hh with ⟨dd, hd, nd, rfl⟩ | ⟨d, ks, vs, n, ev, pe, eo⟩
    · refine ⟨v, rfl, .inl ⟨v, .ty "dict", _, _, dictD dd, rfl, .ty "dict", hd.ty, kit_dict dd, _, rfl, ?_⟩⟩
      rw [nd]
      exact iteT (q _ (Same.refl _))
    subst ev
    obtain ⟨u, lk, hd⟩ := pe.any
    refine ⟨.ref d, rfl, .inr ⟨d, ks, vs, rfl, ⟨u, lk, hd⟩, _, rfl, iteF ?_⟩⟩
    refine ⟨d, _, hd, lk.mut, fun od => ?_⟩
    have kpL : ∀ c o, c ≠ d → H c = some o → upd H d (.frz od u) c = some o := fun c o n e => by rw [upd_ne n]; exact e
    have hbL := book_lock lk hd kpL hb
    have bdL : ∀ k v, ks[n]? = some k → vs[n]? = some v → BadE (upd H d (.frz od u)) M k v := fun k v e1 e2 => (pe.bd k v e1 e2).lock lk hd kpL e1
    have lkL : LkD P w (upd H d (.frz od u)) d ks vs u := lk.keep fun c xs e => kpL _ _ (lk.ne hd e (fun _ z => nomatch z) (fun _ z => nomatch z)) e
    obtain ⟨dx, tn, on, wg, ws, wd, e, h1, hn, h2, h3, h4⟩ := hbL.ex
    have hdL : upd H d (.frz od u) d = some (.frz od u) := upd_same
    have un : ∀ H', Same (upd H d (.frz od u)) H' → Same H (upd H' d u) := fun H' s' => same_unlock hd s'
    have ll := lk.len
    generalize upd H d (.frz od u) = HL at hbL e h1 h2 h3 h4 hdL un bdL lkL
    refine ⟨.ref d, rfl, d, od, ks, vs, u, rfl, lkL, hdL, fun J hJ => ?_⟩
    refine for_it hJ (fun i σ H' => i ≤ n ∧ ∃ y2 y3, σ = [some (.ref b), some (.ref d), y2, y3] ∧ Same HL H') ⟨Nat.zero_le _, _, _, rfl, Same.refl _⟩ (fun i σ H' _ hP => ?_) (fun i x σ H1' H1 hi hP hY => ?_) (fun σ H' hP => ?_)
    · obtain ⟨_, _, _, _, s1⟩ := hP
      exact s1 _ _ hdL
    · obtain ⟨Tt, x1, x2, rfl, nT, rfl, e1, e2⟩ := hY
      obtain ⟨iln, y2, y3, rfl, s1⟩ := hP
      have e1 : ks[i]? = some x1 := e1
      have e2 : vs[i]? = some x2 := e2
      have s2 := s1.trans (same_upd (o := .tup [x1, x2]) nT)
      have hT : upd H1' Tt (.tup [x1, x2]) Tt = some (.tup [x1, x2]) := upd_same
      generalize upd H1' Tt (.tup [x1, x2]) = H2 at s2 hT
      refine ⟨Tt, [x1, x2], rfl, .inl (.inl hT), rfl, _, _, rfl, _, _, rfl, rfl, ?_⟩
      by_cases c : i < n
      · obtain ⟨j, z, l, fl, m, rfl, rfl, ej, el, ef, m0, mw⟩ := pe.gd i x1 x2 c e1 e2
        have hm : z ∈ M.names := List.mem_of_getElem? ej
        have lz := (nameT_len (ok.nm z hm)).2
        refine ⟨.ref b, rfl, b, dx, _, rfl, s2 _ _ e, bf_no (NoF.mk' (by decide +kernel)), .str z, rfl, b, M, .str z, .str z, rfl, book_same hbL s2, ok.names, .str z, (fun y ey => by cases ey; omega), fun H3 s3 => ⟨_, rfl, ?_⟩⟩
        have eh : hasD M (.str z) = true := decide_eq_true hm
        rw [eh]
        refine iteF ⟨.int m, rfl, .int m, .int m, rfl, .int m, (fun y ey => by cases ey), fun H4 s4 => ⟨_, rfl, iteF ⟨.int m, rfl, _, _, rfl, rfl, _, rfl, ?_⟩⟩⟩
        rw [show decide (m < 0) = false from decide_eq_false (by omega)]
        have s24 := s2.trans (s3.trans s4)
        refine iteF ⟨.ref b, rfl, b, dx, _, rfl, s24 _ _ e, bf_no (NoF.mk' (by decide +kernel)), .str z, rfl, b, M, z, j, fl, rfl, book_same hbL s24, ok.names, ej, ef, fun H5 s5 => ⟨.int m, rfl, fl, m, rfl, rfl, ?_⟩⟩
        have s25 := s24.trans s5
        refine ⟨.ref b, rfl, b, dx, _, rfl, s25 _ _ e, bf_no (NoF.mk' (by decide +kernel)), .str z, rfl, b, M, z, j, rfl, book_same hbL s25, ok, ej, fun H6 s6 => ⟨_, _, rfl, rfl, _, rfl, ?_⟩⟩
        show if decide (wholeN (M.stacks.getD j []) < fl + m) = true then _ else _
        rw [getD_of el, show decide (wholeN l < fl + m) = false from decide_eq_false (by omega)]
        exact iteF ⟨c, _, _, rfl, s25.trans s6⟩
      · obtain rfl : i = n := by omega
        have out : ∀ H', Same HL H' → H' d = some (.frz od u) ∧ Q (.bl false) (upd H' d u) := fun H' s' => ⟨s' _ _ hdL, by
          have := q _ (un _ s')
          rw [eo, decide_eq_false (by omega)] at this
          exact this⟩
        rcases bdL x1 x2 e1 e2 with ⟨e', fe, sd, he⟩ | ⟨j, z, l, fl, rfl, ej, el, ef, h⟩
        · have fe2 : FlV H2 x1 e' := fe.keep fun c o ec _ => s2 c o ec
          refine ⟨.ref b, rfl, b, dx, _, rfl, s2 _ _ e, bf_no (NoF.mk' (by decide +kernel)), x1, rfl, b, M, x1, e', rfl, book_same hbL s2, ok.names, fe2.dt, sd, fun H3 s3 => ⟨_, rfl, ?_⟩⟩
          rw [he]
          exact iteT (out _ (s2.trans s3))
        · have hm : z ∈ M.names := List.mem_of_getElem? ej
          have lz := (nameT_len (ok.nm z hm)).2
          refine ⟨.ref b, rfl, b, dx, _, rfl, s2 _ _ e, bf_no (NoF.mk' (by decide +kernel)), .str z, rfl, b, M, .str z, .str z, rfl, book_same hbL s2, ok.names, .str z, (fun y ey => by cases ey; omega), fun H3 s3 => ⟨_, rfl, ?_⟩⟩
          have eh : hasD M (.str z) = true := decide_eq_true hm
          rw [eh]
          rcases h with ⟨e', fe, sd, we⟩ | ⟨m, rfl, hm'⟩
          · have fe3 : FlY H3 x2 e' := fe.keep fun c o ec _ => s3 _ _ (s2 c o ec)
            refine iteF ⟨x2, rfl, x2, e', rfl, fe3.dt, sd, fun H4 s4 => ⟨_, rfl, ?_⟩⟩
            rw [we]
            exact iteT (out _ (s2.trans (s3.trans s4)))
          · refine iteF ⟨.int m, rfl, .int m, .int m, rfl, .int m, (fun y ey => by cases ey), fun H4 s4 => ⟨_, rfl, iteF ⟨.int m, rfl, _, _, rfl, rfl, _, rfl, ?_⟩⟩⟩
            have s24 := s2.trans (s3.trans s4)
            by_cases m0 : m < 0
            · rw [decide_eq_true m0]
              exact iteT (out _ s24)
            · rw [decide_eq_false m0]
              refine iteF ⟨.ref b, rfl, b, dx, _, rfl, s24 _ _ e, bf_no (NoF.mk' (by decide +kernel)), .str z, rfl, b, M, z, j, fl, rfl, book_same hbL s24, ok.names, ej, ef, fun H5 s5 => ⟨.int m, rfl, fl, m, rfl, rfl, ?_⟩⟩
              have s25 := s24.trans s5
              refine ⟨.ref b, rfl, b, dx, _, rfl, s25 _ _ e, bf_no (NoF.mk' (by decide +kernel)), .str z, rfl, b, M, z, j, rfl, book_same hbL s25, ok, ej, fun H6 s6 => ⟨_, _, rfl, rfl, _, rfl, ?_⟩⟩
              show if decide (wholeN (M.stacks.getD j []) < fl + m) = true then _ else _
              rw [getD_of el, show decide (wholeN l < fl + m) = true from decide_eq_true (by omega)]
              exact iteT (out _ (s25.trans s6))
    · obtain ⟨iln, _, _, rfl, s1⟩ := hP
      refine ⟨s1 _ _ hdL, ?_⟩
      have := q _ (un _ s1)
      rw [eo, decide_eq_true (by have := pe.nn; omega)] at this
      exact this
end
end Rc

namespace Rc
open PySem PySem.Spec PyProof.Rows L2 RZ
/-! ### Short -/
abbrev sHV : Stmt := inClass (topS 8) 0
theorem txHV : EX.Txt sHV ["who"] :=
  ⟨by simp, by decide, rfl, rfl, rfl, by decide +kernel, rfl, rfl, rfl, fun f hf => by
      obtain rfl := List.mem_singleton.mp hf
      exact ⟨rfl, by decide, by decide⟩, by decide, ⟨_, rfl, rfl⟩,
    fun _ _ _ _ _ _ _ _ vs hl => match vs, hl with | [v], _ => rfl, ⟨_, _, _, _, _, _, _, _, rfl, ⟨_, fun _ => rfl⟩, .cons .nil⟩⟩
abbrev ClsHV (P : Program) (K : PySem.W.Frag) (mg : Str → Option Value) (C : Addr) : Prop :=
  EX.Cx' P K mg "Short" sHV ["who"] "ArithmeticError" "ArithmeticError.__new__" "ArithmeticError.__init__" [.type "ArithmeticError", .type "Exception", .type "BaseException", .type "object"] C
/-- the first in order whose cash would be below 0 -/
def ShortM (M : Bk) (ps : List (Str × Int)) (z : Str) : Prop := ∃ i : Nat, M.names[i]? = some z ∧ cashM (fallM M ps) i z < 0 ∧ ∀ (j : Nat) (y : Str), j < i → M.names[j]? = some y → 0 ≤ cashM (fallM M ps) j y
section
variable {P : Program} {w : World} {K : PySem.W.Frag} {mg : Str → Option Value} {base : Heap}
/-! ### let_fall -/
def spLetT (K : PySem.W.Frag) (C : Addr) : Sp := fun vs H Q _ => ∃ (b d : Addr) (M : Bk) (ps : List (Str × Int)), vs = [.ref b, .ref d] ∧ BookAt K C H b M ∧ M.Ok ∧ H d = some (.dK (moreK ps)) ∧ RightM M ps ∧ (∀ (j : Nat) (z : Str), M.names[j]? = some z → 0 ≤ cashM (fallM M ps) j z) ∧
  ∀ b' H', Same H H' → H b' = none → BookAt K C H' b' (fallM M ps) → Q (.ref b') H'
theorem ok_letT {f f1 f2 f3 f4 C : Addr} {fd fd1 fd2 fd3 fd4 : FuncData} (F : Fun K "let_fall" "Book.let_fall" sLetF f fd) (T : ClsF K C) (B3 : Blt3 mg)
    (MF : HasM P w K mg base C 6 "may_fall" ["self", "more"] (spMayT P w K C) f1 fd1) (FL : HasM P w K mg base C 4 "fallen" ["self", "who"] (spNum K C Bk.drops) f2 fd2)
    (WT : HasM P w K mg base C 5 "with_these" ["self", "gifts", "stacks", "drops"] (spWith K C) f3 fd3) (CS : HasM P w K mg base C 5 "cash" ["self", "who"] (spCalc K C cashM) f4 fd4) :
    FnOk P w K mg base CX0 7 f fd ["self", "more"] (spLetT K C) := by
  refine F.ok scLetF (fun vs H Q E h => ?_) (fun cdv A outer s H vs Q E hr h => ?_)
  · obtain ⟨_, _, _, _, rfl, _⟩ := h
    rfl
  · obtain ⟨b, d, M, ps, rfl, hb, ok, hd, rm, cs, q⟩ := h
    have hu := hu_of hr
    have hr4 := hr.mono (show 4 ≤ 6 by decide)
    have hr5 := hr.mono (show 5 ≤ 6 by decide)
    refine ⟨_, pss_cons (ps_if (pt_not (pt_val (pe_meth (pv 0) T.cl MF.m MF.ok hr MF.b .nil pass0 (pa_cons (pv 1) pa_nil)))) pss_never pss_nil)
      (pss_cons (ps_set (i := 3) scLetF.nd rfl (.inl rfl) (pe_callTy call_tupD (by rfl) B3.tuple (by decide +kernel) (pa_cons
          (pe_lc (own := [("who", 2)]) (g := gName 2) (tt := tYes) rfl scLetF.nd (pi_tup (pe_fld (pv 0) rfl)) (blkOk_by (N := nLetF) (sc := defScope sLetF) (own := [("who", 2)]) (by decide +kernel))
            (fun _ _ _ _ _ => pg_name (i := 2) scLetF.nd rfl (.inl rfl) (hf := .inr rfl)) (fun _ _ _ _ _ => pts_nil)
            (fun _ _ _ _ _ => pe_op op_add (pe_meth (pv 0) T.cl FL.m FL.ok hr4 FL.b .nil pass0 (pa_cons (pv 2) pa_nil)) (pe_dget2 hu (pv 1) (pv 2) pe_int ⟨rfl, rfl, rfl, rfl⟩))) pa_nil)))
      (pss_cons (ps_set (i := 4) scLetF.nd rfl (.inl rfl) (pe_meth (pv 0) T.cl WT.m WT.ok hr5 WT.b .nil pass0 (pa_cons (pe_fld (pv 0) rfl) (pa_cons (pe_fld (pv 0) rfl) (pa_cons (pv 3) pa_nil)))))
      (pss_cons (ps_for PassesOwn.never rfl (pi_tup (pe_fld (pv 0) rfl)) (pg_name (i := 2) scLetF.nd rfl (.inl rfl))
        (pss_one (ps_if (pt_cmpR op_lt (pe_meth (pv 4) T.cl CS.m CS.ok hr5 CS.b .nil pass0 (pa_cons (pv 2) pa_nil)) pe_int (nomark _)) pss_never pss_nil)))
      (pss_one (ps_ret (pv 4)))))), ?_⟩
    obtain ⟨dx, tn, on, wg, ws, wd, e, h1, hn, h2, h3, h4⟩ := hb.ex
    refine ⟨.ref b, rfl, b, dx, _, rfl, e, bf_no (NoF.mk' (by decide +kernel)), .ref d, rfl, b, M, .ref d, some ps, rfl, hb, ok, .rgt hd rm, fun H1 s1 => ⟨_, rfl, iteF ?_⟩⟩
    have qn : SqT K H tn (M.names.map V.str) := .inl (.inr ⟨on, h1⟩)
    refine ⟨.ref b, rfl, b, C, dx, _, _, rfl, s1 _ _ e, T.cl, T.n1, bf_names, tn, rfl, ⟨_, same_seqT s1 qn⟩, fun D nD => ?_⟩
    have lnm : (M.names.map V.str).length = M.names.length := List.length_map ..
    have lzp : (M.names.zip M.drops).length = M.names.length := by rw [List.length_zip, ok.ld, Nat.min_self]
    have n12 := ok.n1
    refine lc_it (walk_tup (K := K) (a := tn) (xs := M.names.map V.str)) (fun i H' => Same H1 H' ∧ H' D = some (.lst ((((M.names.zip M.drops).take i).map fun p => p.2 + moreAt ps p.1).map V.int))) ⟨same_upd nD, upd_same⟩ (fun i H' _ hP => same_seqT hP.1 (same_seqT s1 qn))
      (fun i x H2' H2 hi hP hY => ?_) (fun H2 hP => ?_)
    · obtain ⟨rfl, hx⟩ := hY
      rw [lnm] at hi
      have hid : i < M.drops.length := by rw [ok.ld]; exact hi
      have ex : x = .str M.names[i] := by
        rw [List.getElem?_map, List.getElem?_eq_getElem hi] at hx
        exact (Option.some.inj hx).symm
      subst ex
      have s12 := s1.trans hP.1
      refine ⟨rfl, .ref b, rfl, b, dx, _, rfl, s12 _ _ e, bf_no (NoF.mk' (by decide +kernel)), _, rfl, b, M, _, i, _, rfl, book_same hb s12, ok.names, List.getElem?_eq_getElem hi, List.getElem?_eq_getElem hid, fun H3 s3 => ?_⟩
      have s13 := s12.trans s3
      refine ⟨.ref d, rfl, d, rfl, .inl ⟨_, .inl (s13 _ _ hd)⟩, _, rfl, _, DGet.k (k := Sum.inr M.names[i]) (s13 _ _ hd), ?_⟩
      rw [more_val]
      refine ⟨_, _, rfl, rfl, _, s3 _ _ hP.2, ?_, fun c o ec => ?_, ?_⟩
      · rw [List.length_map, List.length_map, List.length_take]
        exact small1000 (by omega)
      · rw [upd_ne (ne_of_none ec nD)]
        exact s3 _ _ (hP.1 c o ec)
      · have tk : (M.names.zip M.drops).take (i + 1) = (M.names.zip M.drops).take i ++ [(M.names[i], M.drops[i])] := by
          rw [List.take_add_one, List.getElem?_zip_eq_some (z := (M.names[i], M.drops[i])) |>.mpr ⟨List.getElem?_eq_getElem hi, List.getElem?_eq_getElem hid⟩]
          rfl
        rw [upd_same, tk, List.map_append, List.map_append]
        rfl
    · obtain ⟨s2, hD⟩ := hP
      rw [lnm, List.take_of_length_le (by rw [lzp]; exact Nat.le_refl _)] at hD
      have ed : ((M.names.zip M.drops).map fun p => p.2 + moreAt ps p.1) = (fallM M ps).drops := rfl
      rw [ed] at hD
      refine ⟨.ref D, ((fallM M ps).drops).map .int, rfl, .lst (.inl (.inl hD)) (DtAll.ints _), fun t H3 s3 dt => ?_⟩
      have s13 := s1.trans (s2.trans s3)
      refine ⟨.ref b, rfl, b, dx, _, rfl, s13 _ _ e, bf_no (NoF.mk' (by decide +kernel)), .ref b, rfl, b, C, dx, _, _, rfl, s13 _ _ e, T.cl, T.n2, bf_gifts, .ref b, rfl, b, C, dx, _, _, rfl, s13 _ _ e, T.cl, T.n3, bf_stacks, t, rfl,
        b, M, _, _, _, M.gifts, M.stacks, (fallM M ps).drops, rfl, book_same hb s13, ok.names, Dt.same s13 _ h2, Dt.same s13 _ h3, dt, fun b' H4 s4 nb hb' => ?_⟩
      have s14 := s13.trans s4
      have hb4 : BookAt K C H4 b' (fallM M ps) := hb'
      refine ⟨.ref b, rfl, b, C, dx, _, _, rfl, s14 _ _ e, T.cl, T.n1, bf_names, tn, rfl, ⟨_, same_seqT s14 qn⟩, ?_⟩
      obtain ⟨dx2, tn2, on2, vg2, vs2, vd2, e2, k1, kn, k2, k3, k4⟩ := hb4.ex
      refine for_it (walk_tup (K := K) (a := tn) (xs := M.names.map V.str)) (fun i σ H' => ∃ y2, σ = [some (.ref b), some (.ref d), y2, some t, some (.ref b')] ∧ Same H4 H') ⟨_, rfl, Same.refl _⟩ (fun i σ H' _ hP => ?_) (fun i x σ H5' H5 hi hP hY => ?_) (fun σ H' hP => ?_)
      · obtain ⟨_, _, s5⟩ := hP
        exact same_seqT s5 (same_seqT s14 qn)
      · obtain ⟨rfl, hx⟩ := hY
        obtain ⟨y2, rfl, s5⟩ := hP
        rw [lnm] at hi
        have ex : x = .str M.names[i] := by
          rw [List.getElem?_map, List.getElem?_eq_getElem hi] at hx
          exact (Option.some.inj hx).symm
        subst ex
        have ei : M.names[i]? = some M.names[i] := List.getElem?_eq_getElem hi
        refine ⟨.ref b', rfl, b', dx2, _, rfl, s5 _ _ e2, bf_no (NoF.mk' (by decide +kernel)), _, rfl, b', fallM M ps, _, i, rfl, book_same hb4 s5, fall_ok ok ps, ei, fun H6 s6 => ⟨_, _, rfl, rfl, _, rfl, ?_⟩⟩
        have c0 := cs i _ ei
        rw [show decide (cashM (fallM M ps) i M.names[i] < 0) = false from decide_eq_false (by omega)]
        exact iteF ⟨_, rfl, s5.trans s6⟩
      · obtain ⟨y2, rfl, s5⟩ := hP
        exact ⟨.ref b', rfl, q b' H' (s14.trans s5) (s13.free nb) (book_same hb4 s5)⟩
def spLetX (P : Program) (w : World) (K : PySem.W.Frag) (C D S : Addr) : Sp := fun vs H _ E => ∃ (b : Addr) (M : Bk) (v : V), vs = [.ref b, v] ∧ BookAt K C H b M ∧ M.Ok ∧
  ((Thg P w K H M v none ∧ ∀ H', Same H H' → E (.ref D) none H') ∨ ∃ (d : Addr) (ps : List (Str × Int)) (z : Str), v = .ref d ∧ H d = some (.dK (moreK ps)) ∧ RightM M ps ∧ ShortM M ps z ∧ ∀ H' dd, Same H H' → H' dd = some (.xd [("who", .str z)]) → E (.ref S) (some dd) H')
set_option maxHeartbeats 1000000 in
theorem no_letT {f f1 f2 f3 f4 C : Addr} {fd fd1 fd2 fd3 fd4 : FuncData} {D CB S : Addr} (F : Fun K "let_fall" "Book.let_fall" sLetF f fd) (T : ClsF K C) (B3 : Blt3 mg) (PV : ClsP K mg "NoVector" D CB) (XS : ClsHV P K mg S)
    (MF : HasM P w K mg base C 6 "may_fall" ["self", "more"] (spMayT P w K C) f1 fd1) (FL : HasM P w K mg base C 4 "fallen" ["self", "who"] (spNum K C Bk.drops) f2 fd2)
    (WT : HasM P w K mg base C 5 "with_these" ["self", "gifts", "stacks", "drops"] (spWith K C) f3 fd3) (CS : HasM P w K mg base C 5 "cash" ["self", "who"] (spCalc K C cashM) f4 fd4) :
    FnOk P w K mg base (L2N.CX P w) 7 f fd ["self", "more"] (spLetX P w K C D S) := by
  refine okXN F scLetF (fun vs H Q E h => ?_) (fun cdv A outer s H vs Q E hr h => ?_)
  · obtain ⟨_, _, _, rfl, _⟩ := h
    rfl
  · obtain ⟨b, M, v, rfl, hb, ok, h⟩ := h
    have hu := hu_of hr
    have hr1 := hr.mono (show 1 ≤ 6 by decide)
    have hr4 := hr.mono (show 4 ≤ 6 by decide)
    have hr5 := hr.mono (show 5 ≤ 6 by decide)
    have hr0 := hr
    rcases h with ⟨th, q⟩ | ⟨d, ps, z0, rfl, hd, rm, ⟨i0, ei0, lt0, fst0⟩, q⟩
    · obtain ⟨dx, tn, on, wg, ws, wd, e, h1, hn, h2, h3, h4⟩ := hb.ex
      refine ⟨_, pss_cons (ps_if (pt_not (pt_val (pe_meth (pv 0) T.cl MF.m MF.ok hr MF.b .nil pass0 (pa_cons (pv 1) pa_nil)))) (pss_one (L2N.ps_raise rfl (L2N.takes_of rfl rfl rfl rfl) (L2N.pmk_own PySem.F.excBase_ValueError PV.xP PV.gP PV.kP (raises_own PV.bP PV.tP) rfl))) pss_nil) pss_never, ?_⟩
      exact ⟨.ref b, rfl, b, dx, _, rfl, e, bf_no (NoF.mk' (by decide +kernel)), v, rfl, b, M, v, none, rfl, hb, ok, th, fun H1 s1 => ⟨_, rfl, iteT (q H1 s1)⟩⟩
    refine ⟨_, pss_cons (ps_if (pt_not (pt_val (pe_meth (pv 0) T.cl MF.m MF.ok hr MF.b .nil pass0 (pa_cons (pv 1) pa_nil)))) pss_never pss_nil)
      (pss_cons (ps_set (i := 3) scLetF.nd rfl (.inl rfl) (pe_callTy call_tupD (by rfl) B3.tuple (by decide +kernel) (pa_cons
          (pe_lc (own := [("who", 2)]) (g := gName 2) (tt := tYes) rfl scLetF.nd (pi_tup (pe_fld (pv 0) rfl)) (blkOk_by (N := nLetF) (sc := defScope sLetF) (own := [("who", 2)]) (by decide +kernel))
            (fun _ _ _ _ _ => pg_name (i := 2) scLetF.nd rfl (.inl rfl) (hf := .inr rfl)) (fun _ _ _ _ _ => pts_nil)
            (fun _ _ _ _ _ => pe_op op_add (pe_meth (pv 0) T.cl FL.m FL.ok hr4 FL.b .nil pass0 (pa_cons (pv 2) pa_nil)) (pe_dget2 hu (pv 1) (pv 2) pe_int ⟨rfl, rfl, rfl, rfl⟩))) pa_nil)))
      (pss_cons (ps_set (i := 4) scLetF.nd rfl (.inl rfl) (pe_meth (pv 0) T.cl WT.m WT.ok hr5 WT.b .nil pass0 (pa_cons (pe_fld (pv 0) rfl) (pa_cons (pe_fld (pv 0) rfl) (pa_cons (pv 3) pa_nil)))))
      (pss_cons (ps_for (passes_of rfl) rfl (pi_tup (pe_fld (pv 0) rfl)) (pg_name (i := 2) scLetF.nd rfl (.inl rfl))
        (pss_one (ps_if (pt_cmpR op_lt (pe_meth (pv 4) T.cl CS.m CS.ok hr5 CS.b .nil pass0 (pa_cons (pv 2) pa_nil)) pe_int (nomark _)) (pss_one (L2N.ps_raise rfl (L2N.takes_of rfl rfl rfl rfl) (pmkN_ex XS txHV EX.base_Arith hr1 (pa_cons (pv 2) pa_nil) (by rfl)))) pss_nil)))
      pss_never))), ?_⟩
    obtain ⟨dx, tn, on, wg, ws, wd, e, h1, hn, h2, h3, h4⟩ := hb.ex
    refine ⟨.ref b, rfl, b, dx, _, rfl, e, bf_no (NoF.mk' (by decide +kernel)), .ref d, rfl, b, M, .ref d, some ps, rfl, hb, ok, .rgt hd rm, fun H1 s1 => ⟨_, rfl, iteF ?_⟩⟩
    have qn : SqT K H tn (M.names.map V.str) := .inl (.inr ⟨on, h1⟩)
    refine ⟨.ref b, rfl, b, C, dx, _, _, rfl, s1 _ _ e, T.cl, T.n1, bf_names, tn, rfl, ⟨_, same_seqT s1 qn⟩, fun D nD => ?_⟩
    have lnm : (M.names.map V.str).length = M.names.length := List.length_map ..
    have lzp : (M.names.zip M.drops).length = M.names.length := by rw [List.length_zip, ok.ld, Nat.min_self]
    have n12 := ok.n1
    refine lc_it (walk_tup (K := K) (a := tn) (xs := M.names.map V.str)) (fun i H' => Same H1 H' ∧ H' D = some (.lst ((((M.names.zip M.drops).take i).map fun p => p.2 + moreAt ps p.1).map V.int))) ⟨same_upd nD, upd_same⟩ (fun i H' _ hP => same_seqT hP.1 (same_seqT s1 qn))
      (fun i x H2' H2 hi hP hY => ?_) (fun H2 hP => ?_)
    · obtain ⟨rfl, hx⟩ := hY
      rw [lnm] at hi
      have hid : i < M.drops.length := by rw [ok.ld]; exact hi
      have ex : x = .str M.names[i] := by
        rw [List.getElem?_map, List.getElem?_eq_getElem hi] at hx
        exact (Option.some.inj hx).symm
      subst ex
      have s12 := s1.trans hP.1
      refine ⟨rfl, .ref b, rfl, b, dx, _, rfl, s12 _ _ e, bf_no (NoF.mk' (by decide +kernel)), _, rfl, b, M, _, i, _, rfl, book_same hb s12, ok.names, List.getElem?_eq_getElem hi, List.getElem?_eq_getElem hid, fun H3 s3 => ?_⟩
      have s13 := s12.trans s3
      refine ⟨.ref d, rfl, d, rfl, .inl ⟨_, .inl (s13 _ _ hd)⟩, _, rfl, _, DGet.k (k := Sum.inr M.names[i]) (s13 _ _ hd), ?_⟩
      rw [more_val]
      refine ⟨_, _, rfl, rfl, _, s3 _ _ hP.2, ?_, fun c o ec => ?_, ?_⟩
      · rw [List.length_map, List.length_map, List.length_take]
        exact small1000 (by omega)
      · rw [upd_ne (ne_of_none ec nD)]
        exact s3 _ _ (hP.1 c o ec)
      · have tk : (M.names.zip M.drops).take (i + 1) = (M.names.zip M.drops).take i ++ [(M.names[i], M.drops[i])] := by
          rw [List.take_add_one, List.getElem?_zip_eq_some (z := (M.names[i], M.drops[i])) |>.mpr ⟨List.getElem?_eq_getElem hi, List.getElem?_eq_getElem hid⟩]
          rfl
        rw [upd_same, tk, List.map_append, List.map_append]
        rfl
    · obtain ⟨s2, hD⟩ := hP
      rw [lnm, List.take_of_length_le (by rw [lzp]; exact Nat.le_refl _)] at hD
      have ed : ((M.names.zip M.drops).map fun p => p.2 + moreAt ps p.1) = (fallM M ps).drops := rfl
      rw [ed] at hD
      refine ⟨.ref D, ((fallM M ps).drops).map .int, rfl, .lst (.inl (.inl hD)) (DtAll.ints _), fun t H3 s3 dt => ?_⟩
      have s13 := s1.trans (s2.trans s3)
      refine ⟨.ref b, rfl, b, dx, _, rfl, s13 _ _ e, bf_no (NoF.mk' (by decide +kernel)), .ref b, rfl, b, C, dx, _, _, rfl, s13 _ _ e, T.cl, T.n2, bf_gifts, .ref b, rfl, b, C, dx, _, _, rfl, s13 _ _ e, T.cl, T.n3, bf_stacks, t, rfl,
        b, M, _, _, _, M.gifts, M.stacks, (fallM M ps).drops, rfl, book_same hb s13, ok.names, Dt.same s13 _ h2, Dt.same s13 _ h3, dt, fun b' H4 s4 nb hb' => ?_⟩
      have s14 := s13.trans s4
      have hb4 : BookAt K C H4 b' (fallM M ps) := hb'
      refine ⟨.ref b, rfl, b, C, dx, _, _, rfl, s14 _ _ e, T.cl, T.n1, bf_names, tn, rfl, ⟨_, same_seqT s14 qn⟩, ?_⟩
      obtain ⟨dx2, tn2, on2, vg2, vs2, vd2, e2, k1, kn, k2, k3, k4⟩ := hb4.ex
      refine for_it (walk_tup (K := K) (a := tn) (xs := M.names.map V.str)) (fun i σ H' => i ≤ i0 ∧ ∃ y2, σ = [some (.ref b), some (.ref d), y2, some t, some (.ref b')] ∧ Same H4 H') ⟨Nat.zero_le _, _, rfl, Same.refl _⟩ (fun i σ H' _ hP => ?_) (fun i x σ H5' H5 hi hP hY => ?_) (fun σ H' hP => ?_)
      · obtain ⟨_, _, _, s5⟩ := hP
        exact same_seqT s5 (same_seqT s14 qn)
      · obtain ⟨rfl, hx⟩ := hY
        obtain ⟨ile, y2, rfl, s5⟩ := hP
        rw [lnm] at hi
        have ex : x = .str M.names[i] := by
          rw [List.getElem?_map, List.getElem?_eq_getElem hi] at hx
          exact (Option.some.inj hx).symm
        subst ex
        have ei : M.names[i]? = some M.names[i] := List.getElem?_eq_getElem hi
        refine ⟨.ref b', rfl, b', dx2, _, rfl, s5 _ _ e2, bf_no (NoF.mk' (by decide +kernel)), _, rfl, b', fallM M ps, _, i, rfl, book_same hb4 s5, fall_ok ok ps, ei, fun H6 s6 => ⟨_, _, rfl, rfl, _, rfl, ?_⟩⟩
        by_cases c : i = i0
        · subst c
          rw [ei] at ei0
          cases ei0
          rw [decide_eq_true lt0]
          exact iteT ⟨_, rfl, rfl, fun dd nd => q _ dd ((s14.trans (s5.trans s6)).trans (same_upd nd)) upd_same⟩
        · have c0 := fst0 i _ (by omega) ei
          rw [show decide (cashM (fallM M ps) i M.names[i] < 0) = false from decide_eq_false (by omega)]
          exact iteF ⟨by omega, _, rfl, s5.trans s6⟩
      · obtain ⟨ile, _⟩ := hP
        have := (List.getElem?_eq_some_iff.mp ei0).1
        rw [lnm] at ile
        omega
end
end Rc

namespace Rc
open PySem PySem.Spec PyProof.Rows L2 RZ
/-! ### deeds at a book of which some has fallen -/
theorem gone_snoc {x : Str × Int} (hx : 1 ≤ x.2) : ∀ {l : List (Str × Int)} {f : Int}, (∀ n ∈ l, 1 ≤ n.2) → 0 ≤ f → f ≤ wholeN l → goneN (l ++ [x]) f = goneN l f
  | [], f, _, f0, fw => by
    have e : wholeN [] = 0 := rfl
    rw [e] at fw
    have e0 : f = 0 := by omega
    subst e0
    obtain ⟨t, a⟩ := x
    have ha : 1 ≤ a := hx
    show goneN [(t, a)] 0 = goneN [] 0
    rw [goneN_cons, goneN_nil, goneN_nil]
    have : partOf a 0 = 0 := by
      unfold partOf
      rw [if_pos (by omega)]
    rw [this, if_neg (by omega)]
    rfl
  | (t, a) :: r, f, h, f0, fw => by
    have h1 : 1 ≤ a := h _ List.mem_cons_self
    have hr : ∀ n ∈ r, 1 ≤ n.2 := fun m hm => h m (List.mem_cons_of_mem _ hm)
    have w0 := wholeN_nonneg hr
    rw [wholeN_cons] at fw
    have fw' : f ≤ a + wholeN r := fw
    show goneN ((t, a) :: (r ++ [x])) f = _
    rw [goneN_cons, goneN_cons]
    have hp : 0 ≤ f - partOf a f ∧ f - partOf a f ≤ wholeN r := by
      unfold partOf
      split <;> omega
    rw [gone_snoc hx hr hp.1 hp.2]
theorem whole_snoc (l : List (Str × Int)) (x : Str × Int) : wholeN (l ++ [x]) = wholeN l + x.2 := by
  unfold wholeN
  rw [List.map_append, List.sum_append]
  simp
structure Bd (D : Md) (k : Nat) : Prop where
  gv : ∀ g ∈ D.given, 0 ≤ g ∧ g ≤ (k : Int) * 10 ^ 58
  my : (D.notes.map List.length).sum ≤ k
theorem Gd.bd {zs : List Str} {D : Md} {k : Nat} (h : Gd zs D k) : Bd D k := ⟨h.gv, h.my⟩
theorem deed_ok {zs : List Str} {D : Md} {k : Nat} {d : Deed} (g : Gs zs D) (gb : Gb D) (bd : Bd D k) (hk : k + 1 ≤ 60) (od : d.Ok zs) : Gs zs (doneD zs D d) ∧ Gb (doneD zs D d) ∧ Bd (doneD zs D d) (k + 1) := by
  have mono : ∀ g ∈ D.given, 0 ≤ g ∧ g ≤ ((k + 1 : Nat) : Int) * 10 ^ 58 := fun g hg => by
    obtain ⟨a, b⟩ := bd.gv g hg
    refine ⟨a, Int.le_trans b (Int.mul_le_mul_of_nonneg_right (by omega) (by decide))⟩
  have le100 : ∀ {x : Int}, x ≤ ((k + 1 : Nat) : Int) * 10 ^ 58 → x ≤ 100 * 10 ^ 58 := fun {x} hx => Int.le_trans hx (Int.mul_le_mul_of_nonneg_right (by omega) (by decide))
  cases d with
  | give z n =>
    obtain ⟨hz, n1, n2⟩ := od
    have hj : zs.idxOf z < D.given.length := by
      rw [g.lg]
      exact List.idxOf_lt_length_of_mem hz
    have b' : Bd (doneD zs D (.give z n)) (k + 1) := by
      refine ⟨fun x hx => ?_, Nat.le_succ_of_le bd.my⟩
      rcases List.mem_or_eq_of_mem_set hx with hx | hx
      · exact mono x hx
      · obtain ⟨a, b⟩ := bd.gv (D.given.getD (zs.idxOf z) 0) (by
          rw [List.getD_eq_getElem?_getD, List.getElem?_eq_getElem hj]
          exact List.getElem_mem hj)
        have e : ((k + 1 : Nat) : Int) * 10 ^ 58 = (k : Int) * 10 ^ 58 + 10 ^ 58 := by
          rw [Int.natCast_add, Int.add_mul]
          rfl
        rw [hx, e]
        omega
    refine ⟨⟨g.nz, g.nt, g.fl, g.my, by show (D.given.set _ _).length = _; rw [List.length_set]; exact g.lg, g.lf, g.ln, fun j y ej => ?_⟩, ⟨fun x hx => ⟨(b'.gv x hx).1, le100 (b'.gv x hx).2⟩, gb.fw⟩, b'⟩
    have c0 := g.cs j y ej
    rw [cash_eq] at c0 ⊢
    unfold cashD at c0 ⊢
    show 0 ≤ (D.given.set (zs.idxOf z) (D.given.getD (zs.idxOf z) 0 + n)).getD j 0 - D.fallen.getD j 0 + sumsD D y
    by_cases e : j = zs.idxOf z
    · subst e
      have : (D.given.set (zs.idxOf z) (D.given.getD (zs.idxOf z) 0 + n)).getD (zs.idxOf z) 0 = D.given.getD (zs.idxOf z) 0 + n := getD_of (List.getElem?_set_self hj)
      rw [this]
      omega
    · have : (D.given.set (zs.idxOf z) (D.given.getD (zs.idxOf z) 0 + n)).getD j 0 = D.given.getD j 0 := by
        rw [List.getD_eq_getElem?_getD, List.getElem?_set_ne (fun z => e z.symm)]
        exact (List.getD_eq_getElem?_getD).symm
      rw [this]
      exact c0
  | put z y n =>
    obtain ⟨hz, hy, n1, n2⟩ := od
    have hj : zs.idxOf z < D.notes.length := by
      rw [g.ln]
      exact List.idxOf_lt_length_of_mem hz
    have hjf : zs.idxOf z < D.fallen.length := by
      rw [g.lf]
      exact List.idxOf_lt_length_of_mem hz
    have el := List.getElem?_eq_getElem hj
    have ef := List.getElem?_eq_getElem hjf
    have e0 : D.notes.getD (zs.idxOf z) [] = D.notes[zs.idxOf z] := getD_of el
    have b' : Bd (doneD zs D (.put z y n)) (k + 1) := by
      refine ⟨mono, ?_⟩
      have := sum_set D.notes (zs.idxOf z) (D.notes.getD (zs.idxOf z) [] ++ [(y, n)]) hj
      rw [List.length_append] at this
      have e1 : [(y, n)].length = 1 := rfl
      have := bd.my
      show ((D.notes.set _ _).map List.length).sum ≤ k + 1
      omega
    have hn1 : ∀ x ∈ D.notes[zs.idxOf z], 1 ≤ x.2 := fun x hx => (g.nt _ (List.getElem_mem hj) x hx).2.1
    have f0 := g.fl _ (List.getElem_mem hjf)
    have fw := gb.fw _ _ _ el ef
    have gs : goneN (D.notes.getD (zs.idxOf z) [] ++ [(y, n)]) D.fallen[zs.idxOf z] = goneN D.notes[zs.idxOf z] D.fallen[zs.idxOf z] := by
      rw [e0]
      exact gone_snoc n1 hn1 f0 fw
    have sm : ∀ q, sumsD (doneD zs D (.put z y n)) q = sumsD D q := fun q => by
      unfold sumsD
      congr 1
      have hl : (D.notes.set (zs.idxOf z) (D.notes.getD (zs.idxOf z) [] ++ [(y, n)])).length = D.notes.length := List.length_set
      refine List.ext_getElem (by show ((List.zip (D.notes.set _ _) D.fallen).map _).length = _; simp) fun i h1 h2 => ?_
      simp only [List.length_map, List.length_zip] at h2
      show (((D.notes.set (zs.idxOf z) (D.notes.getD (zs.idxOf z) [] ++ [(y, n)])).zip D.fallen).map fun p => sumTo q (goneN p.1 p.2))[i]'(by simp; omega) = _
      simp only [List.getElem_map, List.getElem_zip]
      by_cases e : i = zs.idxOf z
      · subst e
        rw [List.getElem_set_self]
        exact congrArg (sumTo q) gs
      · rw [List.getElem_set_ne (fun z => e z.symm)]
    refine ⟨⟨g.nz, fun l hl m hm => ?_, g.fl, Nat.le_trans b'.my hk, g.lg, g.lf, by show (D.notes.set _ _).length = _; rw [List.length_set]; exact g.ln, fun j q ej => ?_⟩, ⟨fun x hx => ⟨(b'.gv x hx).1, le100 (b'.gv x hx).2⟩, fun j l f e1 e2 => ?_⟩, b'⟩
    · rcases List.mem_or_eq_of_mem_set hl with hl | hl
      · exact g.nt l hl m hm
      · rw [hl] at hm
        rcases List.mem_append.mp hm with hm | hm
        · rw [e0] at hm
          exact g.nt _ (List.getElem_mem hj) m hm
        · rw [List.mem_singleton.mp hm]
          exact ⟨hy, n1, n2⟩
    · have c0 := g.cs j q ej
      rw [cash_eq] at c0 ⊢
      unfold cashD at c0 ⊢
      rw [sm]
      exact c0
    · have e1' : (D.notes.set (zs.idxOf z) (D.notes.getD (zs.idxOf z) [] ++ [(y, n)]))[j]? = some l := e1
      have e2' : D.fallen[j]? = some f := e2
      by_cases e : j = zs.idxOf z
      · subst e
        rw [List.getElem?_set_self hj, e0] at e1'
        rw [ef] at e2'
        cases e1'
        cases e2'
        rw [whole_snoc]
        have : 1 ≤ n := n1
        show _ ≤ _ + n
        omega
      · rw [List.getElem?_set_ne (fun z => e z.symm)] at e1'
        exact gb.fw j l f e1' e2'
end Rc

namespace Rc
open PySem PySem.Spec PyProof.Rows L2 RZ
theorem butD_kp {H H' : Hp} {x : Addr} {kvs : List (Key × V)} (b : But x H H') (h : H x = some (.dK kvs)) : Kp H H' := fun c o e f => b c o (fun z => by
  rw [z, h] at e
  cases e
  exact f) e
end Rc

namespace Rc
open PySem PySem.Spec PyProof.Rows L2 RZ
/-! ### words of a row, of up to sixty letters -/
def wordT (z : Str) : Bool := decide (1 ≤ z.length) && decide (z.length ≤ 60) && z.cps.toList.all fun c => decide (c ∈ abc)
theorem wordT_len {z : Str} (h : wordT z = true) : 1 ≤ z.length ∧ z.length ≤ 60 := by
  unfold wordT at h
  simp only [Bool.and_eq_true, decide_eq_true_eq] at h
  exact h.1
theorem word_of_name {z : Str} (h : nameT z = true) : wordT z = true := by
  have hl := nameT_len h
  unfold nameT at h
  unfold wordT
  simp only [Bool.and_eq_true, decide_eq_true_eq] at h ⊢
  exact ⟨⟨hl.1, by omega⟩, h.2⟩
end Rc

namespace Rc
open PySem PySem.Spec PyProof.Rows L2 RZ
open SX (S split_S join_S num_S int_S S_len S_cat)
open NumText (digitsVal AllDigits)
/-! ### texts of books, by rows -/
inductive BRow where
  | per (z : Str) (g f : Int)
  | note (y : Str) (n : Int)
abbrev cpsL (z : Str) : List Nat := z.cps.toList
def figL (n : Int) : List Nat := TL.numL n.toNat
def wPerson : List Nat := [112, 101, 114, 115, 111, 110]
def rowW : BRow → List (List Nat)
  | .per z g f => [wPerson, cpsL z, figL g, figL f]
  | .note y n => [[], [], cpsL y, figL n]
def rowL (r : BRow) : List Nat := TL.joinL [32] (rowW r)
def textL (rs : List BRow) : List Nat := (rs.map fun r => rowL r ++ [10]).flatten
/-- a number that a row may have -/
def FigOk (n : Int) : Prop := 0 ≤ n ∧ n < 10 ^ 70
def BRow.Ok : BRow → Prop
  | .per z g f => wordT z = true ∧ FigOk g ∧ FigOk f
  | .note y n => wordT y = true ∧ FigOk n ∧ 0 ≤ n
theorem name_codes {z : Str} (h : wordT z = true) : ∀ c ∈ cpsL z, 97 ≤ c ∧ c ≤ 122 := fun c hc => by
  unfold wordT at h
  rw [Bool.and_eq_true] at h
  have := of_decide_eq_true (List.all_eq_true.mp h.2 c hc)
  unfold abc at this
  obtain ⟨k, hk, rfl⟩ := List.mem_map.mp this
  have := List.mem_range.mp hk
  omega
theorem name_len {z : Str} (h : wordT z = true) : 1 ≤ (cpsL z).length ∧ (cpsL z).length ≤ 60 := wordT_len h
theorem fig_codes (n : Int) : ∀ c ∈ figL n, 48 ≤ c ∧ c ≤ 57 := fun c hc => TL.numL_digits _ c hc
theorem fig_ne (n : Int) : figL n ≠ [] := TL.numL_ne _
theorem fig_len {n : Int} (h : FigOk n) : (figL n).length ≤ 70 := TL.numL_len (by decide) (by
  have h2 : n < 10 ^ 70 := h.2
  have h3 : (n.toNat : Int) = n := Int.toNat_of_nonneg h.1
  have h4 : ((10 ^ 70 : Nat) : Int) = 10 ^ 70 := by decide +kernel
  omega)
theorem row_codes {r : BRow} (h : r.Ok) : ∀ w ∈ rowW r, ∀ c ∈ w, 48 ≤ c ∧ c ≤ 122 := fun w hw c hc => by
  have fg : ∀ n : Int, c ∈ figL n → 48 ≤ c ∧ c ≤ 122 := fun n hm => by
    have := fig_codes n c hm
    omega
  have nm : ∀ z : Str, wordT z = true → c ∈ cpsL z → 48 ≤ c ∧ c ≤ 122 := fun z hz hm => by
    have := name_codes hz c hm
    omega
  cases r with
  | per z g f =>
    simp only [rowW, List.mem_cons, List.not_mem_nil, or_false] at hw
    rcases hw with rfl | rfl | rfl | rfl
    · simp only [wPerson, List.mem_cons, List.not_mem_nil, or_false] at hc
      omega
    · exact nm _ h.1 hc
    · exact fg _ hc
    · exact fg _ hc
  | note y n =>
    simp only [rowW, List.mem_cons, List.not_mem_nil, or_false] at hw
    rcases hw with rfl | rfl | rfl | rfl
    · cases hc
    · cases hc
    · exact nm _ h.1 hc
    · exact fg _ hc
theorem joinL_mem {S : List Nat} : ∀ {l : List (List Nat)} {c : Nat}, c ∈ TL.joinL S l → c ∈ S ∨ ∃ w ∈ l, c ∈ w
  | [], _, h => by cases h
  | [p], c, h => .inr ⟨p, List.mem_singleton.mpr rfl, h⟩
  | p :: q :: r, c, h => by
    have h' : c ∈ p ++ (S ++ TL.joinL S (q :: r)) := h
    rcases List.mem_append.mp h' with h | h
    · exact .inr ⟨p, List.mem_cons_self, h⟩
    · rcases List.mem_append.mp h with h | h
      · exact .inl h
      · rcases joinL_mem h with h | ⟨w, hw, h⟩
        · exact .inl h
        · exact .inr ⟨w, List.mem_cons_of_mem _ hw, h⟩
theorem rowL_codes {r : BRow} (h : r.Ok) : ∀ c ∈ rowL r, 32 ≤ c ∧ c ≤ 122 := fun c hc => by
  rcases joinL_mem hc with h1 | ⟨w, hw, h1⟩
  · rw [List.mem_singleton.mp h1]
    decide
  · have := row_codes h w hw c h1
    omega
theorem text_join : ∀ rs : List BRow, textL rs = TL.joinL [10] (rs.map rowL ++ [[]])
  | [] => rfl
  | r :: rs => by
    have ih := text_join rs
    have e : textL (r :: rs) = rowL r ++ ([10] ++ textL rs) := by
      unfold textL
      rw [List.map_cons, List.flatten_cons, List.append_assoc]
    have j : ∀ (p : List Nat) (l : List (List Nat)), l ≠ [] → TL.joinL [10] (p :: l) = p ++ ([10] ++ TL.joinL [10] l) := fun p l hl => by
      cases l with
      | nil => exact absurd rfl hl
      | cons q t => rfl
    rw [e, ih]
    exact (j _ _ (by simp)).symm
theorem split_text {rs : List BRow} (h : ∀ r ∈ rs, r.Ok) : Txt.split (S (textL rs)) (S [10]) = (rs.map fun r => S (rowL r)) ++ [S []] := by
  rw [split_S (by decide) (by decide), text_join, SX.spl_join (by simp), List.map_append, List.map_map]
  · rfl
  · intro p hp
    rcases List.mem_append.mp hp with hp | hp
    · obtain ⟨r, hr, rfl⟩ := List.mem_map.mp hp
      intro c
      have := rowL_codes (h r hr) 10 c
      omega
    · rw [List.mem_singleton.mp hp]
      exact List.not_mem_nil
theorem rowW_ne (r : BRow) : rowW r ≠ [] := by cases r <;> exact List.cons_ne_nil _ _
theorem split_row {r : BRow} (h : r.Ok) : Txt.split (S (rowL r)) (S [32]) = (rowW r).map S := by
  rw [split_S (by decide) (by decide)]
  unfold rowL
  rw [SX.spl_join (rowW_ne r)]
  intro p hp c
  have := row_codes h p hp 32 c
  omega
theorem split_none : Txt.split (S []) (S [32]) = [S []] := by
  rw [split_S (by decide) (by decide)]
  rfl
theorem rowL_len {r : BRow} (h : r.Ok) : (rowL r).length ≤ 260 := by
  cases r with
  | per z g f =>
    have h1 := name_len h.1
    have h2 := fig_len h.2.1
    have h3 := fig_len h.2.2
    have e : rowL (.per z g f) = wPerson ++ ([32] ++ (cpsL z ++ ([32] ++ (figL g ++ ([32] ++ figL f))))) := rfl
    rw [e]
    simp only [List.length_append, wPerson, List.length_cons, List.length_nil]
    omega
  | note y n =>
    have h1 := name_len h.1
    have h2 := fig_len h.2.1
    have e : rowL (.note y n) = [] ++ ([32] ++ ([] ++ ([32] ++ (cpsL y ++ ([32] ++ figL n))))) := rfl
    rw [e]
    simp only [List.length_append, List.length_cons, List.length_nil]
    omega
theorem textL_len : ∀ {rs : List BRow}, (∀ r ∈ rs, r.Ok) → (textL rs).length ≤ 261 * rs.length
  | [], _ => Nat.zero_le _
  | r :: rs, h => by
    have h1 := rowL_len (h r List.mem_cons_self)
    have ih := textL_len fun r hr => h r (List.mem_cons_of_mem _ hr)
    have e : textL (r :: rs) = rowL r ++ ([10] ++ textL rs) := by
      unfold textL
      rw [List.map_cons, List.flatten_cons, List.append_assoc]
    rw [e]
    simp only [List.length_append, List.length_cons, List.length_nil]
    omega
/-! ### numbers -/
theorem val_app : ∀ (b a : List Nat), digitsVal (a ++ b) = digitsVal a * 10 ^ b.length + digitsVal b := by
  have key : ∀ (b : List Nat) (m : Nat), b.foldl (fun acc c => acc * 10 + (c - 48)) m = m * 10 ^ b.length + b.foldl (fun acc c => acc * 10 + (c - 48)) 0 := fun b => by
    induction b with
    | nil => intro m; simp
    | cons c r ih =>
      intro m
      rw [List.foldl_cons, List.foldl_cons, ih, ih (0 * 10 + (c - 48)), List.length_cons, Nat.pow_succ, Nat.add_mul, Nat.mul_assoc, Nat.mul_comm 10, Nat.zero_mul, Nat.zero_add, Nat.add_assoc]
  intro b a
  unfold digitsVal
  rw [List.foldl_append, key]
theorem val_nils (k : Nat) : digitsVal (List.replicate k 48) = 0 := by
  induction k with
  | zero => rfl
  | succ k ih =>
    rw [List.replicate_succ]
    exact ih
theorem val_fig {n : Int} (h : 0 ≤ n) : ((digitsVal (figL n) : Nat) : Int) = n := by
  unfold figL
  rw [TL.numL_val]
  exact Int.toNat_of_nonneg h
/-- the figures, filled with noughts to whole pieces -/
def fillK (n : Int) : Nat := (60 - (figL n).length % 60) % 60
def fillL (n : Int) : List Nat := List.replicate (fillK n) 48 ++ figL n
theorem fill_val {n : Int} (h : 0 ≤ n) : ((digitsVal (fillL n) : Nat) : Int) = n := by
  unfold fillL
  rw [val_app, val_nils, Nat.zero_mul, Nat.zero_add]
  exact val_fig h
theorem fill_len {n : Int} (h : FigOk n) : ∃ m, (fillL n).length = 60 * m ∧ 1 ≤ m ∧ m ≤ 2 := by
  have h1 := fig_len h
  have h2 := List.length_pos_iff.mpr (fig_ne n)
  unfold fillL fillK
  rw [List.length_append, List.length_replicate]
  by_cases c : (figL n).length ≤ 60
  · exact ⟨1, by omega, by decide, by decide⟩
  · exact ⟨2, by omega, by decide, by decide⟩
theorem fill_digits (n : Int) : ∀ c ∈ fillL n, 48 ≤ c ∧ c ≤ 57 := fun c hc => by
  rcases List.mem_append.mp hc with hc | hc
  · rw [(List.mem_replicate.mp hc).2]
    decide
  · exact fig_codes n c hc
/-- what has been read of it -/
def readN (n : Int) (i : Nat) : Int := ((digitsVal ((fillL n).take (60 * i)) : Nat) : Int)
theorem read_all {n : Int} (h : FigOk n) {m : Nat} (e : (fillL n).length = 60 * m) : readN n m = n := by
  unfold readN
  rw [← e, List.take_length]
  exact fill_val h.1
def pieceL (n : Int) (i : Nat) : List Nat := ((fillL n).drop (60 * i)).take 60
theorem piece_len {n : Int} {m i : Nat} (e : (fillL n).length = 60 * m) (hi : i < m) : (pieceL n i).length = 60 := by
  unfold pieceL
  rw [List.length_take, List.length_drop, e]
  omega
theorem read_step {n : Int} {m i : Nat} (e : (fillL n).length = 60 * m) (hi : i < m) : readN n (i + 1) = readN n i * 10 ^ 60 + ((digitsVal (pieceL n i) : Nat) : Int) := by
  unfold readN
  have e1 : (fillL n).take (60 * (i + 1)) = (fillL n).take (60 * i) ++ pieceL n i := by
    unfold pieceL
    rw [show 60 * (i + 1) = 60 * i + 60 by omega, List.take_add]
  have h10 : ((10 ^ 60 : Nat) : Int) = 10 ^ 60 := by decide +kernel
  rw [e1, val_app, piece_len e hi, Int.natCast_add, Int.natCast_mul, h10]
theorem read_low {n : Int} (h : FigOk n) {m i : Nat} (e : (fillL n).length = 60 * m) (hi : i < m) : 0 ≤ readN n i ∧ readN n i < 10 ^ 10 := by
  refine ⟨Int.natCast_nonneg _, ?_⟩
  unfold readN
  have e1 : fillL n = (fillL n).take (60 * i) ++ (fillL n).drop (60 * i) := (List.take_append_drop _ _).symm
  have hv := fill_val h.1
  rw [e1, val_app, List.length_drop, e] at hv
  have hk : 60 ≤ 60 * m - 60 * i := by omega
  have hp : (10 : Nat) ^ 60 ≤ 10 ^ (60 * m - 60 * i) := Nat.pow_le_pow_right (by decide) hk
  generalize hA : digitsVal ((fillL n).take (60 * i)) = A at hv ⊢
  have hm : A * 10 ^ 60 ≤ A * 10 ^ (60 * m - 60 * i) := Nat.mul_le_mul_left A hp
  have h2 : n < 10 ^ 70 := h.2
  have h70 : (10 : Int) ^ 70 = 10 ^ 10 * 10 ^ 60 := by decide +kernel
  have h60 : ((10 ^ 60 : Nat) : Int) = 10 ^ 60 := by decide +kernel
  have hc : (A : Int) * 10 ^ 60 < 10 ^ 10 * 10 ^ 60 := by
    rw [← h70, ← h60, ← Int.natCast_mul]
    refine Int.lt_of_le_of_lt ?_ h2
    rw [← hv]
    exact Int.ofNat_le.mpr (Nat.le_trans hm (Nat.le_add_right _ _))
  exact Int.lt_of_mul_lt_mul_right hc (by decide +kernel)
theorem piece_read {n : Int} {m i : Nat} (e : (fillL n).length = 60 * m) (hi : i < m) : intText? (S (pieceL n i)) = some ((digitsVal (pieceL n i) : Nat) : Int) := by
  have hl := piece_len e hi
  refine int_S (List.all_eq_true.mpr fun c hc => ?_) (fun z => by rw [z] at hl; cases hl) (by omega)
  have := fill_digits n c (List.mem_of_mem_drop (List.mem_of_mem_take hc))
  rw [Bool.and_eq_true, decide_eq_true_eq, decide_eq_true_eq]
  exact this
end Rc

set_option pp.maxSteps 600
namespace Rc
open PySem PySem.Spec PyProof.Rows L2 RZ
open SX (S split_S join_S num_S int_S S_len S_cat)
open NumText (digitsVal AllDigits)
theorem line_of {n : Nat} (h : n ≤ 16777216) : n ≤ sizeLine := h
theorem figs_cps : ("0123456789" : Str).cps.toList = (List.range 10).map (· + 48) := by decide +kernel
theorem nought : ("0" : Str) = S [48] := by decide +kernel
theorem digit_in {c : Nat} (h : 48 ≤ c ∧ c ≤ 57) : c ∈ ("0123456789" : Str).cps.toList := by
  rw [figs_cps]
  exact List.mem_map.mpr ⟨c - 48, List.mem_range.mpr (by omega), by omega⟩
theorem numL_head : ∀ n : Nat, 1 ≤ n → ∃ c r, TL.numL n = c :: r ∧ c ≠ 48 := fun n => by
  induction n using Nat.strongRecOn with
  | _ n ih =>
    intro h1
    by_cases h : n < 10
    · exact ⟨48 + n, [], TL.numL_lt h, by omega⟩
    · obtain ⟨c, r, e, ne⟩ := ih (n / 10) (by omega) (by omega)
      exact ⟨c, r ++ [48 + n % 10], by rw [TL.numL_step (by omega), e]; rfl, ne⟩
theorem fig_head (n : Int) : figL n = [48] ∨ ∃ c r, figL n = c :: r ∧ c ≠ 48 := by
  unfold figL
  by_cases h : n.toNat = 0
  · rw [h]
    exact .inl (TL.numL_lt (by decide))
  · exact .inr (numL_head _ (by omega))
/-- "0" * k -/
theorem op_mul0 {X : Cx} : OpR X (binaryOp .Mult) (fun x y H Q => ∃ k : Nat, x = .str "0" ∧ y = .int (k : Int) ∧ k ≤ 60 ∧ Q (.str (S (List.replicate k 48))) H) := by
  intro pins s σ H x y v u Q I rx ry h
  obtain ⟨k, rfl, rfl, hk, q⟩ := h
  obtain ⟨t, rfl⟩ := rx
  obtain ⟨t', rfl⟩ := ry
  have fold : ∀ (k : Nat) (a : Array Nat), (List.replicate k ("0" : Str).cps).foldl (· ++ ·) a = a ++ (List.replicate k 48).toArray := fun k => by
    induction k with
    | zero => intro a; simp
    | succ k ih =>
      intro a
      rw [List.replicate_succ, List.foldl_cons, ih, List.replicate_succ]
      have e : ("0" : Str).cps = #[48] := by decide +kernel
      rw [e]
      refine Array.ext' ?_
      simp
  have l1 : ("0" : Str).length = 1 := by decide +kernel
  refine PySem.P.mul_str (by rw [Bool.or_eq_false_iff]; exact ⟨decide_eq_false (by omega), decide_eq_false (by omega)⟩) (fun _ _ => ?_) (fun _ _ => ?_) ?_
  · have e : (2 ^ 63 - 1 : Int) / (k : Int) ≥ 1 := by
      by_cases h0 : k = 0
      · subst h0
        rename_i a _
        exact absurd (show ((0 : Nat) : Int) < 1 by decide) a
      · exact Int.le_ediv_of_mul_le (by omega) (by omega)
    rw [l1]
    omega
  · show decide (("0" : Str).length * (k : Int).toNat > sizeLine) = false
    rw [l1]
    exact decide_eq_false (by rw [sizeLine_eq]; omega)
  · by_cases h0 : (k : Int) < 1
    · have e : k = 0 := by omega
      subst e
      rw [if_pos h0]
      exact ⟨by decide, ⟨.str (S []), H, I.tok _, ⟨_, rfl⟩, q⟩⟩
    · rw [if_neg h0]
      by_cases h1 : k = 1
      · subst h1
        rw [if_pos (by decide)]
        exact ⟨.str "0", H, I, ⟨_, rfl⟩, by rw [nought]; exact q⟩
      · rw [if_neg (by
          rw [l1]
          simp
          omega)]
        have e : (List.replicate (k : Int).toNat ("0" : Str).cps).foldl (· ++ ·) #[] = (List.replicate k 48).toArray := by
          rw [Int.toNat_natCast, fold k #[]]
          simp
        rw [e]
        refine ⟨?_, ⟨.str (S (List.replicate k 48)), H, I.tok _, ⟨_, rfl⟩, q⟩⟩
        show (S (List.replicate k 48)).length ≤ sizeLine
        rw [S_len, List.length_replicate, sizeLine_eq]
        omega
section
variable {P : Program} {w : World} {K : PySem.W.Frag} {mg : Str → Option Value} {base : Heap}
/-- a truth that holds -/
def spTrue (p : Str → Prop) : Sp := fun vs H Q _ => ∃ x, vs = [.str x] ∧ p x ∧ ∀ H', Same H H' → Q (.bl true) H'
/-! ### is_word -/
abbrev sWord : Stmt := topS 27
theorem scWord : FnScope ["text", "sign"] ["text"] (defScope sWord) := ⟨rfl, rfl, rfl, by decide +kernel, rfl, by decide +kernel, by decide +kernel⟩
theorem ok_word {f : Addr} {fd : FuncData} (F : Fun K "is_word" "is_word" sWord f fd) (B : Blt mg) (gL : ∃ t, mg "LETTERS" = some (.str "abcdefghijklmnopqrstuvwxyz" t)) :
    FnOk P w K mg base CX0 1 f fd ["text"] (spTrue fun z => wordT z = true) := by
  obtain ⟨tL, gL⟩ := gL
  refine F.ok scWord (fun vs H Q E h => ?_) (fun cdv A outer s H vs Q E hr h => ?_)
  · obtain ⟨v, rfl, _⟩ := h
    rfl
  · obtain ⟨z, rfl, nz, q⟩ := h
    refine ⟨_, pss_one (ps_ret (pe_and (pe_cmpR op_gt (pe_callB call_len_str (by rfl) B.len PySem.boot_len (pa_cons (pv 0) pa_nil)) pe_int (nomark _)) (pe_one (pe_callB (cr_all rfl) (by rfl) B.all (by decide +kernel) (pa_cons
        (pe_lc (own := [("sign", 1)]) (g := gName 1) (tt := tYes) rfl scWord.nd (pi_str (pv 0)) (blkOk_by (N := ["text", "sign"]) (sc := defScope sWord) (own := [("sign", 1)]) (by decide +kernel))
          (fun _ _ _ _ _ => pg_name (i := 1) scWord.nd rfl (.inl rfl)) (fun _ _ _ _ _ => pts_nil)
          (fun _ _ _ _ _ => pe_cmpR op_in_sign (pv 1) (pe_glob (v := .str "abcdefghijklmnopqrstuvwxyz") (by rfl) gL ⟨_, rfl⟩) (by rfl))) pa_nil))))), ?_⟩
    have hl := wordT_len nz
    refine ⟨.str z, rfl, z, rfl, line_of (by omega), _, _, rfl, rfl, _, rfl, ?_⟩
    rw [decide_eq_true (show (z.length : Int) > 0 by omega)]
    refine iteT ⟨.str z, rfl, z, rfl, fun D hD => lc_it walk_str (fun i H' => Same H H' ∧ H' D = some (.lst ((z.cps.toList.take i).map fun c => .bl (decide (c ∈ abc)))))
      ⟨same_upd hD, upd_same⟩ (fun _ _ _ _ => trivial) (fun i x H1 H2 hi hP hY => ?_) (fun H1 hP => ?_)⟩
    · obtain ⟨rfl, c, hc, rfl⟩ := hY
      refine ⟨rfl, .str ⟨#[c]⟩, rfl, c, _, rfl, rfl, _, hP.2, ?_, ?_, ?_⟩
      · rw [List.length_map, List.length_take]
        exact Nat.lt_of_le_of_lt (Nat.min_le_left _ _) (small1000 (by have : z.cps.size = z.length := rfl; omega))
      · intro b o eb
        rw [upd_ne (ne_of_none eb hD)]
        exact hP.1 b o eb
      · rw [upd_same, List.take_add_one, List.map_append]
        have g : z.cps.toList[i]? = some c := by rw [Array.getElem?_toList]; exact hc
        rw [g, letters_abc]
        rfl
    · refine ⟨D, z.cps.toList.map fun c => decide (c ∈ abc), rfl, .inl (.inl ?_), ?_⟩
      · have ez : z.cps.size = z.cps.toList.length := rfl
        rw [hP.2, ez, List.take_length, List.map_map]
        rfl
      · have en : (z.cps.toList.map fun c => decide (c ∈ abc)).all id = true := by
          unfold wordT at nz
          rw [Bool.and_eq_true] at nz
          rw [List.all_map]
          exact nz.2
        rw [en]
        exact q _ hP.1
/-! ### is_number -/
abbrev sNumb : Stmt := topS 28
theorem scNumb : FnScope ["text", "sign"] ["text"] (defScope sNumb) := ⟨rfl, rfl, rfl, by decide +kernel, rfl, by decide +kernel, by decide +kernel⟩
theorem ok_numb {f : Addr} {fd : FuncData} (F : Fun K "is_number" "is_number" sNumb f fd) (B : Blt mg) (gF : ∃ t, mg "FIGURES" = some (.str "0123456789" t)) :
    FnOk P w K mg base CX0 1 f fd ["text"] (spTrue fun z => ∃ n, FigOk n ∧ z = S (figL n)) := by
  obtain ⟨tF, gF⟩ := gF
  refine F.ok scNumb (fun vs H Q E h => ?_) (fun cdv A outer s H vs Q E hr h => ?_)
  · obtain ⟨v, rfl, _⟩ := h
    rfl
  · obtain ⟨z, rfl, ⟨n, fn, ez⟩, q⟩ := h
    refine ⟨_, pss_cons (ps_if (PW.pt (pw_or (pt_cmpR op_lt (pe_callB call_len_str (by rfl) B.len PySem.boot_len (pa_cons (pv 0) pa_nil)) pe_int (nomark _)) (pw_or1 (pt_not (pt_val (pe_callB (cr_all rfl) (by rfl) B.all (by decide +kernel) (pa_cons
        (pe_lc (own := [("sign", 1)]) (g := gName 1) (tt := tYes) rfl scNumb.nd (pi_str (pv 0)) (blkOk_by (N := ["text", "sign"]) (sc := defScope sNumb) (own := [("sign", 1)]) (by decide +kernel))
          (fun _ _ _ _ _ => pg_name (i := 1) scNumb.nd rfl (.inl rfl)) (fun _ _ _ _ _ => pts_nil)
          (fun _ _ _ _ _ => pe_cmpR op_in_sign (pv 1) (pe_glob (v := .str "0123456789") (by rfl) gF ⟨_, rfl⟩) (by rfl))) pa_nil))))))) (pss_one (ps_ret pe_bl)) pss_nil)
      (pss_one (ps_ret (pe_or (pe_cmpR op_eq (pv 0) pe_str (nomark _)) (pe_one (pe_cmpR op_ne (pe_ix ix_str (pv 0) pe_int (fun _ _ => rfl)) pe_str (nomark _)))))), ?_⟩
    have fl := fig_len fn
    have fn0 := List.length_pos_iff.mpr (fig_ne n)
    have zl : z.length = (figL n).length := by rw [ez, S_len]
    have zc : z.cps.toList = figL n := by rw [ez]
    refine ⟨.str z, rfl, z, rfl, line_of (by omega), _, _, rfl, rfl, _, rfl, ?_⟩
    rw [decide_eq_false (show ¬ (z.length : Int) < 1 by omega)]
    refine iteF ⟨.str z, rfl, z, rfl, fun D hD => lc_it walk_str (fun i H' => Same H H' ∧ H' D = some (.lst ((List.replicate i true).map V.bl)))
      ⟨same_upd hD, upd_same⟩ (fun _ _ _ _ => trivial) (fun i x H1 H2 hi hP hY => ?_) (fun H1 hP => ?_)⟩
    · obtain ⟨rfl, c, hc, rfl⟩ := hY
      have hi' : i < z.length := hi
      refine ⟨rfl, .str ⟨#[c]⟩, rfl, c, _, rfl, rfl, _, hP.2, ?_, ?_, ?_⟩
      · rw [List.length_map, List.length_replicate]
        exact small1000 (by omega)
      · intro b o eb
        rw [upd_ne (ne_of_none eb hD)]
        exact hP.1 b o eb
      · have g : z.cps.toList[i]? = some c := by rw [Array.getElem?_toList]; exact hc
        have hm : c ∈ figL n := by
          rw [← zc]
          exact List.mem_of_getElem? g
        rw [upd_same, List.replicate_succ', List.map_append]
        rw [decide_eq_true (digit_in (fig_codes n c hm))]
        rfl
    · refine ⟨D, List.replicate z.cps.size true, rfl, .inl (.inl hP.2), ?_⟩
      rw [show (List.replicate z.cps.size true).all id = true by simp]
      refine ⟨_, rfl, iteF ?_⟩
      refine ⟨.str z, rfl, rfl, _, rfl, ?_⟩
      rcases fig_head n with e | ⟨c, r, e, ne⟩
      · have e0 : V.str z = V.str "0" := by rw [ez, e, nought]
        rw [decide_eq_true e0]
        exact iteT (q _ hP.1)
      · have e0 : ¬ V.str z = V.str "0" := fun h => by
          have h1 := V.str.inj h
          have h2 : z.cps.toList = [48] := by rw [h1]; decide +kernel
          rw [zc, e] at h2
          exact ne (List.cons.inj h2).1
        rw [decide_eq_false e0]
        refine iteF ⟨.str z, rfl, z, 0, c, rfl, rfl, line_of (by omega), atI_nat (j := 0) (by rw [zc, e]; rfl), rfl, ?_⟩
        have e1 : ¬ V.str ⟨#[c]⟩ = V.str "0" := fun h => by
          have h1 := V.str.inj h
          have h2 : (⟨#[c]⟩ : Str).cps.toList = [48] := by rw [h1]; decide +kernel
          exact ne (List.cons.inj h2).1
        rw [decide_eq_false e1]
        exact q _ hP.1
/-! ### number_of -/
abbrev sNof : Stmt := topS 29
abbrev nNof : List Str := ["figures", "filled", "number", "start"]
theorem scNof : FnScope nNof ["figures"] (defScope sNof) := ⟨rfl, rfl, rfl, by decide +kernel, rfl, by decide +kernel, by decide +kernel⟩
def spNof : Sp := fun vs H Q _ => ∃ n, vs = [.str (S (figL n))] ∧ FigOk n ∧ ∀ H', Same H H' → Q (.int n) H'
theorem cut_piece {n : Int} {m i : Nat} (e : (fillL n).length = 60 * m) (hi : i < m) : cutS (S (fillL n)) (some ((60 * i : Nat) : Int)) (some ((60 * i + 60 : Nat) : Int)) = S (pieceL n i) := by
  unfold cutS pieceL
  rw [S_len, HT.sIx_nat, HT.sIx_nat, e, Nat.min_eq_left (by omega), Nat.min_eq_left (by omega), show 60 * i + 60 - 60 * i = 60 by omega]
theorem ok_nof {f : Addr} {fd : FuncData} (F : Fun K "number_of" "number_of" sNof f fd) (B : Blt mg) (B2 : Blt2 mg) (gW : ∃ t, mg "WIDTH" = some (.int 60 t)) (gP : ∃ t, mg "PIECE" = some (.int (10 ^ 60) t)) :
    FnOk P w K mg base CX0 1 f fd ["figures"] spNof := by
  obtain ⟨tW, gW⟩ := gW
  obtain ⟨tP, gP⟩ := gP
  refine F.ok scNof (fun vs H Q E h => ?_) (fun cdv A outer s H vs Q E hr h => ?_)
  · obtain ⟨v, rfl, _⟩ := h
    rfl
  · obtain ⟨n, rfl, fn, q⟩ := h
    refine ⟨_, pss_cons (ps_set (i := 1) scNof.nd rfl (.inl rfl) (pe_op op_add_str (pe_op op_mul0 pe_str (pe_op op_mod (pe_un un_neg (pe_callB call_len_str (by rfl) B.len PySem.boot_len (pa_cons (pv 0) pa_nil))) (pe_glob (v := .int 60) (by rfl) gW ⟨_, rfl⟩))) (pv 0)))
      (pss_cons (ps_set (i := 2) scNof.nd rfl (.inl rfl) pe_int)
      (pss_cons (ps_for PassesOwn.never rfl (pi_range3 (by rfl) B2.range (pa_cons pe_int (pa_cons (pe_callB call_len_str (by rfl) B.len PySem.boot_len (pa_cons (pv 1) pa_nil)) (pa_cons (pe_glob (v := .int 60) (by rfl) gW ⟨_, rfl⟩) pa_nil)))) (pg_name (i := 3) scNof.nd rfl (.inl rfl))
        (pss_one (ps_set (i := 2) scNof.nd rfl (.inl rfl) (pe_op op_add (pe_op op_mul (pv 2) (pe_glob (v := .int (10 ^ 60)) (by rfl) gP ⟨_, rfl⟩)) (pe_callTy call_int_str (by rfl) B.int (by decide +kernel) (pa_cons (pe_slice sl_str (pv 1) (po_some (pv 3)) (po_some (pe_op op_add (pv 3) (pe_glob (v := .int 60) (by rfl) gW ⟨_, rfl⟩)))) pa_nil))))))
      (pss_one (ps_ret (pv 2))))), ?_⟩
    have fl := fig_len fn
    obtain ⟨m, em, m1, m2⟩ := fill_len fn
    have zl : (S (figL n)).length = (figL n).length := S_len _
    have ek : (-((S (figL n)).length : Int)) % 60 = ((fillK n : Nat) : Int) := by
      rw [zl]
      unfold fillK
      omega
    have k60 : fillK n ≤ 60 := by
      unfold fillK
      omega
    refine ⟨.str (S (figL n)), rfl, _, rfl, line_of (by omega), _, rfl, _, _, rfl, rfl, by show (0 : Int) < 60; decide, fillK n, rfl, congrArg V.int ek, k60, .str (S (figL n)), rfl, _, _, rfl, rfl, line_of (by rw [S_len, List.length_replicate, zl]; omega), ?_⟩
    rw [show S (List.replicate (fillK n) 48) ++ S (figL n) = S (fillL n) from S_cat _ _]
    have fz : (S (fillL n)).length = 60 * m := by rw [S_len, em]
    refine ⟨.str (S (fillL n)), rfl, _, rfl, line_of (by omega), ?_⟩
    have rg : RgC 0 ((S (fillL n)).length : Int) 60 m := by
      rw [fz]
      have : m = 1 ∨ m = 2 := by omega
      rcases this with rfl | rfl
      · exact ⟨by decide, by decide, by decide +kernel, by decide +kernel⟩
      · exact ⟨by decide, by decide, by decide +kernel, by decide +kernel⟩
    refine ⟨0, _, 60, m, rfl, rg, ?_⟩
    refine for_it walk_rangeC (fun i σ H' => ∃ y3, σ = [some (.str (S (figL n))), some (.str (S (fillL n))), some (.int (readN n i)), y3] ∧ Same H H')
      ⟨_, rfl, Same.refl _⟩ (fun _ _ _ _ _ => trivial) (fun i x σ H1' H1 hi hP hY => ?_) (fun σ H1 hP => ?_)
    · obtain ⟨rfl, rfl⟩ := hY
      obtain ⟨y3, rfl, s1⟩ := hP
      have rl := read_low fn em hi
      have e1 : (0 : Int) + (i : Nat) * 60 = ((60 * i : Nat) : Int) := by omega
      refine ⟨_, rfl, _, _, rfl, rfl, .inl ⟨by omega, by have := rl.2; have h9 : (10 : Int) ^ 10 < 2 ^ 64 := (by decide); omega⟩, .str (S (fillL n)), rfl, _, rfl, _, rfl, _, rfl, _, _, rfl, rfl, _, rfl, S (fillL n), rfl, line_of (by omega), ?_⟩
      have e2 : ((60 * i : Nat) : Int) + 60 = ((60 * i + 60 : Nat) : Int) := by omega
      refine ⟨S (pieceL n i), _, by rw [e1, e2]; exact congrArg (fun z => [V.str z]) (cut_piece em hi), piece_read em hi, by rw [S_len, piece_len em hi]; decide, _, _, rfl, rfl, some (.int (0 + (i : Nat) * 60)), ?_, s1⟩
      rw [read_step em hi]
      rfl
    · obtain ⟨y3, rfl, s1⟩ := hP
      refine ⟨_, rfl, ?_⟩
      rw [read_all fn em]
      exact q _ s1
end
end Rc

namespace Rc
open PySem PySem.Spec PyProof.Rows L2 RZ
/-! ### enumerate(list, start=c) -/
theorem callWith_typeKw {M : Model} {A : Around} {E : Value → Shared → Prop} {s : Shared} {env : Env} {pos : Pos} {T : String} {e : Expr} {rest : List Expr} {kws : List Keyword} {Q : Value → Shared → Prop}
    (h : wpAny M A (spliced (backTo pos (starEach (e :: rest) env))) (fun vs s₁ => wpAny M A (evalAll ((backToKw pos (keywordEach kws env)).map (·.2)))
      (fun kvs s₂ => wpAny M A (call (.type T) vs (((backToKw pos (keywordEach kws env)).filterMap (·.1)).zip kvs)) Q E s₂) E s₁) E s)
    (he : backTo pos (starEach (e :: rest) env) = (false, eval e env) :: backTo pos (starEach rest env))
    (hplain : (backTo pos (starEach (e :: rest) env)).any (·.1) = false)
    (hall : (backToKw pos (keywordEach kws env)).all (·.1.isSome) = true)
    (hkw : (backToKw pos (keywordEach kws env)).any (·.1.isNone) = false) :
    wpAny M A (callWith pos (.type T) [] (backTo pos (starEach (e :: rest) env)) (backToKw pos (keywordEach kws env))) Q E s := by
  have key : wpAny M A (evalArgs (.type T) true (backTo pos (starEach (e :: rest) env)) (backToKw pos (keywordEach kws env))) (fun a s₁ => wpAny M A (call (.type T) ([] ++ a.pos) a.kw) Q E s₁) E s := by
    rw [he] at h ⊢
    exact evalArgs_kwB hall h
  unfold callWith
  refine wpAny_bind (wpAny_holding (wpAny_mono key (fun a s₁ h₁ => wpAny_bind (wpAny_standAt ?_)) fun _ _ x => x))
  simp only [hplain, hkw, Bool.or_false]
  refine wpAny_bind (wpAny_pure ?_)
  exact wpAny_bind (wpAny_mono h₁ (fun r s₂ hr => wpAny_bind (wpAny_holding (wpAny_point (wpAny_pure hr)))) fun _ _ x => x)
theorem wpAny_pyNext_enum_endF {prog : Program} {w : World} {A : Around} {E : Value → Shared → Prop} {s : Shared} {e it l : Addr} {i : Nat} {c : Int} {items : Array Value} {old : Value} {Q : Option Value → Shared → Prop} (hh : A.in1.handled = none)
    (he : IsEnum s.heap e it c old) (hit : s.heap.IsListIter it l i) (hl : s.heap.IsList l items) (hx : items[i]? = none)
    (hQ : ∀ h', Heap.ExtBut it s.heap h' → Q none { s with heap := h' }) : wpAny (model prog w) A (pyNext (.ref e)) Q E s := by
  have hT : s.TypeIs (.ref e) "enumerate" := ⟨_, he, rfl⟩
  unfold pyNext
  refine wpAny_bind (wpAny_attempt (wpAny_callSpecial?_slot (name := Str.ofString "__next__") hT F.slot_enumerate_next
    (wpAny_call_entry F.slot_enumerate_next hT F.entry_enumerate_next ?_ (F.args_enumerate_next_1 _))))
  show wpAny _ _ (field (.ref e) 2 >>= _) _ _ _
  refine wpAny_bind (wpAny_field he rfl (x := .ref it) rfl ?_)
  refine wpAny_bind (wpAny_nextOf_list_end hh hit hl hx fun h' x he' hx' => ?_)
  obtain ⟨o, ho, hc⟩ := hx'
  refine wpAny_bind (wpAny_isInstance (T := "StopIteration") (b := true) ⟨o, ho, hc⟩ isSubtype_stop ?_)
  exact wpAny_pure (hQ _ he')
/-- the list at a as it stands at each turn, each item in a new pair, counted from c -/
def Itf (K : PySem.W.Frag) (a : Addr) (c : Int) : It :=
  ⟨fun i H => ∃ (xs : List V) (x : V), SqL K H a xs ∧ xs[i]? = some x, fun i H v H' => ∃ T x, v = .ref T ∧ H T = none ∧ H' = upd H T (.tup [.int (c + (i : Nat)), x]) ∧ ∀ xs, SqL K H a xs → xs[i]? = some x, fun i H => ∃ xs : List V, SqL K H a xs ∧ xs.length ≤ i⟩
theorem turn_enumC {P : Program} {w : World} {K : PySem.W.Frag} {elts : List Expr} {kk : Nat} {tpos : Pos} (c : Int) (a e it : Addr) :
    Turn P w K (.Tuple elts kk tpos) (Itf K a c) [e, it] e (fun i h => (∃ old, IsEnum h e it (c + ((i : Nat) : Int)) old) ∧ h.IsListIter it a i ∧ e ≠ it ∧ a ≠ it ∧ e ≠ a) where
  mem := by simp
  obj := fun i h st b hb => by
    obtain ⟨⟨old, he⟩, ⟨o, ho, hc, hd⟩, _⟩ := st
    have e' : b = e ∨ b = it := by simpa using hb
    rcases e' with z | z
    · rw [z]; exact ⟨_, he, fun v q => nomatch q⟩
    · rw [z]; exact ⟨o, ho, fun v q => by rw [hd] at q; cases q⟩
  keep := fun i h h' st k => let ⟨⟨old, he⟩, hi, hne⟩ := st; ⟨⟨old, k e (by simp) _ he⟩, hi.at fun o q => k it (by simp) o q, hne⟩
  item := by
    intro X hP hw hK hc i pins s σ H E I hf st hg
    subst hP hw hK
    obtain ⟨⟨old, he⟩, hit, hne, hai, hea⟩ := st
    obtain ⟨xs, x, hq, hx⟩ := hg
    obtain ⟨its, rv, p, hz⟩ := I.list hq
    obtain ⟨u, hu, ru⟩ := rv.get hx
    have hel : e < s.heap.objs.size := Heap.lt_size he
    have hil : it < s.heap.objs.size := by obtain ⟨_, q, _⟩ := hit; exact Heap.lt_size q
    have hit2 : i < its.toArray.size := by
      have := (List.getElem?_eq_some_iff.mp hu).1
      simpa using this
    have D := Draws.list (prog := X.prog) (w := X.w) (A := X.A.in1) (I.ok.hd hc) it a hai its.toArray
    refine wpAny_pyNext_enum_itemC D he ⟨hit, p.isList⟩ hit2 hne (by simp; exact ⟨hne, hea⟩) fun u' h' tk hu' ho hs' hT hsz hk => ?_
    have eu : u' = u := by
      have h1 : its.toArray[i]? = some u := by simpa using hu
      rw [h1] at hu'
      exact (Option.some.inj hu').symm
    subst eu
    obtain ⟨hit', _⟩ := hs'
    refine ⟨_, rfl, wpAny_letOwnedTupleGo_enum (s := { s with heap := h', toks := tk + 1 }) ho fun h'' he' sb => ?_⟩
    have hT2 : h''.get? s.heap.objs.size = some { cls := .type "tuple", data := .seq #[.int (c + ((i : Nat) : Int)) tk, u'] } := (sb.2 _ (Nat.ne_of_gt hel)).trans hT
    have new : ObjOk X.prog X.w (upd H s.heap.objs.size (.tup [.int (c + (i : Nat)), x])) h'' s.heap.objs.size (.tup [.int (c + (i : Nat)), x]) :=
      ⟨by show 2 ≤ sizeLine; decide, [.int (c + ((i : Nat) : Int)) tk, u'], .cons ⟨_, rfl⟩ (.cons ru .nil), ⟨_, hT2, rfl, _, rfl⟩⟩
    have I1 : Inv X pins σ (upd H s.heap.objs.size (.tup [.int (c + (i : Nat)), x])) { s with heap := h'', toks := tk + 1 } :=
      I.turnedNew (ch := [e, it]) (fun b ob hb q => (sb.2 b (fun z => hb (by simp [z]))).trans (hk b ob (fun z => hb (by simp [z])) (fun z => hb (by simp [z])) q)) hf (Nat.le_refl _) new
    refine ⟨.ref s.heap.objs.size, _, I1, rfl, ⟨_, x, rfl, I.hok.fresh (Nat.le_refl _), rfl, fun ys hy => by rw [I.list_inj hy hq]; exact hx⟩, ⟨⟨u', ?_⟩, hit'.at fun o q => (sb.2 it (Ne.symm hne)).trans q, hne, hai, hea⟩, fun b hb => ?_⟩
    · have e1 : c + ((i + 1 : Nat) : Int) = c + (i : Int) + 1 := by omega
      rw [e1]; exact he'
    · have hb' : b < s.heap.objs.size := by
        have e' : b = e ∨ b = it := by simpa using hb
        rcases e' with z | z
        · rw [z]; exact hel
        · rw [z]; exact hil
      rw [upd_ne (Nat.ne_of_lt hb')]
      exact (hf b hb).1
  done := by
    intro X hP hw hK hc i pins s σ H E I hf st hg
    subst hP hw hK
    obtain ⟨⟨old, he⟩, hit, hne, hai, hea⟩ := st
    obtain ⟨xs, hq, hx⟩ := hg
    obtain ⟨its, rv, p, hz⟩ := I.list hq
    obtain ⟨f0, f1, f2, f3, f4, f5⟩ := hf it (by simp)
    have hl := rv.length
    exact wpAny_pyNext_enum_endF (I.ok.hd hc) he hit p.isList (by simp; omega) fun h' eb => ⟨rfl, I.turned (t' := s.toks) (fun b o hb q => eb b o hb q) f0 f1 f3 f4 f5⟩
  self := fun A i s Q E st h => let ⟨⟨_, he⟩, _⟩ := st; wpAny_pyIter_enum he h
def iEnumC (K : PySem.W.Frag) (c : Int) (ta : TA) : TI := fun σ H R => ta σ H fun vs H1 => ∃ a xs, vs = [.ref a] ∧ SqL K H1 a xs ∧ R (Itf K a c) H1
theorem pi_enumC {X : Cx} {e : Expr} {c : Int} {cb : Nat} {ta : TA} {p pos tpos kp cp : Pos} {elts : List Expr} {kk : Nat} (c0 : -(2 ^ 63) ≤ c) (c1 : c < 2 ^ 63) (hg : Gl X "enumerate") (hm : X.mg "enumerate" = none) (ha : PA X [e] ta) (hs : starEach [e] X.env = (false, eval e X.env) :: starEach [] X.env := by rfl) :
    PI X (.Tuple elts kk tpos) (.Call (.Name "enumerate" p) [e] [⟨some "start", .Constant (.int c) cb cp, kp⟩] pos) (iEnumC X.K c ta) := by
  refine ⟨fun pins s σ H R I h => ?_⟩
  refine wpAny_Call_Name_kw (ld_blt I hg hm boot_enumerate ?_)
  refine callWith_typeKw (thn (ha.run pos pins s σ H _ I h) fun us s1 ⟨vs, H1, I1, r1, q1⟩ => ?_) (by rw [hs]; rfl) (by rw [hs]; rfl) rfl rfl
  obtain ⟨a, xs, ex, hq, q⟩ := q1
  subst ex
  refine kws_cons (thn ((pe_int (X := X) (i := c) (j := cb) (pos := cp)).run pins s1 σ H1 (fun v H2 => v = .int c ∧ H2 = H1) I1 ⟨rfl, rfl⟩) fun uk s2 ⟨v2, H2, I2, r2, q2⟩ => ?_)
  obtain ⟨rfl, rfl⟩ := q2
  obtain ⟨tk, rfl⟩ := r2
  refine kws_nil ?_
  obtain ⟨ua, rfl, ra⟩ := vals1 r1
  obtain rfl : ua = Value.ref a := ra
  obtain ⟨its, rv, p', hz⟩ := I2.list hq
  have halt : a < s2.heap.objs.size := p'.lt
  show wpAny (model X.prog X.w) X.A (call (.type "enumerate") [.ref a] [(Str.ofString "start", .int c tk)]) _ X.xe s2
  refine enum_begins_start (begins_list a its.toArray) p'.isList c0 c1 fun h' he hit hsz hk => wpAny_pyIter_enum he ?_
  have I3 : Inv X pins σ H2 { s2 with heap := h' } := I2.kept (t' := s2.toks) hk
  refine ⟨s2.heap.objs.size + 1, [s2.heap.objs.size + 1, s2.heap.objs.size], _, _, H2, rfl, I3, turn_enumC c a (s2.heap.objs.size + 1) s2.heap.objs.size, ⟨⟨.none, by simpa using he⟩, ⟨_, hit, rfl, rfl⟩, Nat.succ_ne_self _, Nat.ne_of_lt halt, Nat.ne_of_gt (Nat.lt_succ_of_lt halt)⟩, fun b hb => ?_, q⟩
  have e' : b = s2.heap.objs.size + 1 ∨ b = s2.heap.objs.size := by simpa using hb
  have hle : s2.heap.objs.size ≤ b := by
    rcases e' with z | z
    · rw [z]; exact Nat.le_add_right _ _
    · rw [z]; exact Nat.le_refl _
  exact I2.fpOk hle (I2.hok.fresh hle)
theorem walk_enumC {K : PySem.W.Frag} {a : Addr} {c : Int} {xs : List V} : Walk (Itf K a c) xs.length (fun H => SqL K H a xs) (YPair (fun i => some (.int (c + (i : Nat)))) (fun i => xs[i]?)) := by
  refine ⟨fun i _ hi q => ⟨xs, xs[i], q, by simp [hi]⟩, fun _ q => ⟨xs, q, Nat.le_refl _⟩, fun i H v H' _ q y => ?_⟩
  obtain ⟨T, x, h1, h2, h3, h4⟩ := y
  exact ⟨T, .int (c + (i : Nat)), x, h1, h2, h3, rfl, h4 xs q⟩
end Rc

namespace Rc
open PySem PySem.Spec PyProof.Rows L2 RZ
open SX (S split_S join_S num_S int_S S_len S_cat)
open NumText (digitsVal AllDigits)
/-! ### words of rows -/
def wordsV (r : BRow) : List V := (rowW r).map fun l => V.str (S l)
/-- lists of texts at these places -/
def LinesAt (H : Hp) (ws : List Addr) (ls : List (List V)) : Prop := Paired (fun (w : Addr) (l : List V) => H w = some (.lst l)) ws ls
theorem LinesAt.keep {H H' : Hp} : ∀ {ws : List Addr} {ls : List (List V)}, (∀ w ∈ ws, ∀ o, H w = some o → H' w = some o) → LinesAt H ws ls → LinesAt H' ws ls
  | _, _, _, .nil => .nil
  | _, _, k, .cons a b => .cons (k _ List.mem_cons_self _ a) (LinesAt.keep (fun w hw => k w (List.mem_cons_of_mem _ hw)) b)
theorem Paired.get {α β : Type} {R : α → β → Prop} : ∀ {l : List α} {m : List β} {i : Nat} {b : β}, Paired R l m → m[i]? = some b → ∃ a, l[i]? = some a ∧ R a b
  | _, _, 0, _, .cons r t, e => by
    cases e
    exact ⟨_, rfl, r⟩
  | _, _, i + 1, _, .cons r t, e => Paired.get (i := i) t e
theorem Paired.dropLast {α β : Type} {R : α → β → Prop} : ∀ {l : List α} {m : List β} {a : α} {b : β}, Paired R (l ++ [a]) (m ++ [b]) → Paired R l m ∧ R a b
  | [], [], _, _, .cons r _ => ⟨.nil, r⟩
  | [], y :: m, _, _, .cons r t => by
    have := Paired.len t
    simp at this
  | x :: l, [], _, _, .cons r t => by
    have := Paired.len t
    simp at this
  | x :: l, y :: m, _, _, .cons r t => by
    obtain ⟨h1, h2⟩ := Paired.dropLast t
    exact ⟨.cons r h1, h2⟩
def isPer : BRow → Bool
  | .per .. => true
  | .note .. => false
theorem S_cps (z : Str) : S (cpsL z) = z := SX.S_tl z
theorem wPerson_eq : ("person" : Str) = S wPerson := by decide +kernel
theorem nil_eq : ("" : Str) = S [] := by decide +kernel
section
variable {P : Program} {w : World} {K : PySem.W.Frag} {mg : Str → Option Value} {base : Heap}
def spIsR (p : BRow → Prop) (f : BRow → Bool) : Sp := fun vs H Q _ => ∃ (w : Addr) (r : BRow), vs = [.ref w] ∧ H w = some (.lst (wordsV r)) ∧ r.Ok ∧ p r ∧ ∀ H', Same H H' → Q (.bl (f r)) H'
/-! ### is_person_row -/
abbrev sPrw : Stmt := topS 35
theorem scPrw : FnScope ["words"] ["words"] (defScope sPrw) := ⟨rfl, rfl, rfl, by decide +kernel, rfl, by decide +kernel, by decide +kernel⟩
theorem ok_prw {f f1 f2 : Addr} {fd fd1 fd2 : FuncData} (F : Fun K "is_person_row" "is_person_row" sPrw f fd) (B : Blt mg) (gP : ∃ t, mg "PERSON" = some (.str "person" t))
    (WD : Has P w K mg base 1 "is_word" ["text"] (spTrue fun z => wordT z = true) f1 fd1) (NB : Has P w K mg base 1 "is_number" ["text"] (spTrue fun z => ∃ n, FigOk n ∧ z = S (figL n)) f2 fd2) :
    FnOk P w K mg base CX0 2 f fd ["words"] (spIsR (fun _ => True) isPer) := by
  obtain ⟨tP, gP⟩ := gP
  refine F.ok scPrw (fun vs H Q E h => ?_) (fun cdv A outer s H vs Q E hr h => ?_)
  · obtain ⟨v, _, rfl, _⟩ := h
    rfl
  · obtain ⟨wa, r, rfl, hw, ok, _, q⟩ := h
    have hu := hu_of hr
    refine ⟨_, pss_cons (ps_if (PW.pt (pw_or (pt_cmpR op_ne (pe_callB call_len_seq (by rfl) B.len PySem.boot_len (pa_cons (pv 0) pa_nil)) pe_int (nomark _)) (pw_or1 (pt_cmpR op_ne (pe_ix ix_list (pv 0) pe_int (fun _ _ => rfl)) (pe_glob (v := .str "person") (by rfl) gP ⟨_, rfl⟩) (nomark _))))) (pss_one (ps_ret pe_bl)) pss_nil)
      (pss_one (ps_ret (pe_and (pe_call WD.ok hr (by rfl) WD.g WD.kp WD.b .nil pass0 (pa_cons (pe_ix ix_list (pv 0) pe_int (fun _ _ => rfl)) pa_nil)) (pe_and (pe_call NB.ok hr (by rfl) NB.g NB.kp NB.b .nil pass0 (pa_cons (pe_ix ix_list (pv 0) pe_int (fun _ _ => rfl)) pa_nil)) (pe_one (pe_call NB.ok hr (by rfl) NB.g NB.kp NB.b .nil pass0 (pa_cons (pe_ix ix_list (pv 0) pe_int (fun _ _ => rfl)) pa_nil))))))), ?_⟩
    cases r with
    | per z g f' =>
      obtain ⟨nz, fg, ff⟩ := ok
      have hw' : H wa = some (.lst [V.str (S wPerson), .str (S (cpsL z)), .str (S (figL g)), .str (S (figL f'))]) := hw
      refine ⟨.ref wa, rfl, wa, _, rfl, .inl (.inl (.inl hw')), rfl, _, rfl, iteF ?_⟩
      refine ⟨.ref wa, rfl, wa, _, 0, _, rfl, rfl, .inl (.inl hw'), atI_nat (j := 0) rfl, rfl, _, rfl, ?_⟩
      rw [decide_eq_true (show V.str (S wPerson) = V.str "person" from congrArg V.str wPerson_eq.symm)]
      refine iteF ?_
      refine ⟨.ref wa, rfl, wa, _, 1, _, rfl, rfl, .inl (.inl hw'), atI_nat (j := 1) rfl, S (cpsL z), rfl, by rw [S_cps]; exact nz, fun H1 s1 => ⟨_, rfl, iteT ?_⟩⟩
      have h1 := s1 _ _ hw'
      refine ⟨.ref wa, rfl, wa, _, 2, _, rfl, rfl, .inl (.inl h1), atI_nat (j := 2) rfl, S (figL g), rfl, ⟨g, fg, rfl⟩, fun H2 s2 => ⟨_, rfl, iteT ?_⟩⟩
      have h2 := s2 _ _ h1
      exact ⟨.ref wa, rfl, wa, _, 3, _, rfl, rfl, .inl (.inl h2), atI_nat (j := 3) rfl, S (figL f'), rfl, ⟨f', ff, rfl⟩, fun H3 s3 => q H3 (s1.trans (s2.trans s3))⟩
    | note y n =>
      have hw' : H wa = some (.lst [V.str (S []), .str (S []), .str (S (cpsL y)), .str (S (figL n))]) := hw
      refine ⟨.ref wa, rfl, wa, _, rfl, .inl (.inl (.inl hw')), rfl, _, rfl, iteF ?_⟩
      refine ⟨.ref wa, rfl, wa, _, 0, _, rfl, rfl, .inl (.inl hw'), atI_nat (j := 0) rfl, rfl, _, rfl, ?_⟩
      rw [decide_eq_false (show ¬ V.str (S []) = V.str "person" from fun h => by
        have := V.str.inj h
        rw [wPerson_eq] at this
        have := SX.S_inj this
        cases this)]
      exact iteT (q _ (Same.refl _))
/-! ### is_note_row -/
abbrev sNrw : Stmt := topS 36
theorem scNrw : FnScope ["words"] ["words"] (defScope sNrw) := ⟨rfl, rfl, rfl, by decide +kernel, rfl, by decide +kernel, by decide +kernel⟩
theorem ok_nrw {f f1 f2 : Addr} {fd fd1 fd2 : FuncData} (F : Fun K "is_note_row" "is_note_row" sNrw f fd) (B : Blt mg)
    (WD : Has P w K mg base 1 "is_word" ["text"] (spTrue fun z => wordT z = true) f1 fd1) (NB : Has P w K mg base 1 "is_number" ["text"] (spTrue fun z => ∃ n, FigOk n ∧ z = S (figL n)) f2 fd2) :
    FnOk P w K mg base CX0 2 f fd ["words"] (spIsR (fun r => isPer r = false) fun _ => true) := by
  refine F.ok scNrw (fun vs H Q E h => ?_) (fun cdv A outer s H vs Q E hr h => ?_)
  · obtain ⟨v, _, rfl, _⟩ := h
    rfl
  · obtain ⟨wa, r, rfl, hw, ok, ip, q⟩ := h
    have hu := hu_of hr
    refine ⟨_, pss_cons (ps_if (PW.pt (pw_or (pt_cmpR op_ne (pe_callB call_len_seq (by rfl) B.len PySem.boot_len (pa_cons (pv 0) pa_nil)) pe_int (nomark _)) (pw_or (pt_cmpR op_ne (pe_ix ix_list (pv 0) pe_int (fun _ _ => rfl)) pe_str (nomark _)) (pw_or1 (pt_cmpR op_ne (pe_ix ix_list (pv 0) pe_int (fun _ _ => rfl)) pe_str (nomark _)))))) (pss_one (ps_ret pe_bl)) pss_nil)
      (pss_one (ps_ret (pe_and (pe_call WD.ok hr (by rfl) WD.g WD.kp WD.b .nil pass0 (pa_cons (pe_ix ix_list (pv 0) pe_int (fun _ _ => rfl)) pa_nil)) (pe_one (pe_call NB.ok hr (by rfl) NB.g NB.kp NB.b .nil pass0 (pa_cons (pe_ix ix_list (pv 0) pe_int (fun _ _ => rfl)) pa_nil)))))), ?_⟩
    cases r with
    | per z g f' => cases ip
    | note y n =>
      obtain ⟨ny, fn, n1⟩ := ok
      have hw' : H wa = some (.lst [V.str (S []), .str (S []), .str (S (cpsL y)), .str (S (figL n))]) := hw
      have e0 : V.str (S []) = V.str "" := congrArg V.str nil_eq.symm
      refine ⟨.ref wa, rfl, wa, _, rfl, .inl (.inl (.inl hw')), rfl, _, rfl, iteF ?_⟩
      refine ⟨.ref wa, rfl, wa, _, 0, _, rfl, rfl, .inl (.inl hw'), atI_nat (j := 0) rfl, rfl, _, rfl, ?_⟩
      rw [decide_eq_true e0]
      refine iteF ?_
      refine ⟨.ref wa, rfl, wa, _, 1, _, rfl, rfl, .inl (.inl hw'), atI_nat (j := 1) rfl, rfl, _, rfl, ?_⟩
      rw [decide_eq_true e0]
      refine iteF ?_
      refine ⟨.ref wa, rfl, wa, _, 2, _, rfl, rfl, .inl (.inl hw'), atI_nat (j := 2) rfl, S (cpsL y), rfl, by rw [S_cps]; exact ny, fun H1 s1 => ⟨_, rfl, iteT ?_⟩⟩
      have h1 := s1 _ _ hw'
      exact ⟨.ref wa, rfl, wa, _, 3, _, rfl, rfl, .inl (.inl h1), atI_nat (j := 3) rfl, S (figL n), rfl, ⟨n, fn, rfl⟩, fun H3 s3 => q H3 (s1.trans s3)⟩
/-! ### split_rows -/
abbrev sSpr : Stmt := topS 37
abbrev nSpr : List Str := ["text", "rows", "tail", "number", "words", "row"]
theorem scSpr : FnScope nSpr ["text"] (defScope sSpr) := ⟨rfl, rfl, rfl, by decide +kernel, rfl, by decide +kernel, by decide +kernel⟩
def spSpr : Sp := fun vs H Q _ => ∃ rs : List BRow, vs = [.str (S (textL rs))] ∧ (∀ r ∈ rs, r.Ok) ∧ rs.length ≤ 200 ∧ ∀ L ws H', Same H H' → H' L = some (.lst (ws.map V.ref)) → LinesAt H' ws (rs.map wordsV) → Q (.ref L) H'
theorem ok_spr {f f1 f2 : Addr} {fd fd1 fd2 : FuncData} (F : Fun K "split_rows" "split_rows" sSpr f fd) (gE : mg "enumerate" = none)
    (PR : Has P w K mg base 2 "is_person_row" ["words"] (spIsR (fun _ => True) isPer) f1 fd1) (NR : Has P w K mg base 2 "is_note_row" ["words"] (spIsR (fun r => isPer r = false) fun _ => true) f2 fd2) :
    FnOk P w K mg base CX0 3 f fd ["text"] spSpr := by
  refine F.ok scSpr (fun vs H Q E h => ?_) (fun cdv A outer s H vs Q E hr h => ?_)
  · obtain ⟨_, rfl, _⟩ := h
    rfl
  · obtain ⟨rs, rfl, ok, hl, q⟩ := h
    have hu := hu_of hr
    refine ⟨_, pss_cons (ps_setLc (i := 1) (own := [("row", 5)]) (g := gName 5) (tt := tYes) rfl scSpr.nd rfl rfl (sw_true rfl rfl rfl (by decide +kernel)) (pi_list (pe_split (pv 0) pe_str)) (blkOk_by (N := nSpr) (sc := defScope sSpr) (own := [("row", 5)]) (by decide +kernel))
        (fun _ _ _ _ _ => pg_name (i := 5) scSpr.nd rfl (.inl rfl) (hf := .inr rfl)) (fun _ _ _ _ _ => pts_nil) (fun _ _ _ _ _ => pe_split (pv 5) pe_str))
      (pss_cons (ps_set (i := 2) scSpr.nd rfl (.inl rfl) (pe_bm0 PySem.F.plainAttrs_list PySem.F.slot_list_pop PySem.F.type_list_pop mt_pop (pv 1)))
      (pss_cons (ps_for PassesOwn.never rfl (pi_enumC (c := 1) (by decide) (by decide) (by rfl) gE (pa_cons (pv 1) pa_nil)) (pg_tup rfl (pgs_cons (pg_name (i := 3) scSpr.nd rfl (.inl rfl)) (pgs_cons (pg_name (i := 4) scSpr.nd rfl (.inl rfl)) pgs_nil)))
        (pss_one (ps_if (PW.pt (pw_and (pt_not (pt_val (pe_call PR.ok hr (by rfl) PR.g PR.kp PR.b .nil pass0 (pa_cons (pv 4) pa_nil)))) (pw_and1 (pt_not (pt_val (pe_call NR.ok hr (by rfl) NR.g NR.kp NR.b .nil pass0 (pa_cons (pv 4) pa_nil))))))) pss_never pss_nil)))
      (pss_cons (ps_if (pt_cmpR (op_neD hr.units) (pv 2) (pe_lst (pa_cons pe_str pa_nil)) (nomark _)) pss_never pss_nil)
      (pss_one (ps_ret (pv 1)))))), ?_⟩
    have tl := textL_len ok
    have nlE : ("\n" : Str) = S [10] := by decide +kernel
    have blE : (" " : Str) = S [32] := by decide +kernel
    have n10 : (("\n" : Str).length == 0) = false := by decide +kernel
    have n32 : ((" " : Str).length == 0) = false := by decide +kernel
    refine ⟨.str (S (textL rs)), rfl, ⟨_, rfl⟩, _, "\n", rfl, rfl, n10, line_of (by rw [S_len]; omega), fun T nT => ?_⟩
    rw [nlE, split_text ok]
    have s1 := same_upd (o := .lst (((rs.map fun r => S (rowL r)) ++ [S []]).map V.str)) nT
    have hT1 : upd H T (.lst (((rs.map fun r => S (rowL r)) ++ [S []]).map V.str)) T = some (.lst (((rs.map fun r => S (rowL r)) ++ [S []]).map V.str)) := upd_same
    generalize upd H T (.lst (((rs.map fun r => S (rowL r)) ++ [S []]).map V.str)) = H1 at s1 hT1
    refine ⟨T, rfl, ⟨_, .inl (.inl hT1)⟩, fun L nL => ?_⟩
    have hlt : ∀ x ∈ (rs.map fun r => S (rowL r)) ++ [S []], x.length ≤ 260 := fun x hx => by
      rcases List.mem_append.mp hx with hx | hx
      · obtain ⟨r, hr', rfl⟩ := List.mem_map.mp hx
        rw [S_len]
        exact rowL_len (ok r hr')
      · rw [List.mem_singleton.mp hx]
        decide
    have hln : (((rs.map fun r => S (rowL r)) ++ [S []]).map fun x => (Txt.split x (S [32])).map V.str) = rs.map wordsV ++ [[V.str (S [])]] := by
      rw [List.map_append, List.map_map]
      have e1 : rs.map ((fun x => (Txt.split x (S [32])).map V.str) ∘ fun r => S (rowL r)) = rs.map wordsV := List.map_congr_left fun r hr' => by
        show (Txt.split (S (rowL r)) (S [32])).map V.str = wordsV r
        rw [split_row (ok r hr'), List.map_map]
        rfl
      rw [e1]
      exact congrArg (fun l => rs.map wordsV ++ [List.map V.str l]) split_none
    have lent : ((rs.map fun r => S (rowL r)) ++ [S []]).length = rs.length + 1 := by simp
    generalize ((rs.map fun r => S (rowL r)) ++ [S []]) = txts at hT1 hlt hln lent
    generalize hlns : (txts.map fun x => (Txt.split x (S [32])).map V.str) = lns at hln
    refine lc_it (walk_list (K := K) (a := T) (xs := txts.map V.str)) (fun i H' => Same H1 H' ∧ ∃ ws : List Addr, ws.length = i ∧ L ∉ ws ∧ LinesAt H' ws (lns.take i) ∧ H' L = some (.lst (ws.map V.ref))) ⟨same_upd nL, [], rfl, (fun h => by cases h), .nil, upd_same⟩ (fun i H' _ hP => .inl (.inl (hP.1 _ _ hT1)))
      (fun i x H2' H2 hi hP hY => ?_) (fun H2 hP => ?_)
    · obtain ⟨rfl, hx⟩ := hY
      rw [List.length_map] at hi
      obtain ⟨sm, ws, lws, nws, hW, hD⟩ := hP
      have ex : x = .str txts[i] := by
        rw [List.getElem?_map, List.getElem?_eq_getElem hi] at hx
        exact (Option.some.inj hx).symm
      subst ex
      have l160 := hlt txts[i] (List.getElem_mem hi)
      refine ⟨rfl, .str txts[i], rfl, ⟨_, rfl⟩, _, " ", rfl, rfl, n32, line_of (by omega), fun w nw => ?_⟩
      rw [blE]
      have wL : w ≠ L := (ne_of_none hD nw).symm
      have nwS : w ∉ ws := fun h => by
        obtain ⟨k, hk, e⟩ := List.getElem_of_mem h
        have hk' : k < (lns.take i).length := by rw [← Paired.len hW]; exact hk
        obtain ⟨w', e1, e2⟩ := Paired.get hW (List.getElem?_eq_getElem hk')
        rw [List.getElem?_eq_getElem hk, e] at e1
        cases e1
        rw [nw] at e2
        cases e2
      refine ⟨_, (upd_ne wL.symm).trans hD, ?_, fun b o eb => ?_, ws ++ [w], ?_, fun h => ?_, ?_, ?_⟩
      · rw [List.length_map, lws]
        exact small1000 (by omega)
      · rw [upd_ne (ne_of_none eb nL), upd_ne (ne_of_none (sm b o eb) nw)]
        exact sm b o eb
      · rw [List.length_append, lws]
        rfl
      · rcases List.mem_append.mp h with h | h
        · exact nws h
        · exact wL (List.mem_singleton.mp h).symm
      · have hil : i < lns.length := by rw [← hlns, List.length_map]; exact hi
        have el : lns[i] = (Txt.split txts[i] (S [32])).map V.str := by simp only [← hlns, List.getElem_map]
        rw [take_succ hil, el]
        exact Paired.snoc (LinesAt.keep (fun w' hw' o e => by rw [upd_ne (show w' ≠ L from fun z => nws (by rw [← z]; exact hw')), upd_ne (show w' ≠ w from fun z => nwS (by rw [← z]; exact hw'))]; exact e) hW) ((upd_ne wL).trans upd_same)
      · rw [upd_same, List.map_append]
        rfl
    obtain ⟨s2, ws, lws, nws, hW, hL2⟩ := hP
    have lenl : lns.length = rs.length + 1 := by rw [← hlns, List.length_map, lent]
    rw [List.length_map, lent, ← lenl, List.take_length, hln] at hW
    rw [List.length_map, lent] at lws
    obtain ⟨ws0, wl, rfl⟩ : ∃ ws0 wl, ws = ws0 ++ [wl] := by
      have hne : ws ≠ [] := fun z => by
        rw [z] at lws
        cases lws
      exact ⟨ws.dropLast, ws.getLast hne, (List.dropLast_concat_getLast hne).symm⟩
    obtain ⟨hW0, hwl⟩ := Paired.dropLast hW
    have lw0 : ws0.length = rs.length := by
      rw [Paired.len hW0, List.length_map]
    have nL0 : L ∉ ws0 := fun h => nws (List.mem_append_left _ h)
    have nLl : L ≠ wl := fun h => nws (List.mem_append_right _ (List.mem_singleton.mpr h))
    have edl : ((ws0 ++ [wl]).map V.ref).dropLast = ws0.map V.ref := by
      rw [List.map_append]
      exact List.dropLast_concat
    have elast : ((ws0 ++ [wl]).map V.ref)[((ws0 ++ [wl]).map V.ref).length - 1]? = some (.ref wl) := by
      rw [List.map_append, List.length_append]
      show (ws0.map V.ref ++ [V.ref wl])[(ws0.map V.ref).length + 1 - 1]? = _
      rw [Nat.add_sub_cancel, List.getElem?_concat_length]
    refine ⟨.ref L, rfl, .inl ⟨rfl, _, .inl (.inl hL2)⟩, L, _, .ref wl, rfl, rfl, hL2, elast, ?_⟩
    rw [edl]
    have hW3 : LinesAt (upd H2 L (.lst (ws0.map V.ref))) ws0 (rs.map wordsV) := LinesAt.keep (fun w' hw' o e => (upd_ne (show w' ≠ L from fun z => nL0 (by rw [← z]; exact hw'))).trans e) hW0
    have hwl3 : upd H2 L (.lst (ws0.map V.ref)) wl = some (.lst [V.str (S [])]) := (upd_ne nLl.symm).trans hwl
    have hL3 : upd H2 L (.lst (ws0.map V.ref)) L = some (.lst (ws0.map V.ref)) := upd_same
    have s3 : Same H (upd H2 L (.lst (ws0.map V.ref))) := fun b o eb => by
      have e1 := s1 _ _ eb
      rw [upd_ne (ne_of_none e1 nL)]
      exact s2 _ _ e1
    generalize upd H2 L (.lst (ws0.map V.ref)) = H3 at hW3 hwl3 hL3 s3
    -- row by row
    refine ⟨.ref L, rfl, L, _, rfl, .inl (.inl hL3), ?_⟩
    refine for_it (walk_enumC (K := K) (a := L) (c := 1) (xs := ws0.map V.ref)) (fun i σ H' => ∃ y3 y4, σ = [some (.str (S (textL rs))), some (.ref L), some (.ref wl), y3, y4, none] ∧ Same H3 H')
      ⟨_, _, rfl, Same.refl _⟩ (fun i σ H' _ hP => ?_) (fun i x σ H4' H4 hi hP hY => ?_) (fun σ H4 hP => ?_)
    · obtain ⟨_, _, _, s4⟩ := hP
      exact .inl (.inl (s4 _ _ hL3))
    · obtain ⟨T1, x1, x2, rfl, nT1, rfl, e1, e2⟩ := hY
      obtain ⟨y3, y4, rfl, s4⟩ := hP
      rw [List.length_map] at hi
      have hir : i < rs.length := by omega
      have ex2 : x2 = .ref ws0[i] := by
        have e2' : (ws0.map V.ref)[i]? = some x2 := e2
        rw [List.getElem?_map, List.getElem?_eq_getElem hi] at e2'
        exact (Option.some.inj e2').symm
      subst ex2
      have hwi : H3 ws0[i] = some (.lst (wordsV rs[i])) := by
        have hk : (rs.map wordsV)[i]? = some (wordsV rs[i]) := map_get (List.getElem?_eq_getElem hir)
        obtain ⟨w', e1', e2'⟩ := Paired.get hW3 hk
        rw [List.getElem?_eq_getElem hi] at e1'
        cases e1'
        exact e2'
      have sT := same_upd (o := .tup [x1, V.ref ws0[i]]) nT1
      have s5 := s4.trans sT
      have okr := ok _ (List.getElem_mem hir)
      refine ⟨T1, _, rfl, .inl (.inl upd_same), rfl, _, _, rfl, _, _, rfl, rfl, ?_⟩
      refine ⟨.ref ws0[i], rfl, ws0[i], rs[i], rfl, s5 _ _ hwi, okr, trivial, fun H5 s6 => ⟨_, rfl, ?_⟩⟩
      have s7 := s5.trans s6
      cases hp : isPer rs[i]
      · refine iteT ⟨.ref ws0[i], rfl, ws0[i], rs[i], rfl, s7 _ _ hwi, okr, hp, fun H6 s8 => ⟨_, rfl, iteF ?_⟩⟩
        exact ⟨_, _, rfl, s7.trans s8⟩
      · exact iteF (iteF ⟨_, _, rfl, s7⟩)
    obtain ⟨y3, y4, rfl, s4⟩ := hP
    have sh : SeqAt.shaped (.list [.str (S [])]) = true := by decide +kernel
    refine ⟨_, rfl, by show 1 ≤ sizeLine; decide, fun el nel => ?_⟩
    have s5 := same_upd (o := .lst [V.str ""]) nel
    refine ⟨.list [.str (S [])], .list [.str (S [])], .lst (.inl (.inl (s5 _ _ (s4 _ _ hwl3)))) (.cons (.str _) .nil), .lst (.inl (.inl upd_same)) (by rw [nil_eq]; exact .cons (.str _) .nil), sh, sh, _, rfl, ?_⟩
    rw [SeqAt.eqv_refl _ (SeqAt.canLay_of_shaped sh)]
    refine iteF ⟨_, rfl, ?_⟩
    have s35 := s4.trans s5
    exact q L ws0 _ (s3.trans s35) (s35 _ _ hL3) (LinesAt.keep (fun w' _ o e => s35 _ _ e) hW3)
end
end Rc

namespace Rc
open PySem PySem.Spec PyProof.Rows L2 RZ
/-! ### the rows of a model, and the book that they tell -/
def blockR (z : Str) (g f : Int) (l : List (Str × Int)) : List BRow := .per z g f :: l.map fun n => .note n.1 n.2
def blockAt (zs : List Str) (D : Md) (j : Nat) : List BRow := blockR (zs.getD j "") (D.given.getD j 0) (D.fallen.getD j 0) (D.notes.getD j [])
def rowsN (zs : List Str) (D : Md) (i : Nat) : List BRow := ((List.range i).map (blockAt zs D)).flatten
def rowsOf (zs : List Str) (D : Md) : List BRow := rowsN zs D zs.length
theorem rowsN_succ (zs : List Str) (D : Md) (i : Nat) : rowsN zs D (i + 1) = rowsN zs D i ++ blockAt zs D i := by
  unfold rowsN
  rw [List.range_succ, List.map_append, List.flatten_append]
  simp
structure RSt where
  D : Md
  fl : List (Str × Int)
  who : Str
def stepR (zs : List Str) (s : RSt) : BRow → RSt
  | .per z g f => ⟨if 0 < g then doneD zs s.D (.give z g) else s.D, s.fl ++ [(z, f)], z⟩
  | .note y n => ⟨doneD zs s.D (.put s.who y n), s.fl, s.who⟩
def foldR (zs : List Str) (rows : List BRow) : RSt := rows.foldl (stepR zs) ⟨newMd zs.length, [], ""⟩
def perN : BRow → Option Str
  | .per z _ _ => some z
  | .note .. => none
def noteC (rows : List BRow) : Nat := (rows.filter fun r => !isPer r).length
/-- a row of a book of these persons -/
def BRow.OkZ (zs : List Str) : BRow → Prop
  | .per z g f => z ∈ zs ∧ FigOk g ∧ FigOk f
  | .note y n => y ∈ zs ∧ FigOk n ∧ 1 ≤ n
theorem BRow.OkZ.ok {zs : List Str} (h : ∀ z ∈ zs, wordT z = true) {r : BRow} (o : r.OkZ zs) : r.Ok := by
  cases r with
  | per z g f => exact ⟨h z o.1, o.2.1, o.2.2⟩
  | note y n => exact ⟨h y o.1, o.2.1, o.2.1.1⟩
theorem noteC_app (a b : List BRow) : noteC (a ++ b) = noteC a + noteC b := by
  unfold noteC
  rw [List.filter_append, List.length_append]
/-- what stands while rows are read -/
structure RInv (zs : List Str) (rows : List BRow) (i : Nat) (s : RSt) : Prop where
  e : s = foldR zs (rows.take i)
  lg : s.D.given.length = zs.length
  ln : s.D.notes.length = zs.length
  lf : s.D.fallen.length = zs.length
  my : (s.D.notes.map List.length).sum = noteC (rows.take i)
  fk : s.fl.map (·.1) = (rows.take i).filterMap perN
  wh : i = 0 ∨ s.who ∈ zs
theorem RInv.start (zs : List Str) (rows : List BRow) : RInv zs rows 0 ⟨newMd zs.length, [], ""⟩ := by
  refine ⟨rfl, List.length_replicate, List.length_replicate, List.length_replicate, ?_, rfl, .inl rfl⟩
  show ((List.replicate zs.length []).map List.length).sum = 0
  rw [List.map_replicate]
  generalize zs.length = n
  induction n with
  | zero => rfl
  | succ n ih =>
    rw [List.replicate_succ, List.sum_cons, ih]
    rfl
theorem RInv.ok {zs : List Str} {rows : List BRow} {i : Nat} {s : RSt} (h : RInv zs rows i s) (nz : NamesOk zs) (m : noteC rows ≤ 60) : (bkOf zs s.D).Ok := by
  refine ⟨nz.n0, nz.n1, nz.nd, nz.nm, h.lg, h.ln, h.lf, ?_⟩
  have e : noteC rows = noteC (rows.take i) + noteC (rows.drop i) := by rw [← noteC_app, List.take_append_drop]
  have := h.my
  show (s.D.notes.map List.length).sum ≤ 60
  omega
theorem RInv.step {zs : List Str} {rows : List BRow} {i : Nat} {s : RSt} (h : RInv zs rows i s) (hi : i < rows.length) (o : (rows[i]).OkZ zs) (w : isPer rows[i] = false → s.who ∈ zs) : RInv zs rows (i + 1) (stepR zs s rows[i]) := by
  have tk := take_succ hi
  have e1 : stepR zs s rows[i] = foldR zs (rows.take (i + 1)) := by
    rw [tk]
    unfold foldR
    rw [List.foldl_append]
    show _ = stepR zs (foldR zs (rows.take i)) rows[i]
    rw [← h.e]
  have fm : (rows.take (i + 1)).filterMap perN = (rows.take i).filterMap perN ++ (perN rows[i]).toList := by
    rw [tk, List.filterMap_append]
    cases hp : perN rows[i] <;> simp [hp]
  have nc : noteC (rows.take (i + 1)) = noteC (rows.take i) + noteC [rows[i]] := by rw [tk, noteC_app]
  generalize rows[i] = r at *
  cases r with
  | per z g f =>
    have hD : (if 0 < g then doneD zs s.D (.give z g) else s.D).given.length = s.D.given.length ∧ (if 0 < g then doneD zs s.D (.give z g) else s.D).notes = s.D.notes ∧ (if 0 < g then doneD zs s.D (.give z g) else s.D).fallen = s.D.fallen := by
      split
      · exact ⟨List.length_set, rfl, rfl⟩
      · exact ⟨rfl, rfl, rfl⟩
    refine ⟨e1, hD.1.trans h.lg, (congrArg List.length hD.2.1).trans h.ln, (congrArg List.length hD.2.2).trans h.lf, ?_, ?_, .inr o.1⟩
    · show ((if 0 < g then doneD zs s.D (.give z g) else s.D).notes.map List.length).sum = _
      rw [hD.2.1, h.my, nc]
      rfl
    · show (s.fl ++ [(z, f)]).map (·.1) = _
      rw [fm, List.map_append, h.fk]
      rfl
  | note y n =>
    have hw := w rfl
    have hj : zs.idxOf s.who < s.D.notes.length := by
      rw [h.ln]
      exact List.idxOf_lt_length_of_mem hw
    refine ⟨e1, h.lg, List.length_set.trans h.ln, h.lf, ?_, ?_, .inr hw⟩
    · have := sum_set s.D.notes (zs.idxOf s.who) (s.D.notes.getD (zs.idxOf s.who) [] ++ [(y, n)]) hj
      rw [List.length_append] at this
      have e9 : [(y, n)].length = 1 := rfl
      have my := h.my
      show ((s.D.notes.set _ _).map List.length).sum = _
      rw [nc]
      have e8 : noteC [BRow.note y n] = 1 := rfl
      omega
    · show s.fl.map (·.1) = _
      rw [fm, h.fk]
      show _ = _ ++ []
      rw [List.append_nil]
/-! ### the whole -/
theorem set_mid {α : Type} {l : List α} {a x : α} {i : Nat} (hi : i < l.length) (e : l[i] = x) : (l.take i ++ List.replicate (l.length - i) a).set i x = l.take (i + 1) ++ List.replicate (l.length - (i + 1)) a := by
  have hl : (l.take i).length = i := by rw [List.length_take]; omega
  have e1 : List.replicate (l.length - i) a = a :: List.replicate (l.length - (i + 1)) a := by
    rw [show l.length - i = (l.length - (i + 1)) + 1 by omega, List.replicate_succ]
  rw [e1, List.set_append_right _ _ (by omega), hl, Nat.sub_self, List.set_cons_zero, take_succ hi, e, List.append_assoc]
  rfl
theorem get_mid {α : Type} {l : List α} {a d : α} {i : Nat} (hi : i < l.length) : (l.take i ++ List.replicate (l.length - i) a).getD i d = a := by
  have hl : (l.take i).length = i := by rw [List.length_take]; omega
  rw [List.getD_eq_getElem?_getD, List.getElem?_append_right (by omega), hl, Nat.sub_self, List.getElem?_replicate, if_pos (by omega)]
  rfl
def partD (zs : List Str) (D : Md) (i : Nat) : Md := ⟨D.given.take i ++ List.replicate (D.given.length - i) 0, zeros zs.length, D.notes.take i ++ List.replicate (D.notes.length - i) []⟩
theorem notesR_fold (zs : List Str) (z : Str) : ∀ (l : List (Str × Int)) (G F : List Int) (N : List (List (Str × Int))) (fl : List (Str × Int)), zs.idxOf z < N.length →
    (l.map fun n => BRow.note n.1 n.2).foldl (stepR zs) ⟨⟨G, F, N⟩, fl, z⟩ = ⟨⟨G, F, N.set (zs.idxOf z) (N.getD (zs.idxOf z) [] ++ l)⟩, fl, z⟩
  | [], G, F, N, fl, hj => by
    show (⟨⟨G, F, N⟩, fl, z⟩ : RSt) = _
    rw [List.append_nil, getD_of (List.getElem?_eq_getElem hj), List.set_getElem_self]
  | n :: l, G, F, N, fl, hj => by
    rw [List.map_cons, List.foldl_cons]
    show (l.map fun n => BRow.note n.1 n.2).foldl (stepR zs) ⟨⟨G, F, N.set (zs.idxOf z) (N.getD (zs.idxOf z) [] ++ [(n.1, n.2)])⟩, fl, z⟩ = _
    rw [notesR_fold zs z l G F _ fl (by rw [List.length_set]; exact hj), List.set_set, getD_of (List.getElem?_set_self hj), List.append_assoc]
    rfl
theorem fold_part {zs : List Str} {D : Md} (nd : zs.Nodup) (lg : D.given.length = zs.length) (lf : D.fallen.length = zs.length) (ln : D.notes.length = zs.length) (g0 : ∀ g ∈ D.given, 0 ≤ g) : ∀ i, i ≤ zs.length →
    ∃ w, foldR zs (rowsN zs D i) = ⟨partD zs D i, (zs.zip D.fallen).take i, w⟩
  | 0, _ => by
    refine ⟨"", ?_⟩
    show (⟨newMd zs.length, [], ""⟩ : RSt) = _
    unfold partD newMd zeros
    rw [lg, ln]
    rfl
  | i + 1, hi => by
    obtain ⟨w, ih⟩ := fold_part nd lg lf ln g0 i (by omega)
    have hz : i < zs.length := hi
    have hg : i < D.given.length := by omega
    have hf : i < D.fallen.length := by omega
    have hn : i < D.notes.length := by omega
    have ix : zs.idxOf zs[i] = i := nd.idxOf_getElem i hz
    refine ⟨zs[i], ?_⟩
    rw [rowsN_succ]
    unfold foldR at ih ⊢
    rw [List.foldl_append, ih]
    unfold blockAt blockR
    rw [getD_of (List.getElem?_eq_getElem hz), getD_of (List.getElem?_eq_getElem hg), getD_of (List.getElem?_eq_getElem hf), getD_of (List.getElem?_eq_getElem hn), List.foldl_cons]
    have e1 : stepR zs ⟨partD zs D i, (zs.zip D.fallen).take i, w⟩ (.per zs[i] D.given[i] D.fallen[i]) = ⟨⟨D.given.take (i + 1) ++ List.replicate (D.given.length - (i + 1)) 0, zeros zs.length, D.notes.take i ++ List.replicate (D.notes.length - i) []⟩, (zs.zip D.fallen).take i ++ [(zs[i], D.fallen[i])], zs[i]⟩ := by
      have g1 := g0 _ (List.getElem_mem hg)
      have e2 : (if 0 < D.given[i] then doneD zs (partD zs D i) (.give zs[i] D.given[i]) else partD zs D i) = ⟨D.given.take (i + 1) ++ List.replicate (D.given.length - (i + 1)) 0, zeros zs.length, D.notes.take i ++ List.replicate (D.notes.length - i) []⟩ := by
        split
        · show (⟨(D.given.take i ++ List.replicate (D.given.length - i) 0).set (zs.idxOf zs[i]) ((D.given.take i ++ List.replicate (D.given.length - i) 0).getD (zs.idxOf zs[i]) 0 + D.given[i]), _, _⟩ : Md) = _
          rw [ix, get_mid hg, Int.zero_add, set_mid hg rfl]
          rfl
        · have ez : D.given[i] = 0 := by omega
          unfold partD
          rw [← set_mid (a := (0 : Int)) hg ez]
          have e3 : (D.given.take i ++ List.replicate (D.given.length - i) (0 : Int))[i]? = some 0 := by
            have hl : (D.given.take i).length = i := by rw [List.length_take]; omega
            rw [List.getElem?_append_right (by omega), hl, Nat.sub_self, List.getElem?_replicate, if_pos (by omega)]
          obtain ⟨h4, e4⟩ := List.getElem?_eq_some_iff.mp e3
          have e5 := List.set_getElem_self h4
          rw [e4] at e5
          congr 1
          exact e5.symm
      show (⟨(if 0 < D.given[i] then doneD zs (partD zs D i) (.give zs[i] D.given[i]) else partD zs D i), _, _⟩ : RSt) = _
      rw [e2]
    rw [e1, notesR_fold zs zs[i] D.notes[i] _ _ _ _ (by rw [ix, List.length_append, List.length_take, List.length_replicate]; omega), ix, get_mid hn, List.nil_append, set_mid hn rfl]
    have hzp : i < (zs.zip D.fallen).length := by rw [List.length_zip]; omega
    rw [take_succ hzp, List.getElem_zip]
    rfl
theorem fold_all {zs : List Str} {D : Md} (nd : zs.Nodup) (lg : D.given.length = zs.length) (lf : D.fallen.length = zs.length) (ln : D.notes.length = zs.length) (g0 : ∀ g ∈ D.given, 0 ≤ g) : (foldR zs (rowsOf zs D)).D = { D with fallen := zeros zs.length } ∧ (foldR zs (rowsOf zs D)).fl = zs.zip D.fallen := by
  obtain ⟨w, e⟩ := fold_part nd lg lf ln g0 zs.length (Nat.le_refl _)
  unfold rowsOf
  rw [e]
  refine ⟨?_, ?_⟩
  · show partD zs D zs.length = _
    unfold partD
    rw [← lg, List.take_length, Nat.sub_self, lg, ← ln, List.take_length, Nat.sub_self, ln]
    simp
  · show (zs.zip D.fallen).take zs.length = _
    exact List.take_of_length_le (by rw [List.length_zip]; omega)
theorem rowsN_facts {zs : List Str} {D : Md} (lg : D.given.length = zs.length) (lf : D.fallen.length = zs.length) (ln : D.notes.length = zs.length) : ∀ i, i ≤ zs.length →
    (rowsN zs D i).filterMap perN = zs.take i ∧ noteC (rowsN zs D i) = ((D.notes.take i).map List.length).sum ∧ (rowsN zs D i).length = i + ((D.notes.take i).map List.length).sum ∧
    (∀ r ∈ rowsN zs D i, ∃ j, j < zs.length ∧ r ∈ blockAt zs D j) ∧ (∀ r, (rowsN zs D i)[0]? = some r → isPer r = true)
  | 0, _ => ⟨rfl, rfl, rfl, (fun r h => by cases h), (fun r h => by cases h)⟩
  | i + 1, hi => by
    obtain ⟨h1, h2, h3, h4, h5⟩ := rowsN_facts lg lf ln i (by omega)
    have hz : i < zs.length := hi
    have hn : i < D.notes.length := by omega
    have eb : blockAt zs D i = .per zs[i] (D.given.getD i 0) (D.fallen.getD i 0) :: (D.notes[i]).map fun n => .note n.1 n.2 := by
      unfold blockAt blockR
      rw [getD_of (List.getElem?_eq_getElem hz), getD_of (List.getElem?_eq_getElem hn)]
    have b1 : (blockAt zs D i).filterMap perN = [zs[i]] := by
      rw [eb, List.filterMap_cons]
      show zs[i] :: _ = _
      congr 1
      rw [List.filterMap_map]
      exact List.filterMap_eq_nil_iff.mpr fun x hx => rfl
    have b2 : noteC (blockAt zs D i) = (D.notes[i]).length := by
      rw [eb]
      unfold noteC
      rw [List.filter_cons_of_neg (by simp [isPer]), List.filter_eq_self.mpr, List.length_map]
      intro r hr
      obtain ⟨n, hn', rfl⟩ := List.mem_map.mp hr
      rfl
    have b3 : (blockAt zs D i).length = 1 + (D.notes[i]).length := by
      rw [eb, List.length_cons, List.length_map]
      omega
    have sm : ((D.notes.take (i + 1)).map List.length).sum = ((D.notes.take i).map List.length).sum + (D.notes[i]).length := by
      rw [take_succ hn, List.map_append, List.sum_append]
      simp
    rw [rowsN_succ]
    refine ⟨by rw [List.filterMap_append, h1, b1, take_succ hz], by rw [noteC_app, h2, b2, sm], by rw [List.length_append, h3, b3, sm]; omega, fun r hr => ?_, fun r hr => ?_⟩
    · rcases List.mem_append.mp hr with hr | hr
      · exact h4 r hr
      · exact ⟨i, hz, hr⟩
    · cases hrows : rowsN zs D i with
      | nil =>
        rw [hrows, List.nil_append, eb] at hr
        cases hr
        rfl
      | cons a t =>
        rw [hrows] at hr h5
        exact h5 r hr
/-! ### of a good model -/
theorem fig_small {n : Int} (h0 : 0 ≤ n) (h : n ≤ 6000 * 10 ^ 58) : FigOk n := ⟨h0, Int.lt_of_le_of_lt h (by decide +kernel)⟩
structure RowsOk' (zs : List Str) (rows : List BRow) : Prop where
  ok : ∀ r ∈ rows, r.OkZ zs
  nm : rows.filterMap perN = zs
  nc : noteC rows ≤ 60
  len : rows.length ≤ 72
  fst : ∀ r, rows[0]? = some r → isPer r = true
theorem rows_good {zs : List Str} {D : Md} (g : Gs zs D) (gb : Gb D) : RowsOk' zs (rowsOf zs D) := by
  obtain ⟨h1, h2, h3, h4, h5⟩ := rowsN_facts g.lg g.lf g.ln zs.length (Nat.le_refl _)
  rw [List.take_length] at h1
  rw [show D.notes.take zs.length = D.notes by rw [← g.ln, List.take_length]] at h2 h3
  have my := g.my
  have n12 := g.nz.n1
  refine ⟨fun r hr => ?_, h1, by unfold rowsOf; omega, by unfold rowsOf; omega, h5⟩
  obtain ⟨j, hj, hr⟩ := h4 r hr
  have hg : j < D.given.length := by rw [g.lg]; exact hj
  have hf : j < D.fallen.length := by rw [g.lf]; exact hj
  have hn : j < D.notes.length := by rw [g.ln]; exact hj
  unfold blockAt blockR at hr
  rw [getD_of (List.getElem?_eq_getElem hj), getD_of (List.getElem?_eq_getElem hg), getD_of (List.getElem?_eq_getElem hf), getD_of (List.getElem?_eq_getElem hn)] at hr
  rcases List.mem_cons.mp hr with rfl | hr
  · have hgv := gb.gv _ (List.getElem_mem hg)
    have hf0 := g.fl _ (List.getElem_mem hf)
    have hfw := gb.fw j _ _ (List.getElem?_eq_getElem hn) (List.getElem?_eq_getElem hf)
    have hw := wholeN_le (g.nt _ (List.getElem_mem hn))
    have hl := g.rows _ (List.getElem_mem hn)
    have hw60 : ((D.notes[j]).length : Int) * 10 ^ 58 ≤ 60 * 10 ^ 58 := Int.mul_le_mul_of_nonneg_right (by omega) (by decide)
    have l1 : (60 : Int) * 10 ^ 58 ≤ 6000 * 10 ^ 58 := by decide
    have l2 : (100 : Int) * 10 ^ 58 ≤ 6000 * 10 ^ 58 := by decide
    exact ⟨List.getElem_mem hj, fig_small hgv.1 (Int.le_trans hgv.2 l2), fig_small hf0 (by omega)⟩
  · obtain ⟨n, hn', rfl⟩ := List.mem_map.mp hr
    obtain ⟨n1, n2, n3⟩ := g.nt _ (List.getElem_mem hn) n hn'
    have l1 : (1 : Int) * 10 ^ 58 ≤ 6000 * 10 ^ 58 := by decide
    exact ⟨n1, fig_small (by omega) (by omega), n2⟩
theorem zip_fall {zs : List Str} {F : List Int} (nd : zs.Nodup) (l : F.length = zs.length) : zs.zip F = zs.map fun z => (z, F.getD (zs.idxOf z) 0) := by
  refine List.ext_getElem (by rw [List.length_zip, List.length_map]; omega) fun i h1 h2 => ?_
  rw [List.length_map] at h2
  rw [List.getElem_zip, List.getElem_map, nd.idxOf_getElem i h2, getD_of (List.getElem?_eq_getElem (by omega))]
theorem more_at' {zs : List Str} {φ : Str → Int} {z : Str} (hz : z ∈ zs) : moreAt (zs.map fun z => (z, φ z)) z = φ z := by
  unfold moreAt
  induction zs with
  | nil => cases hz
  | cons y zs ih =>
    rw [List.map_cons, List.find?_cons]
    by_cases h : y = z
    · subst h
      simp
    · rw [show decide ((y, φ y).1 = z) = false from decide_eq_false h]
      exact ih ((List.mem_cons.mp hz).resolve_left fun c => h c.symm)
theorem fall_back {zs : List Str} {D : Md} (g : Gs zs D) : fallM (bkOf zs { D with fallen := zeros zs.length }) (zs.zip D.fallen) = bkOf zs D := by
  have nd := g.nz.nd
  have ed : (zs.zip (zeros zs.length)).map (fun p => p.2 + moreAt (zs.zip D.fallen) p.1) = D.fallen := by
    refine List.ext_getElem (by rw [List.length_map, List.length_zip]; unfold zeros; rw [List.length_replicate, g.lf]; omega) fun i h1 h2 => ?_
    have hz : i < zs.length := by rw [← g.lf]; exact h2
    rw [List.getElem_map, List.getElem_zip]
    show (zeros zs.length)[i]'(by unfold zeros; rw [List.length_replicate]; exact hz) + moreAt (zs.zip D.fallen) zs[i] = _
    rw [zip_fall nd g.lf, more_at' (List.getElem_mem hz), nd.idxOf_getElem i hz, getD_of (List.getElem?_eq_getElem h2)]
    unfold zeros
    rw [List.getElem_replicate]
    omega
  show ({ names := zs, gifts := D.given, stacks := D.notes, drops := (zs.zip (zeros zs.length)).map (fun p => p.2 + moreAt (zs.zip D.fallen) p.1) } : Bk) = _
  rw [ed]
  rfl
theorem fall_backOk {zs : List Str} {D : Md} (g : Gs zs D) (gb : Gb D) : FallOk (bkOf zs { D with fallen := zeros zs.length }) (zs.zip D.fallen) := by
  refine ⟨fun p hp => ?_, fun j z ej => ?_⟩
  · obtain ⟨i, hi, rfl⟩ := List.getElem_of_mem hp
    rw [List.length_zip] at hi
    have hz : i < zs.length := by omega
    have hf : i < D.fallen.length := by omega
    have hn : i < D.notes.length := by rw [g.ln]; exact hz
    rw [List.getElem_zip]
    have h0 := g.fl _ (List.getElem_mem hf)
    have hw := gb.fw i _ _ (List.getElem?_eq_getElem hn) (List.getElem?_eq_getElem hf)
    refine ⟨i, D.notes[i], 0, List.getElem?_eq_getElem hz, List.getElem?_eq_getElem hn, ?_, h0, ?_⟩
    · show (zeros zs.length)[i]? = some 0
      unfold zeros
      rw [List.getElem?_replicate, if_pos hz]
    · show 0 + D.fallen[i] ≤ _
      omega
  · rw [fall_back g]
    exact g.cs j z ej
end Rc

namespace Rc
open PySem PySem.Spec PyProof.Rows L2 RZ
open SX (S split_S join_S num_S int_S S_len S_cat)
theorem putK_fresh {ps : List (Str × Int)} {z : Str} (v : Int) (h : z ∉ ps.map (·.1)) : putK (moreK ps) (Sum.inr z) (.int v) = moreK (ps ++ [(z, v)]) := by
  rw [putK_new _ (by
    unfold moreK
    induction ps with
    | nil => rfl
    | cons p r ih =>
      rw [List.map_cons, List.mem_cons] at h
      rw [List.map_cons, valV_neg (show ((Sum.inr p.1 : Key), V.int p.2).1 ≠ Sum.inr z from fun e => h (.inl (Sum.inr.inj e).symm))]
      exact ih fun e => h (.inr e))]
  unfold moreK
  rw [List.map_append]
  rfl
section
variable {P : Program} {w : World} {K : PySem.W.Frag} {mg : Str → Option Value} {base : Heap}
/-! ### book_of_rows -/
abbrev sBor : Stmt := topS 38
abbrev nBor : List Str := ["rows", "words", "book", "fallen", "who", "given"]
theorem scBor : FnScope nBor ["rows"] (defScope sBor) := ⟨rfl, rfl, rfl, by decide +kernel, rfl, by decide +kernel, by decide +kernel⟩
def spBor (K : PySem.W.Frag) (C : Addr) : Sp := fun vs H Q _ => ∃ (L : Addr) (ws : List Addr) (zs : List Str) (D : Md), vs = [.ref L] ∧ H L = some (.lst (ws.map V.ref)) ∧ LinesAt H ws ((rowsOf zs D).map wordsV) ∧ Gs zs D ∧ Gb D ∧
  ∀ b H', Same H H' → H b = none → BookAt K C H' b (bkOf zs D) → Q (.ref b) H'
theorem ok_bor {f f1 f2 f3 f4 f5 fI C : Addr} {fd fd1 fd2 fd3 fd4 fd5 fdI : FuncData} (F : Fun K "book_of_rows" "book_of_rows" sBor f fd) (T : ClsF K C)
    (M : Mk K C fI) (gC : mg "Book" = some (.ref C)) (GI : FnOk P w K mg base CX0 3 fI fdI ["self", "persons"] (spInit K C)) (bI : Binds K fdI ["self", "persons"] [])
    (PR : Has P w K mg base 2 "is_person_row" ["words"] (spIsR (fun _ => True) isPer) f1 fd1) (NO : Has P w K mg base 1 "number_of" ["figures"] spNof f2 fd2)
    (GE : HasM P w K mg base C 6 "give" ["self", "who", "amount"] (spGive K C) f3 fd3) (PU : HasM P w K mg base C 6 "put" ["self", "who", "to", "amount"] (spPut K C) f4 fd4)
    (LF : HasM P w K mg base C 7 "let_fall" ["self", "more"] (spLetF K C) f5 fd5) : FnOk P w K mg base CX0 8 f fd ["rows"] (spBor K C) := by
  refine F.ok scBor (fun vs H Q E h => ?_) (fun cdv A outer s H vs Q E hr h => ?_)
  · obtain ⟨_, _, _, _, rfl, _⟩ := h
    rfl
  · obtain ⟨L, ws, zs, D, rfl, hL, hW, g, gb, q⟩ := h
    have hu := hu_of hr
    have hr1 := hr.mono (show 1 ≤ 7 by decide)
    have hr2 := hr.mono (show 2 ≤ 7 by decide)
    have hr4 := hr.mono (show 4 ≤ 7 by decide)
    have hr6 := hr.mono (show 6 ≤ 7 by decide)
    refine ⟨_, pss_cons (ps_set (i := 2) scBor.nd rfl (.inl rfl) (pe_make M GI hr4 (by rfl) gC bI .nil pass0 (pa_cons (pe_lc (own := [("words", 1)]) (g := gName 1) rfl scBor.nd (pi_list (pv 0)) (blkOk_by (N := nBor) (sc := defScope sBor) (own := [("words", 1)]) (by decide +kernel))
        (fun _ _ _ _ _ => pg_name (i := 1) scBor.nd rfl (.inl rfl) (hf := .inr rfl)) (fun _ _ _ _ _ => pts_one (pt_val (pe_call PR.ok hr2 (by rfl) PR.g PR.kp PR.b .nil pass0 (pa_cons (pv 1) pa_nil)))) (fun _ _ _ _ _ => pe_ix (ix_listS (K := K) rfl) (pv 1) pe_int (fun _ _ => rfl))) pa_nil)))
      (pss_cons (ps_set (i := 3) scBor.nd rfl (.inl rfl) pe_dnewK)
      (pss_cons (ps_set (i := 4) scBor.nd rfl (.inl rfl) pe_str)
      (pss_cons (ps_for PassesOwn.never rfl (pi_list (pv 0)) (pg_name (i := 1) scBor.nd rfl (.inl rfl))
        (pss_one (ps_if (pt_val (pe_call PR.ok hr2 (by rfl) PR.g PR.kp PR.b .nil pass0 (pa_cons (pv 1) pa_nil)))
          (pss_cons (ps_set (i := 4) scBor.nd rfl (.inl rfl) (pe_ix ix_list (pv 1) pe_int (fun _ _ => rfl)))
          (pss_cons (ps_dput hu (pv 3) (pv 4) (pe_call NO.ok hr1 (by rfl) NO.g NO.kp NO.b .nil pass0 (pa_cons (pe_ix ix_list (pv 1) pe_int (fun _ _ => rfl)) pa_nil)) rfl)
          (pss_cons (ps_set (i := 5) scBor.nd rfl (.inl rfl) (pe_call NO.ok hr1 (by rfl) NO.g NO.kp NO.b .nil pass0 (pa_cons (pe_ix ix_list (pv 1) pe_int (fun _ _ => rfl)) pa_nil)))
          (pss_one (ps_if (pt_cmpR op_gt (pv 5) pe_int (nomark _)) (pss_one (ps_set (i := 2) scBor.nd rfl (.inl rfl) (pe_meth (pv 2) T.cl GE.m GE.ok hr6 GE.b .nil pass0 (pa_cons (pv 4) (pa_cons (pv 5) pa_nil))))) pss_nil)))))
          (pss_one (ps_set (i := 2) scBor.nd rfl (.inl rfl) (pe_meth (pv 2) T.cl PU.m PU.ok hr6 PU.b .nil pass0 (pa_cons (pv 4) (pa_cons (pe_ix ix_list (pv 1) pe_int (fun _ _ => rfl)) (pa_cons (pe_call NO.ok hr1 (by rfl) NO.g NO.kp NO.b .nil pass0 (pa_cons (pe_ix ix_list (pv 1) pe_int (fun _ _ => rfl)) pa_nil)) pa_nil))))))) ))
      (pss_one (ps_ret (pe_meth (pv 2) T.cl LF.m LF.ok hr LF.b .nil pass0 (pa_cons (pv 3) pa_nil))))))), ?_⟩
    have nz := g.nz
    have rg := rows_good g gb
    have fin := fold_all g.nz.nd g.lg g.lf g.ln (fun x hx => (gb.gv x hx).1)
    have fok := fall_backOk g gb
    have fbk := fall_back g
    generalize hrows : rowsOf zs D = rows at hW rg fin
    have lw : ws.length = rows.length := by rw [Paired.len hW, List.length_map]
    have okr : ∀ (i : Nat) (hi : i < rows.length), (rows[i]).OkZ zs := fun i hi => rg.ok _ (List.getElem_mem hi)
    have hat : ∀ (i : Nat) (hi : i < rows.length) (hi' : i < ws.length), H ws[i] = some (.lst (wordsV rows[i])) := fun i hi hi' => by
      have hk : (rows.map wordsV)[i]? = some (wordsV rows[i]) := map_get (List.getElem?_eq_getElem hi)
      obtain ⟨w', e1', e2'⟩ := Paired.get hW hk
      rw [List.getElem?_eq_getElem hi'] at e1'
      cases e1'
      exact e2'
    have l72 := rg.len
    -- the names
    refine ⟨.ref L, rfl, L, rfl, ⟨_, .inl (.inl hL)⟩, fun L0 nL0 => ?_⟩
    refine lc_it (walk_list (K := K) (a := L) (xs := ws.map V.ref)) (fun i H' => Same H H' ∧ H' L0 = some (.lst (((rows.take i).filterMap perN).map V.str))) ⟨same_upd nL0, upd_same⟩ (fun i H' _ hP => .inl (.inl (hP.1 _ _ hL)))
      (fun i x H2' H2 hi hP hY => ?_) (fun H2 hP => ?_)
    · obtain ⟨rfl, hx⟩ := hY
      rw [List.length_map] at hi
      obtain ⟨sm, hD⟩ := hP
      have hir : i < rows.length := by omega
      have ex : x = .ref ws[i] := by
        rw [List.getElem?_map, List.getElem?_eq_getElem hi] at hx
        exact (Option.some.inj hx).symm
      subst ex
      have hwi := hat i hir hi
      have tk := take_succ hir
      have orow := okr i hir
      generalize rows[i] = r at hwi tk orow
      refine ⟨rfl, .ref ws[i], rfl, ws[i], r, rfl, sm _ _ hwi, orow.ok fun z hz => word_of_name (nz.nm z hz), trivial, fun H3 s3 => ?_⟩
      have sm3 := sm.trans s3
      cases r with
      | per z g f =>
        refine ⟨_, rfl, iteT ⟨.ref ws[i], rfl, ws[i], _, 1, _, rfl, rfl, .inl (.inl (sm3 _ _ hwi)), atI_nat (j := 1) rfl, _, s3 _ _ hD, ?_, fun b o eb => ?_, ?_⟩⟩
        · rw [List.length_map]
          exact small1000 (Nat.le_trans (List.length_filterMap_le _ _) (by rw [List.length_take]; omega))
        · rw [upd_ne (ne_of_none eb nL0)]
          exact sm3 _ _ eb
        · rw [upd_same, tk, List.filterMap_append, List.map_append]
          show some (HO.lst (_ ++ [V.str (S (cpsL z))])) = _
          rw [S_cps]
          rfl
      | note y n =>
        refine ⟨_, rfl, iteF ⟨sm3, ?_⟩⟩
        rw [tk, List.filterMap_append]
        show H3 L0 = some (.lst ((_ ++ []).map V.str))
        rw [List.append_nil]
        exact s3 _ _ hD
    obtain ⟨s2, hL0⟩ := hP
    rw [List.length_map, lw, List.take_length, rg.nm] at hL0
    refine fun x dx nx ndx nxd => ?_
    have s3 : Same H2 (upd (upd H2 dx (.own x)) x (.ins C dx [])) := fun c o e => by
      rw [upd_ne (ne_of_none e nx), upd_ne (ne_of_none e ndx)]
      exact e
    have nxH : H x = none := s2.free nx
    refine ⟨x, dx, L0, zs, rfl, upd_same, s3 _ _ hL0, nz, fun H4 b4 bk => ⟨rfl, ?_⟩⟩
    have s24 : Same H2 H4 := fun c o e => b4 c o (ne_of_none e nx) (s3 c o e)
    have b0 : BookAt K C H4 x (bkOf zs (newMd zs.length)) := bk
    have s4 := s2.trans s24
    refine fun fd0 nfd => ?_
    have nfH : H fd0 = none := s4.free nfd
    have s5 := same_upd (o := .dK []) nfd
    have hfd5 : upd H4 fd0 (.dK []) fd0 = some (.dK (moreK [])) := upd_same
    generalize upd H4 fd0 (.dK []) = H5 at s5 hfd5
    have b5 := book_same b0 s5
    refine ⟨.ref L, rfl, L, rfl, ⟨_, .inl (.inl ((s4.trans s5) _ _ hL))⟩, ?_⟩
    refine for_it (walk_list (K := K) (a := L) (xs := ws.map V.ref)) (fun i σ H' => ∃ b s y1 y5, σ = [some (.ref L), y1, some (.ref b), some (.ref fd0), some (.str s.who), y5] ∧ Same H H' ∧ BookAt K C H' b (bkOf zs s.D) ∧ H b = none ∧ H' fd0 = some (.dK (moreK s.fl)) ∧ RInv zs rows i s)
      ⟨x, _, _, _, rfl, s4.trans s5, b5, nxH, hfd5, RInv.start zs rows⟩ (fun i σ H' _ hP => ?_) (fun i x6 σ H6' H6 hi hP hY => ?_) (fun σ H6 hP => ?_)
    · obtain ⟨_, _, _, _, _, s6, _⟩ := hP
      exact .inl (.inl (s6 _ _ hL))
    · obtain ⟨rfl, hx⟩ := hY
      obtain ⟨b, s, y1, y5, rfl, s6, hb6, nb, hfd6, ri⟩ := hP
      rw [List.length_map] at hi
      have hir : i < rows.length := by omega
      have ex : x6 = .ref ws[i] := by
        rw [List.getElem?_map, List.getElem?_eq_getElem hi] at hx
        exact (Option.some.inj hx).symm
      subst ex
      have hwi := hat i hir hi
      have orow := okr i hir
      have okb := ri.ok nz rg.nc
      have whp : isPer rows[i] = false → s.who ∈ zs := fun hp => by
        rcases ri.wh with h0 | h0
        · subst h0
          have := rg.fst rows[0] (List.getElem?_eq_getElem hir)
          rw [this] at hp
          cases hp
        · exact h0
      have rn := ri.step hir orow whp
      have hnc : isPer rows[i] = false → (s.D.notes.map List.length).sum < 60 := fun hp => by
        have e : noteC rows = noteC (rows.take (i + 1)) + noteC (rows.drop (i + 1)) := by rw [← noteC_app, List.take_append_drop]
        have e2 : noteC (rows.take (i + 1)) = noteC (rows.take i) + 1 := by
          rw [take_succ hir, noteC_app]
          unfold noteC
          rw [List.filter_cons_of_pos (by rw [hp]; rfl)]
          rfl
        have := rg.nc
        have := ri.my
        omega
      have frs : perN rows[i] = none ∨ ∃ z, perN rows[i] = some z ∧ z ∉ s.fl.map (·.1) := by
        cases hp : perN rows[i] with
        | none => exact .inl rfl
        | some z =>
          refine .inr ⟨z, rfl, fun hm => ?_⟩
          have e1 : rows.filterMap perN = (rows.take i).filterMap perN ++ ([z] ++ (rows.drop (i + 1)).filterMap perN) := by
            conv => lhs; rw [← List.take_append_drop i rows, List.drop_eq_getElem_cons hir]
            rw [List.filterMap_append, List.filterMap_cons, hp]
            rfl
          have nd := nz.nd
          rw [← rg.nm, e1, List.nodup_append] at nd
          rw [ri.fk] at hm
          exact nd.2.2 z hm z (List.mem_append_left _ (List.mem_singleton.mpr rfl)) rfl
      generalize rows[i] = r at hwi orow whp rn hnc frs
      refine ⟨.ref ws[i], rfl, ws[i], r, rfl, s6 _ _ hwi, orow.ok fun z hz => word_of_name (nz.nm z hz), trivial, fun H7 s7 => ?_⟩
      have s67 := s6.trans s7
      have hb7 := book_same hb6 s7
      have hfd7 := s7 _ _ hfd6
      have hw7 := s67 _ _ hwi
      cases r with
      | per z g0 f0 =>
        obtain ⟨hz, fg, ff⟩ := orow
        have hw7' : H7 ws[i] = some (.lst [V.str (S wPerson), .str (S (cpsL z)), .str (S (figL g0)), .str (S (figL f0))]) := hw7
        refine ⟨_, rfl, iteT ⟨.ref ws[i], rfl, ws[i], _, 1, _, rfl, rfl, .inl (.inl hw7'), atI_nat (j := 1) rfl, ?_⟩⟩
        refine ⟨.ref ws[i], rfl, ws[i], _, 3, _, rfl, rfl, .inl (.inl hw7'), atI_nat (j := 3) rfl, f0, rfl, ff, fun H8 s8 => ?_⟩
        have hfd8 := s8 _ _ hfd7
        have lfl : s.fl.length ≤ 72 := by
          have e1 := congrArg List.length ri.fk
          rw [List.length_map] at e1
          have := List.length_filterMap_le perN (rows.take i)
          rw [List.length_take] at this
          omega
        refine ⟨.ref fd0, rfl, .str (S (cpsL z)), rfl, fd0, _, rfl, DPut.k (k := Sum.inr (S (cpsL z))) hfd8 (by rw [show (moreK s.fl).length = s.fl.length from List.length_map ..]; exact small1000 (by omega)), ?_⟩
        obtain ⟨z', ez, nz'⟩ : ∃ z', perN (BRow.per z g0 f0) = some z' ∧ z' ∉ s.fl.map (·.1) := by
          rcases frs with h | h
          · cases h
          · exact h
        cases ez
        have ep : upd H8 fd0 (.dK (putK (moreK s.fl) (Sum.inr (S (cpsL z))) (.int f0))) = upd H8 fd0 (.dK (moreK (s.fl ++ [(z, f0)]))) := by
          rw [S_cps, putK_fresh f0 nz']
        rw [ep, S_cps]
        have nb8 : BookAt K C (upd H8 fd0 (.dK (moreK (s.fl ++ [(z, f0)])))) b (bkOf zs s.D) := (book_same hb7 s8).keep (butD_kp But.at hfd8)
        have hfd9 : upd H8 fd0 (.dK (moreK (s.fl ++ [(z, f0)]))) fd0 = some (.dK (moreK (s.fl ++ [(z, f0)]))) := upd_same
        have s9 : Same H (upd H8 fd0 (.dK (moreK (s.fl ++ [(z, f0)])))) := fun c o e => by
          rw [upd_ne (ne_of_none e nfH)]
          exact s8 _ _ (s67 _ _ e)
        generalize upd H8 fd0 (.dK (moreK (s.fl ++ [(z, f0)]))) = H9 at nb8 hfd9 s9
        refine ⟨.ref ws[i], rfl, ws[i], _, 2, _, rfl, rfl, .inl (.inl (s9 _ _ hwi)), atI_nat (j := 2) rfl, g0, rfl, fg, fun H10 s10 => ?_⟩
        refine ⟨_, rfl, _, _, rfl, rfl, _, rfl, ?_⟩
        have b10 := book_same nb8 s10
        by_cases c0 : (0 : Int) < g0
        · rw [decide_eq_true (show g0 > 0 from c0)]
          obtain ⟨dx', tn, on, wg, wst, wd, eB, _⟩ := b10.ex
          refine iteT ⟨.ref b, rfl, b, dx', _, rfl, eB, bf_no (NoF.mk' (by decide +kernel)), .str z, rfl, .int g0, rfl, b, _, z, _, g0, rfl, b10, okb, idx_get hz, by omega, fun b' H11 s11 nb11 hb11 => ?_⟩
          have hb11' : BookAt K C H11 b' (bkOf zs (doneD zs s.D (.give z g0))) := hb11
          refine ⟨b', stepR zs s (.per z g0 f0), _, _, rfl, s9.trans (s10.trans s11), ?_, (s9.trans s10).free nb11, s11 _ _ (s10 _ _ hfd9), rn⟩
          show BookAt K C H11 b' (bkOf zs (if 0 < g0 then doneD zs s.D (.give z g0) else s.D))
          rw [if_pos c0]
          exact hb11'
        · rw [decide_eq_false (show ¬ g0 > 0 from c0)]
          refine iteF ⟨b, stepR zs s (.per z g0 f0), _, _, rfl, s9.trans s10, ?_, nb, s10 _ _ hfd9, rn⟩
          show BookAt K C H10 b (bkOf zs (if 0 < g0 then doneD zs s.D (.give z g0) else s.D))
          rw [if_neg c0]
          exact b10
      | note y n =>
        obtain ⟨hy, fn, n1⟩ := orow
        have hw := whp rfl
        have hw7' : H7 ws[i] = some (.lst [V.str (S []), .str (S []), .str (S (cpsL y)), .str (S (figL n))]) := hw7
        obtain ⟨dx', tn, on, wg, wst, wd, eB, _⟩ := hb7.ex
        refine ⟨_, rfl, iteF ⟨.ref b, rfl, b, dx', _, rfl, eB, bf_no (NoF.mk' (by decide +kernel)), .str s.who, rfl, .ref ws[i], rfl, ws[i], _, 2, _, rfl, rfl, .inl (.inl hw7'), atI_nat (j := 2) rfl, .ref ws[i], rfl, ws[i], _, 3, _, rfl, rfl, .inl (.inl hw7'), atI_nat (j := 3) rfl, n, rfl, fn, fun H8 s8 => ?_⟩⟩
        refine ⟨b, _, s.who, y, _, _, n, by rw [S_cps]; rfl, book_same hb7 s8, okb, idx_get hw, idx_get hy, n1, hnc rfl, fun b' H9 s9 nb9 hb9 => ?_⟩
        have hb9' : BookAt K C H9 b' (bkOf zs (doneD zs s.D (.put s.who y n))) := hb9
        exact ⟨b', stepR zs s (.note y n), _, _, rfl, s67.trans (s8.trans s9), hb9', (s67.trans s8).free nb9, s9 _ _ (s8 _ _ hfd7), rn⟩
    obtain ⟨b, s, y1, y5, rfl, s6, hb6, nb, hfd6, ri⟩ := hP
    have es := ri.e
    rw [List.length_map, lw, List.take_length] at es
    rw [es, fin.1] at hb6
    rw [es, fin.2] at hfd6
    have okb := ri.ok nz rg.nc
    rw [es, fin.1] at okb
    obtain ⟨dx', tn, on, wg, wst, wd, eB, _⟩ := hb6.ex
    refine ⟨.ref b, rfl, b, dx', _, rfl, eB, bf_no (NoF.mk' (by decide +kernel)), .ref fd0, rfl, b, fd0, _, _, rfl, hb6, okb, hfd6, fok, fun b' H7 s7 nb7 hb7 => ?_⟩
    rw [fbk] at hb7
    exact q b' H7 (s6.trans s7) (s6.free nb7) hb7
/-! ### read_book -/
abbrev sRdb : Stmt := topS 39
theorem scRdb : FnScope ["text", "rows"] ["text"] (defScope sRdb) := ⟨rfl, rfl, rfl, by decide +kernel, rfl, by decide +kernel, by decide +kernel⟩
def spRdb (K : PySem.W.Frag) (C : Addr) : Sp := fun vs H Q _ => ∃ (zs : List Str) (D : Md), vs = [.str (S (textL (rowsOf zs D)))] ∧ Gs zs D ∧ Gb D ∧ ∀ b H', Same H H' → H b = none → BookAt K C H' b (bkOf zs D) → Q (.ref b) H'
theorem ok_rdb {f f1 f2 C : Addr} {fd fd1 fd2 : FuncData} (F : Fun K "read_book" "read_book" sRdb f fd) (B : Blt mg) (SR : Has P w K mg base 3 "split_rows" ["text"] spSpr f1 fd1) (BR : Has P w K mg base 8 "book_of_rows" ["rows"] (spBor K C) f2 fd2) :
    FnOk P w K mg base CX0 9 f fd ["text"] (spRdb K C) := by
  refine F.ok scRdb (fun vs H Q E h => ?_) (fun cdv A outer s H vs Q E hr h => ?_)
  · obtain ⟨_, _, rfl, _⟩ := h
    rfl
  · obtain ⟨zs, D, rfl, g, gb, q⟩ := h
    have hr3 := hr.mono (show 3 ≤ 8 by decide)
    refine ⟨_, pss_cons (ps_if (pt_not (pt_val (pe_callB call_isi (by rfl) B.isi (by decide +kernel) (pa_cons (pv 0) (pa_cons (pe_bltn (v := .ty "str") (by rfl) B.str (by decide +kernel) rfl) pa_nil))))) pss_never pss_nil)
      (pss_cons (ps_set (i := 1) scRdb.nd rfl (.inl rfl) (pe_call SR.ok hr3 (by rfl) SR.g SR.kp SR.b .nil pass0 (pa_cons (pv 0) pa_nil)))
      (pss_one (ps_try_thru0 (pss_one (ps_ret (pe_call BR.ok hr (by rfl) BR.g BR.kp BR.b .nil pass0 (pa_cons (pv 1) pa_nil))))))), ?_⟩
    have rg := rows_good g gb
    refine ⟨_, rfl, _, .ty "str", _, _, strD (.str _), rfl, .ty "str", (Dt.str (K := K) (H := H) _).ty, kit_str (.str _), _, rfl, iteF ?_⟩
    refine ⟨_, rfl, rowsOf zs D, rfl, fun r hr' => (rg.ok r hr').ok fun z hz => word_of_name (g.nz.nm z hz), Nat.le_trans rg.len (by decide), fun L ws H1 s1 hL hW => ?_⟩
    refine ⟨_, rfl, L, ws, zs, D, rfl, hL, hW, g, gb, fun b H2 s2 nb hb => ?_⟩
    exact q b H2 (s1.trans s2) (s1.free nb) hb
end
end Rc

namespace Rc
open PySem PySem.Spec PyProof.Rows L2
theorem fnOr {P : Program} {w : World} {K : PySem.W.Frag} {mg : Str → Option Value} {base : Heap} {CX : CXT} {k : Nat} {f : Addr} {fd : FuncData} {ps : List Str} {sp sp' : Sp} (F : FnOk P w K mg base CX k f fd ps sp) (G : FnOk P w K mg base CX k f fd ps sp') :
    FnOk P w K mg base CX k f fd ps (fun vs H Q E => sp vs H Q E ∨ sp' vs H Q E) :=
  ⟨fun vs H Q E h => h.elim (F.len vs H Q E) (G.len vs H Q E), fun A outer s H args us vs Q E hr he hb hv hs => hs.elim (F.run A outer s H args us vs Q E hr he hb hv) (G.run A outer s H args us vs Q E hr he hb hv)⟩
end Rc

namespace Rc
open PySem PySem.Spec PyProof.Rows L2 RZ
/-! ### rows that are good by themselves: do they tell a book -/
def namesR (rows : List BRow) : List Str := rows.filterMap perN
def NoteG (zs : List Str) (s : RSt) : BRow → Prop
  | .per .. => True
  | .note y n => s.who ∈ zs ∧ y ∈ zs ∧ 1 ≤ n ∧ (s.D.notes.map List.length).sum < 60
def RowsGo (zs : List Str) (rows : List BRow) : Prop := ∀ (i : Nat) (r : BRow), rows[i]? = some r → NoteG zs (foldR zs (rows.take i)) r
def endS (rows : List BRow) : RSt := foldR (namesR rows) rows
def readM (rows : List BRow) : Bk := fallM (bkOf (namesR rows) (endS rows).D) (endS rows).fl
structure GoodRows (rows : List BRow) : Prop where
  nz : NamesOk (namesR rows)
  go : RowsGo (namesR rows) rows
  rt : RightM (bkOf (namesR rows) (endS rows).D) (endS rows).fl
  cs : ∀ (j : Nat) (z : Str), (namesR rows)[j]? = some z → 0 ≤ cashM (readM rows) j z
theorem names_or (zs : List Str) : ∀ n, n ≤ zs.length → ((zs.take n).Nodup ∧ ∀ z ∈ zs.take n, nameT z = true) ∨ ∃ m, m < n ∧ (zs.take m).Nodup ∧ (∀ z ∈ zs.take m, nameT z = true) ∧ ∃ x, zs[m]? = some x ∧ (x ∈ zs.take m ∨ nameT x = false)
  | 0, _ => .inl ⟨by rw [List.take_zero]; exact List.nodup_nil, fun z hz => by rw [List.take_zero] at hz; cases hz⟩
  | n + 1, hn => by
    rcases names_or zs n (by omega) with ⟨a, b⟩ | ⟨m, h1, h2⟩
    · have e : zs[n]? = some zs[n] := List.getElem?_eq_getElem (by omega)
      by_cases h : zs[n] ∈ zs.take n ∨ nameT zs[n] = false
      · exact .inr ⟨n, Nat.lt_succ_self n, a, b, _, e, h⟩
      · have h1 : ¬ zs[n] ∈ zs.take n := fun c => h (.inl c)
        have h2 : nameT zs[n] = true := by
          cases c : nameT zs[n] with
          | true => rfl
          | false => exact absurd (.inr c) h
        have tk : zs.take (n + 1) = zs.take n ++ [zs[n]] := take_succ (by omega)
        refine .inl ⟨?_, fun z hz => ?_⟩
        · rw [tk, List.nodup_append]
          exact ⟨a, List.nodup_cons.mpr ⟨List.not_mem_nil, List.nodup_nil⟩, fun x hx y hy e => h1 (by rw [List.mem_singleton.mp hy] at e; rw [← e]; exact hx)⟩
        · rw [tk] at hz
          rcases List.mem_append.mp hz with hz | hz
          · exact b z hz
          · rw [List.mem_singleton.mp hz]
            exact h2
    · exact .inr ⟨m, by omega, h2⟩
theorem names_bad {K : PySem.W.Frag} {H : Hp} {a : Addr} {zs : List Str} (hn : ¬ NamesOk zs) (hw : ∀ z ∈ zs, z.length ≤ 1000) (ha : H a = some (.lst (zs.map V.str))) : ∃ w1 w2, BadQ K H (.ref a) w1 w2 := by
  by_cases h0 : zs = [] ∨ 12 < zs.length
  · refine ⟨_, _, .inr (.inl ⟨a, _, rfl, ha, ?_, rfl, rfl⟩)⟩
    rcases h0 with rfl | h
    · exact .inl rfl
    · exact .inr (by rw [List.length_map]; exact h)
  · have n0 : zs ≠ [] := fun c => h0 (.inl c)
    have n1 : zs.length ≤ 12 := Nat.le_of_not_lt fun c => h0 (.inr c)
    rcases names_or zs zs.length (Nat.le_refl _) with ⟨a', b'⟩ | ⟨m, hm, nd, nm, x, ex, hx⟩
    · rw [List.take_length] at a' b'
      exact absurd ⟨List.length_pos_iff.mpr n0, n1, a', b'⟩ hn
    · have sp : zs.map V.str = (zs.take m).map V.str ++ V.str x :: (zs.drop (m + 1)).map V.str := by
        have e1 : zs = zs.take m ++ x :: zs.drop (m + 1) := by
          obtain ⟨_, e2⟩ := List.getElem?_eq_some_iff.mp ex
          rw [← e2, ← List.drop_eq_getElem_cons, List.take_append_drop]
        conv => lhs; rw [e1]
        rw [List.map_append, List.map_cons]
      have lt : (zs.take m).length = m := by rw [List.length_take]; omega
      have ha' := ha
      rw [sp] at ha'
      have len : (zs.take m).length + 1 + ((zs.drop (m + 1)).map V.str).length ≤ 12 := by
        rw [lt, List.length_map, List.length_drop]
        omega
      rcases hx with hx | hx
      · exact ⟨_, _, .inr (.inr ⟨a, zs.take m, .str x, _, rfl, ha', len, nd, nm, .inl ⟨x, rfl, hx, rfl, rfl⟩⟩)⟩
      · exact ⟨_, _, .inr (.inr ⟨a, zs.take m, .str x, _, rfl, ha', len, nd, nm, .inr ⟨.str x, .str x, fun z e => by cases e; exact hw _ (List.mem_of_getElem? ex), hx, rfl, rfl⟩⟩)⟩
def GoodP (M : Bk) (p : Str × Int) : Prop := ∃ (j : Nat) (l : List (Str × Int)) (f : Int), M.names[j]? = some p.1 ∧ M.stacks[j]? = some l ∧ M.drops[j]? = some f ∧ 0 ≤ p.2 ∧ f + p.2 ≤ wholeN l
def OverP (M : Bk) (p : Str × Int) : Prop := ∃ (j : Nat) (l : List (Str × Int)) (f : Int), M.names[j]? = some p.1 ∧ M.stacks[j]? = some l ∧ M.drops[j]? = some f ∧ wholeN l < f + p.2
theorem right_or {M : Bk} {ps : List (Str × Int)} (hk : ∀ p ∈ ps, p.1 ∈ M.names ∧ 0 ≤ p.2) (ls : M.stacks.length = M.names.length) (ld : M.drops.length = M.names.length) :
    ∀ n, n ≤ ps.length → (∀ (i : Nat) (p : Str × Int), i < n → ps[i]? = some p → GoodP M p) ∨ ∃ m, m < n ∧ (∀ (i : Nat) (p : Str × Int), i < m → ps[i]? = some p → GoodP M p) ∧ ∃ p, ps[m]? = some p ∧ OverP M p
  | 0, _ => .inl fun i p h => absurd h (Nat.not_lt_zero _)
  | n + 1, hn => by
    rcases right_or hk ls ld n (by omega) with h | ⟨m, h1, h2⟩
    · have e : ps[n]? = some ps[n] := List.getElem?_eq_getElem (by omega)
      obtain ⟨k1, k2⟩ := hk _ (List.getElem_mem (show n < ps.length by omega))
      obtain ⟨j, hj, ej⟩ := List.getElem_of_mem k1
      have e1 : M.names[j]? = some ps[n].1 := by rw [List.getElem?_eq_getElem hj, ej]
      have e2 : M.stacks[j]? = some M.stacks[j] := List.getElem?_eq_getElem (by omega)
      have e3 : M.drops[j]? = some M.drops[j] := List.getElem?_eq_getElem (by omega)
      by_cases c : M.drops[j] + ps[n].2 ≤ wholeN M.stacks[j]
      · refine .inl fun i p hi ep => ?_
        by_cases q : i < n
        · exact h i p q ep
        · obtain rfl : i = n := by omega
          rw [e] at ep
          cases ep
          exact ⟨j, _, _, e1, e2, e3, k2, c⟩
      · exact .inr ⟨n, Nat.lt_succ_self n, h, _, e, j, _, _, e1, e2, e3, by omega⟩
    · exact .inr ⟨m, by omega, h2⟩
theorem thg_or {P : Program} {w : World} {K : PySem.W.Frag} {H : Hp} {M : Bk} {d : Addr} {ps : List (Str × Int)} (hd : H d = some (.dK (moreK ps))) (nd : (ps.map (·.1)).Nodup) (hk : ∀ p ∈ ps, p.1 ∈ M.names ∧ 0 ≤ p.2) (ls : M.stacks.length = M.names.length) (ld : M.drops.length = M.names.length) :
    RightM M ps ∨ (¬ RightM M ps ∧ Thg P w K H M (.ref d) none) := by
  by_cases rt : RightM M ps
  · exact .inl rt
  · refine .inr ⟨rt, ?_⟩
    rcases right_or hk ls ld ps.length (Nat.le_refl _) with h | ⟨m, hm, h1, p, ep, j, l, f, a1, a2, a3, a4⟩
    · refine absurd ⟨nd, fun p hp => ?_⟩ rt
      obtain ⟨i, hi, e⟩ := List.getElem_of_mem hp
      exact h i p hi (by rw [List.getElem?_eq_getElem hi, e])
    · refine .bad (ks := ps.map fun p => .str p.1) (vs := ps.map fun p => .int p.2) (n := m) ⟨⟨_, .inl ⟨ps.map (·.1), _, congrArg HO.dK (moreK_dct ps), nd, by rw [List.length_map, List.length_map], by rw [List.map_map]; rfl, rfl⟩, hd⟩, by rw [List.length_map]; omega, fun i k v hi ek ev => ?_, fun k v ek ev => ?_⟩ (by rw [List.length_map]; exact hm)
      · rw [List.getElem?_map, List.getElem?_eq_getElem (show i < ps.length by omega)] at ek ev
        cases ek
        cases ev
        obtain ⟨j, l, f, a, b, c, d, e⟩ := h1 i _ hi (List.getElem?_eq_getElem (by omega))
        exact ⟨j, _, l, f, _, rfl, rfl, a, b, c, d, e⟩
      · rw [List.getElem?_map, ep] at ek ev
        cases ek
        cases ev
        exact .inr ⟨j, _, l, f, rfl, a1, a2, a3, .inr ⟨_, rfl, .inr a4⟩⟩
theorem short_or (M : Bk) (ps : List (Str × Int)) : ∀ n, (∀ (j : Nat) (z : Str), j < n → M.names[j]? = some z → 0 ≤ cashM (fallM M ps) j z) ∨ ∃ z, ShortM M ps z
  | 0 => .inl fun j z h => absurd h (Nat.not_lt_zero _)
  | n + 1 => by
    rcases short_or M ps n with h | h
    · cases e : M.names[n]? with
      | none =>
        refine .inl fun j z hj ej => ?_
        by_cases c : j < n
        · exact h j z c ej
        · obtain rfl : j = n := by omega
          rw [e] at ej
          cases ej
      | some z =>
        by_cases c : cashM (fallM M ps) n z < 0
        · exact .inr ⟨z, n, e, c, h⟩
        · refine .inl fun j y hj ej => ?_
          by_cases q : j < n
          · exact h j y q ej
          · obtain rfl : j = n := by omega
            rw [e] at ej
            cases ej
            omega
    · exact .inr h
theorem short_cases (M : Bk) (ps : List (Str × Int)) : (∀ (j : Nat) (z : Str), M.names[j]? = some z → 0 ≤ cashM (fallM M ps) j z) ∨ ∃ z, ShortM M ps z := by
  rcases short_or M ps M.names.length with h | h
  · exact .inl fun j z e => h j z (List.getElem?_eq_some_iff.mp e).1 e
  · exact .inr h
/-- the classes of what a text is refused with -/
structure Bx where
  X : Xs
  B : Addr
  V : Addr
  S : Addr
abbrev Bx.six (Z : Bx) : List Addr := [Z.B, Z.X.N, Z.X.A, Z.X.F, Z.V, Z.S]
end Rc

namespace Rc
open PySem PySem.Spec PyProof.Rows L2 RZ
open SX (S split_S join_S num_S int_S S_len S_cat)
section
variable {P : Program} {w : World} {K : PySem.W.Frag} {mg : Str → Option Value} {base : Heap}
/-! ### book_of_rows, whatever the rows tell -/
def spInT (K : PySem.W.Frag) (C CN : Addr) : Sp := fun vs H Q E => spInit K C vs H Q E ∨ spInX K CN vs H Q E
def spPuT (K : PySem.W.Frag) (C : Addr) (X : Xs) : Sp := fun vs H Q E => spPut K C vs H Q E ∨ spPuR K C X vs H Q E
def spLetB (P : Program) (w : World) (K : PySem.W.Frag) (C D S : Addr) : Sp := fun vs H Q E => spLetT K C vs H Q E ∨ spLetX P w K C D S vs H Q E
def spBorT (K : PySem.W.Frag) (C : Addr) (Z : Bx) : Sp := fun vs H Q E => ∃ (L : Addr) (ws : List Addr) (rows : List BRow), vs = [.ref L] ∧ H L = some (.lst (ws.map V.ref)) ∧ LinesAt H ws (rows.map wordsV) ∧ (∀ r ∈ rows, r.Ok) ∧ rows.length ≤ 200 ∧
  (GoodRows rows → ∀ b H', Same H H' → H b = none → BookAt K C H' b (readM rows) → Q (.ref b) H') ∧ (¬ GoodRows rows → ∀ c d H', c ∈ Z.six → Same H H' → E (.ref c) d H')
set_option maxHeartbeats 2000000 in
theorem ok_borT {f f1 f2 f3 f4 f5 fI C : Addr} {fd fd1 fd2 fd3 fd4 fd5 fdI : FuncData} {Z : Bx} (F : Fun K "book_of_rows" "book_of_rows" sBor f fd) (T : ClsF K C)
    (M : Mk K C fI) (gC : mg "Book" = some (.ref C)) (GX : FnOk P w K mg base (L2N.CX P w) 3 fI fdI ["self", "persons"] (spInT K C Z.B)) (bI : Binds K fdI ["self", "persons"] [])
    (PR : Has P w K mg base 2 "is_person_row" ["words"] (spIsR (fun _ => True) isPer) f1 fd1) (NO : Has P w K mg base 1 "number_of" ["figures"] spNof f2 fd2)
    (GE : HasM P w K mg base C 6 "give" ["self", "who", "amount"] (spGive K C) f3 fd3) (PU : HasMXN P w K mg base C 6 "put" ["self", "who", "to", "amount"] (spPuT K C Z.X) f4 fd4)
    (LF : HasMXN P w K mg base C 7 "let_fall" ["self", "more"] (spLetB P w K C Z.V Z.S) f5 fd5) : FnOk P w K mg base (L2N.CX P w) 8 f fd ["rows"] (spBorT K C Z) := by
  refine okXN F scBor (fun vs H Q E h => ?_) (fun cdv A outer s H vs Q E hr h => ?_)
  · obtain ⟨_, _, _, rfl, _⟩ := h
    rfl
  · obtain ⟨L, ws, rows, rfl, hL, hW, ok, hl2, q, qB⟩ := h
    have hu := hu_of hr
    have hr1 := hr.mono (show 1 ≤ 7 by decide)
    have hr2 := hr.mono (show 2 ≤ 7 by decide)
    have hr4 := hr.mono (show 4 ≤ 7 by decide)
    have hr6 := hr.mono (show 6 ≤ 7 by decide)
    refine ⟨_, pss_cons (ps_set (i := 2) scBor.nd rfl (.inl rfl) (pe_make M GX hr4 (by rfl) gC bI .nil (L2N.passes_call (L2N.takes_of rfl rfl rfl rfl) fun _ _ _ _ z => z) (pa_cons (pe_lc (own := [("words", 1)]) (g := gName 1) rfl scBor.nd (pi_list (pv 0)) (blkOk_by (N := nBor) (sc := defScope sBor) (own := [("words", 1)]) (by decide +kernel))
        (fun _ _ _ _ _ => pg_name (i := 1) scBor.nd rfl (.inl rfl) (hf := .inr rfl)) (fun _ _ _ _ _ => pts_one (pt_val (pe_call PR.ok hr2 (by rfl) PR.g PR.kp PR.b .nil pass0 (pa_cons (pv 1) pa_nil)))) (fun _ _ _ _ _ => pe_ix (ix_listS (K := K) rfl) (pv 1) pe_int (fun _ _ => rfl))) pa_nil)))
      (pss_cons (ps_set (i := 3) scBor.nd rfl (.inl rfl) pe_dnewK)
      (pss_cons (ps_set (i := 4) scBor.nd rfl (.inl rfl) pe_str)
      (pss_cons (ps_for (passes_of rfl) rfl (pi_list (pv 0)) (pg_name (i := 1) scBor.nd rfl (.inl rfl))
        (pss_one (ps_if (pt_val (pe_call PR.ok hr2 (by rfl) PR.g PR.kp PR.b .nil pass0 (pa_cons (pv 1) pa_nil)))
          (pss_cons (ps_set (i := 4) scBor.nd rfl (.inl rfl) (pe_ix ix_list (pv 1) pe_int (fun _ _ => rfl)))
          (pss_cons (ps_dput hu (pv 3) (pv 4) (pe_call NO.ok hr1 (by rfl) NO.g NO.kp NO.b .nil pass0 (pa_cons (pe_ix ix_list (pv 1) pe_int (fun _ _ => rfl)) pa_nil)) rfl)
          (pss_cons (ps_set (i := 5) scBor.nd rfl (.inl rfl) (pe_call NO.ok hr1 (by rfl) NO.g NO.kp NO.b .nil pass0 (pa_cons (pe_ix ix_list (pv 1) pe_int (fun _ _ => rfl)) pa_nil)))
          (pss_one (ps_if (pt_cmpR op_gt (pv 5) pe_int (nomark _)) (pss_one (ps_set (i := 2) scBor.nd rfl (.inl rfl) (pe_meth (pv 2) T.cl GE.m GE.ok hr6 GE.b .nil pass0 (pa_cons (pv 4) (pa_cons (pv 5) pa_nil))))) pss_nil)))))
          (pss_one (ps_set (i := 2) scBor.nd rfl (.inl rfl) (pe_meth (pv 2) T.cl PU.m PU.ok hr6 PU.b .nil (L2N.passes_call (L2N.takes_of rfl rfl rfl rfl) fun _ _ _ _ z => z) (pa_cons (pv 4) (pa_cons (pe_ix ix_list (pv 1) pe_int (fun _ _ => rfl)) (pa_cons (pe_call NO.ok hr1 (by rfl) NO.g NO.kp NO.b .nil pass0 (pa_cons (pe_ix ix_list (pv 1) pe_int (fun _ _ => rfl)) pa_nil)) pa_nil))))))) ))
      (pss_one (ps_ret (pe_meth (pv 2) T.cl LF.m LF.ok hr LF.b .nil (L2N.passes_call (L2N.takes_of rfl rfl rfl rfl) fun _ _ _ _ z => z) (pa_cons (pv 3) pa_nil))))))), ?_⟩
    have lw : ws.length = rows.length := by rw [Paired.len hW, List.length_map]
    have okr : ∀ (i : Nat) (hi : i < rows.length), (rows[i]).Ok := fun i hi => ok _ (List.getElem_mem hi)
    have hat : ∀ (i : Nat) (hi : i < rows.length) (hi' : i < ws.length), H ws[i] = some (.lst (wordsV rows[i])) := fun i hi hi' => by
      have hk : (rows.map wordsV)[i]? = some (wordsV rows[i]) := map_get (List.getElem?_eq_getElem hi)
      obtain ⟨w', e1', e2'⟩ := Paired.get hW hk
      rw [List.getElem?_eq_getElem hi'] at e1'
      cases e1'
      exact e2'
    have wz : ∀ z ∈ namesR rows, wordT z = true := fun z hz => by
      obtain ⟨r, hr', er⟩ := List.mem_filterMap.mp hz
      cases r with
      | per z' g f =>
        cases er
        exact (ok _ hr').1
      | note y n => cases er
    -- the names
    refine ⟨.ref L, rfl, L, rfl, ⟨_, .inl (.inl hL)⟩, fun L0 nL0 => ?_⟩
    refine lc_it (walk_list (K := K) (a := L) (xs := ws.map V.ref)) (fun i H' => Same H H' ∧ H' L0 = some (.lst (((rows.take i).filterMap perN).map V.str))) ⟨same_upd nL0, upd_same⟩ (fun i H' _ hP => .inl (.inl (hP.1 _ _ hL)))
      (fun i x H2' H2 hi hP hY => ?_) (fun H2 hP => ?_)
    · obtain ⟨rfl, hx⟩ := hY
      rw [List.length_map] at hi
      obtain ⟨sm, hD⟩ := hP
      have hir : i < rows.length := by omega
      have ex : x = .ref ws[i] := by
        rw [List.getElem?_map, List.getElem?_eq_getElem hi] at hx
        exact (Option.some.inj hx).symm
      subst ex
      have hwi := hat i hir hi
      have tk := take_succ hir
      have orow := okr i hir
      generalize rows[i] = r at hwi tk orow
      refine ⟨rfl, .ref ws[i], rfl, ws[i], r, rfl, sm _ _ hwi, orow, trivial, fun H3 s3 => ?_⟩
      have sm3 := sm.trans s3
      cases r with
      | per z g f =>
        refine ⟨_, rfl, iteT ⟨.ref ws[i], rfl, ws[i], _, 1, _, rfl, rfl, .inl (.inl (sm3 _ _ hwi)), atI_nat (j := 1) rfl, _, s3 _ _ hD, ?_, fun b o eb => ?_, ?_⟩⟩
        · rw [List.length_map]
          exact small1000 (Nat.le_trans (List.length_filterMap_le _ _) (by rw [List.length_take]; omega))
        · rw [upd_ne (ne_of_none eb nL0)]
          exact sm3 _ _ eb
        · rw [upd_same, tk, List.filterMap_append, List.map_append]
          show some (HO.lst (_ ++ [V.str (S (cpsL z))])) = _
          rw [S_cps]
          rfl
      | note y n =>
        refine ⟨_, rfl, iteF ⟨sm3, ?_⟩⟩
        rw [tk, List.filterMap_append]
        show H3 L0 = some (.lst ((_ ++ []).map V.str))
        rw [List.append_nil]
        exact s3 _ _ hD
    obtain ⟨s2, hL0⟩ := hP
    rw [List.length_map, lw, List.take_length] at hL0
    have hL0 : H2 L0 = some (.lst ((namesR rows).map V.str)) := hL0
    refine fun x dx nx ndx nxd => ?_
    have s3 : Same H2 (upd (upd H2 dx (.own x)) x (.ins C dx [])) := fun c o e => by
      rw [upd_ne (ne_of_none e nx), upd_ne (ne_of_none e ndx)]
      exact e
    have nxH : H x = none := s2.free nx
    by_cases nz : NamesOk (namesR rows)
    case neg =>
      obtain ⟨w1, w2, bad⟩ := names_bad (K := K) nz (fun z hz => by have := wordT_len (wz z hz); omega) (s3 _ _ hL0)
      exact .inr ⟨x, _, w1, w2, rfl, bad, fun H' dd s' _ _ => qB (fun g => nz g.nz) _ _ H' (by simp) (s2.trans (s3.trans s'))⟩
    refine .inl ⟨x, dx, L0, namesR rows, rfl, upd_same, s3 _ _ hL0, nz, fun H4 b4 bk => ⟨rfl, ?_⟩⟩
    have s24 : Same H2 H4 := fun c o e => b4 c o (ne_of_none e nx) (s3 c o e)
    have b0 : BookAt K C H4 x (bkOf (namesR rows) (newMd (namesR rows).length)) := bk
    have s4 := s2.trans s24
    refine fun fd0 nfd => ?_
    have nfH : H fd0 = none := s4.free nfd
    have s5 := same_upd (o := .dK []) nfd
    have hfd5 : upd H4 fd0 (.dK []) fd0 = some (.dK (moreK [])) := upd_same
    generalize upd H4 fd0 (.dK []) = H5 at s5 hfd5
    have b5 := book_same b0 s5
    generalize hzs : namesR rows = zs at nz wz b5 b0 bk hL0
    refine ⟨.ref L, rfl, L, rfl, ⟨_, .inl (.inl ((s4.trans s5) _ _ hL))⟩, ?_⟩
    refine for_it (walk_list (K := K) (a := L) (xs := ws.map V.ref)) (fun i σ H' => ∃ b s y1 y5, σ = [some (.ref L), y1, some (.ref b), some (.ref fd0), some (.str s.who), y5] ∧ Same H H' ∧ BookAt K C H' b (bkOf zs s.D) ∧ H b = none ∧ H' fd0 = some (.dK (moreK s.fl)) ∧ RInv zs rows i s ∧ (s.D.notes.map List.length).sum ≤ 60 ∧ (∀ (k : Nat) (r : BRow), k < i → rows[k]? = some r → NoteG zs (foldR zs (rows.take k)) r) ∧ (∀ p ∈ s.fl, 0 ≤ p.2))
      ⟨x, _, _, _, rfl, s4.trans s5, b5, nxH, hfd5, RInv.start zs rows, by rw [(RInv.start zs rows).my]; exact Nat.zero_le _, (fun k r h => absurd h (Nat.not_lt_zero _)), (fun p hp => by cases hp)⟩ (fun i σ H' _ hP => ?_) (fun i x6 σ H6' H6 hi hP hY => ?_) (fun σ H6 hP => ?_)
    · obtain ⟨_, _, _, _, _, s6, _⟩ := hP
      exact .inl (.inl (s6 _ _ hL))
    · obtain ⟨rfl, hx⟩ := hY
      obtain ⟨b, s, y1, y5, rfl, s6, hb6, nb, hfd6, ri, my60, gone, fl0⟩ := hP
      rw [List.length_map] at hi
      have hir : i < rows.length := by omega
      have ex : x6 = .ref ws[i] := by
        rw [List.getElem?_map, List.getElem?_eq_getElem hi] at hx
        exact (Option.some.inj hx).symm
      subst ex
      have hwi := hat i hir hi
      have orow := okr i hir
      have okb : (bkOf zs s.D).Ok := ⟨nz.n0, nz.n1, nz.nd, nz.nm, ri.lg, ri.ln, ri.lf, my60⟩
      have er : rows[i]? = some rows[i] := List.getElem?_eq_getElem hir
      have bad : ¬ NoteG zs s rows[i] → ¬ GoodRows rows := fun h g => h (by
        have := g.go i _ er
        rw [hzs, ← ri.e] at this
        exact this)
      have step : NoteG zs s rows[i] → RInv zs rows (i + 1) (stepR zs s rows[i]) ∧ (∀ (k : Nat) (r : BRow), k < i + 1 → rows[k]? = some r → NoteG zs (foldR zs (rows.take k)) r) := fun h => by
        refine ⟨ri.step hir ?_ fun hp => ?_, fun k r hk e => ?_⟩
        · have hm := List.getElem_mem hir
          generalize rows[i] = r at h orow hm
          cases r with
          | per z g f =>
            refine ⟨?_, orow.2.1, orow.2.2⟩
            rw [← hzs]
            exact List.mem_filterMap.mpr ⟨_, hm, rfl⟩
          | note y n => exact ⟨h.2.1, orow.2.1, h.2.2.1⟩
        · generalize rows[i] = r at h hp
          cases r with
          | per z g f => cases hp
          | note y n => exact h.1
        · by_cases c : k < i
          · exact gone k r c e
          · obtain rfl : k = i := by omega
            rw [er] at e
            cases e
            rw [← ri.e]
            exact h
      have frs : perN rows[i] = none ∨ ∃ z, perN rows[i] = some z ∧ z ∉ s.fl.map (·.1) := by
        cases hp : perN rows[i] with
        | none => exact .inl rfl
        | some z =>
          refine .inr ⟨z, rfl, fun hm => ?_⟩
          have e1 : rows.filterMap perN = (rows.take i).filterMap perN ++ ([z] ++ (rows.drop (i + 1)).filterMap perN) := by
            conv => lhs; rw [← List.take_append_drop i rows, List.drop_eq_getElem_cons hir]
            rw [List.filterMap_append, List.filterMap_cons, hp]
            rfl
          have nd := nz.nd
          rw [← hzs] at nd
          unfold namesR at nd
          rw [e1, List.nodup_append] at nd
          rw [ri.fk] at hm
          exact nd.2.2 z hm z (List.mem_append_left _ (List.mem_singleton.mpr rfl)) rfl
      have zin : ∀ z g f, rows[i] = .per z g f → z ∈ zs := fun z g f e => by
        rw [← hzs]
        exact List.mem_filterMap.mpr ⟨_, List.getElem_mem hir, by rw [e]; rfl⟩
      have nc1 : isPer rows[i] = false → noteC (rows.take (i + 1)) = noteC (rows.take i) + 1 := fun hp => by
        rw [take_succ hir, noteC_app]
        unfold noteC
        rw [List.filter_cons_of_pos (by rw [hp]; rfl)]
        rfl
      generalize rows[i] = r at hwi orow bad step frs zin nc1
      refine ⟨.ref ws[i], rfl, ws[i], r, rfl, s6 _ _ hwi, orow, trivial, fun H7 s7 => ?_⟩
      have s67 := s6.trans s7
      have hb7 := book_same hb6 s7
      have hfd7 := s7 _ _ hfd6
      have hw7 := s67 _ _ hwi
      cases r with
      | per z g0 f0 =>
        obtain ⟨rn, gn⟩ := step trivial
        have hz := zin _ _ _ rfl
        obtain ⟨_, fg, ff⟩ := orow
        have hw7' : H7 ws[i] = some (.lst [V.str (S wPerson), .str (S (cpsL z)), .str (S (figL g0)), .str (S (figL f0))]) := hw7
        refine ⟨_, rfl, iteT ⟨.ref ws[i], rfl, ws[i], _, 1, _, rfl, rfl, .inl (.inl hw7'), atI_nat (j := 1) rfl, ?_⟩⟩
        refine ⟨.ref ws[i], rfl, ws[i], _, 3, _, rfl, rfl, .inl (.inl hw7'), atI_nat (j := 3) rfl, f0, rfl, ff, fun H8 s8 => ?_⟩
        have hfd8 := s8 _ _ hfd7
        have lfl : s.fl.length ≤ 200 := by
          have e1 := congrArg List.length ri.fk
          rw [List.length_map] at e1
          have := List.length_filterMap_le perN (rows.take i)
          rw [List.length_take] at this
          omega
        refine ⟨.ref fd0, rfl, .str (S (cpsL z)), rfl, fd0, _, rfl, DPut.k (k := Sum.inr (S (cpsL z))) hfd8 (by rw [show (moreK s.fl).length = s.fl.length from List.length_map ..]; exact small1000 (by omega)), ?_⟩
        obtain ⟨z', ez, nz'⟩ : ∃ z', perN (BRow.per z g0 f0) = some z' ∧ z' ∉ s.fl.map (·.1) := by
          rcases frs with h | h
          · cases h
          · exact h
        cases ez
        have ep : upd H8 fd0 (.dK (putK (moreK s.fl) (Sum.inr (S (cpsL z))) (.int f0))) = upd H8 fd0 (.dK (moreK (s.fl ++ [(z, f0)]))) := by
          rw [S_cps, putK_fresh f0 nz']
        rw [ep, S_cps]
        have nb8 : BookAt K C (upd H8 fd0 (.dK (moreK (s.fl ++ [(z, f0)])))) b (bkOf zs s.D) := (book_same hb7 s8).keep (butD_kp But.at hfd8)
        have hfd9 : upd H8 fd0 (.dK (moreK (s.fl ++ [(z, f0)]))) fd0 = some (.dK (moreK (s.fl ++ [(z, f0)]))) := upd_same
        have s9 : Same H (upd H8 fd0 (.dK (moreK (s.fl ++ [(z, f0)])))) := fun c o e => by
          rw [upd_ne (ne_of_none e nfH)]
          exact s8 _ _ (s67 _ _ e)
        generalize upd H8 fd0 (.dK (moreK (s.fl ++ [(z, f0)]))) = H9 at nb8 hfd9 s9
        have fl0' : ∀ p ∈ s.fl ++ [(z, f0)], 0 ≤ p.2 := fun p hp => by
          rcases List.mem_append.mp hp with hp | hp
          · exact fl0 p hp
          · rw [List.mem_singleton.mp hp]
            exact ff.1
        have my' : ((stepR zs s (.per z g0 f0)).D.notes.map List.length).sum ≤ 60 := by
          show (((if 0 < g0 then doneD zs s.D (.give z g0) else s.D)).notes.map List.length).sum ≤ 60
          split <;> exact my60
        refine ⟨.ref ws[i], rfl, ws[i], _, 2, _, rfl, rfl, .inl (.inl (s9 _ _ hwi)), atI_nat (j := 2) rfl, g0, rfl, fg, fun H10 s10 => ?_⟩
        refine ⟨_, rfl, _, _, rfl, rfl, _, rfl, ?_⟩
        have b10 := book_same nb8 s10
        by_cases c0 : (0 : Int) < g0
        · rw [decide_eq_true (show g0 > 0 from c0)]
          obtain ⟨dx', tn, on, wg, wst, wd, eB, _⟩ := b10.ex
          refine iteT ⟨.ref b, rfl, b, dx', _, rfl, eB, bf_no (NoF.mk' (by decide +kernel)), .str z, rfl, .int g0, rfl, b, _, z, _, g0, rfl, b10, okb, idx_get hz, by omega, fun b' H11 s11 nb11 hb11 => ?_⟩
          have hb11' : BookAt K C H11 b' (bkOf zs (doneD zs s.D (.give z g0))) := hb11
          refine ⟨b', stepR zs s (.per z g0 f0), _, _, rfl, s9.trans (s10.trans s11), ?_, (s9.trans s10).free nb11, s11 _ _ (s10 _ _ hfd9), rn, my', gn, fl0'⟩
          show BookAt K C H11 b' (bkOf zs (if 0 < g0 then doneD zs s.D (.give z g0) else s.D))
          rw [if_pos c0]
          exact hb11'
        · rw [decide_eq_false (show ¬ g0 > 0 from c0)]
          refine iteF ⟨b, stepR zs s (.per z g0 f0), _, _, rfl, s9.trans s10, ?_, nb, s10 _ _ hfd9, rn, my', gn, fl0'⟩
          show BookAt K C H10 b (bkOf zs (if 0 < g0 then doneD zs s.D (.give z g0) else s.D))
          rw [if_neg c0]
          exact b10
      | note y n =>
        obtain ⟨wy, fn, n0⟩ := orow
        have hw7' : H7 ws[i] = some (.lst [V.str (S []), .str (S []), .str (S (cpsL y)), .str (S (figL n))]) := hw7
        obtain ⟨dx', tn, on, wg, wst, wd, eB, _⟩ := hb7.ex
        refine ⟨_, rfl, iteF ⟨.ref b, rfl, b, dx', _, rfl, eB, bf_no (NoF.mk' (by decide +kernel)), .str s.who, rfl, .ref ws[i], rfl, ws[i], _, 2, _, rfl, rfl, .inl (.inl hw7'), atI_nat (j := 2) rfl, .ref ws[i], rfl, ws[i], _, 3, _, rfl, rfl, .inl (.inl hw7'), atI_nat (j := 3) rfl, n, rfl, fn, fun H8 s8 => ?_⟩⟩
        have hb8 := book_same hb7 s8
        have out : ¬ NoteG zs s (.note y n) → ∀ c d H', c ∈ Z.six → Same H8 H' → E (.ref c) d H' := fun h c d H' hc s' => qB (bad h) c d H' hc (s67.trans (s8.trans s'))
        have lwho : s.who.length ≤ 1000 := by
          rcases ri.wh with h0 | h0
          · subst h0
            have := ri.e
            rw [List.take_zero] at this
            rw [this]
            show ("" : Str).length ≤ 1000
            decide +kernel
          · have := wordT_len (wz _ h0)
            omega
        rw [S_cps]
        by_cases c1 : s.who ∈ zs
        case neg =>
          exact .inr ⟨b, _, .str s.who, .str y, .int n, .such (.str s.who), rfl, hb8, okb, .who (.str _) (fun z e => by cases e; exact lwho) (decide_eq_false c1), fun H' dd s' _ => out (fun g => c1 g.1) _ _ H' (by simp) s'⟩
        by_cases c2 : y ∈ zs
        case neg =>
          exact .inr ⟨b, _, .str s.who, .str y, .int n, .such (.str y), rfl, hb8, okb, .to (idx_get c1) (.str _) (fun z e => by cases e; have := wordT_len wy; omega) (decide_eq_false c2), fun H' dd s' _ => out (fun g => c2 g.2.1) _ _ H' (by simp) s'⟩
        by_cases c3 : 1 ≤ n
        case neg =>
          exact .inr ⟨b, _, .str s.who, .str y, .int n, .amount, rfl, hb8, okb, .amount (idx_get c1) (idx_get c2) (.int _) (fun z e => by cases e) (decide_eq_false (by omega)), fun H' s' => out (fun g => c3 g.2.2.1) _ _ H' (by simp) s'⟩
        by_cases c4 : (s.D.notes.map List.length).sum < 60
        case neg =>
          exact .inr ⟨b, _, .str s.who, .str y, .int n, .full, rfl, hb8, okb, .full (idx_get c1) (idx_get c2) c3 (Nat.le_of_not_lt c4), fun H' dd s' _ => out (fun g => c4 g.2.2.2) _ _ H' (by simp) s'⟩
        obtain ⟨rn, gn⟩ := step ⟨c1, c2, c3, c4⟩
        refine .inl ⟨b, _, s.who, y, _, _, n, rfl, hb8, okb, idx_get c1, idx_get c2, c3, c4, fun b' H9 s9 nb9 hb9 => ?_⟩
        have hb9' : BookAt K C H9 b' (bkOf zs (doneD zs s.D (.put s.who y n))) := hb9
        refine ⟨b', stepR zs s (.note y n), _, _, rfl, s67.trans (s8.trans s9), hb9', (s67.trans s8).free nb9, s9 _ _ (s8 _ _ hfd7), rn, ?_, gn, fl0⟩
        rw [rn.my, nc1 rfl, ← ri.my]
        exact c4
    obtain ⟨b, s, y1, y5, rfl, s6, hb6, nb, hfd6, ri, my60, gone, fl0⟩ := hP
    have es := ri.e
    rw [List.length_map, lw, List.take_length] at es
    rw [List.length_map, lw] at ri gone
    have okb : (bkOf zs s.D).Ok := ⟨nz.n0, nz.n1, nz.nd, nz.nm, ri.lg, ri.ln, ri.lf, my60⟩
    have ee : endS rows = s := by
      unfold endS
      rw [hzs]
      exact es.symm
    have em : readM rows = fallM (bkOf zs s.D) s.fl := by
      unfold readM
      rw [ee, hzs]
    have fk : s.fl.map (·.1) = zs := by
      rw [ri.fk, List.take_length]
      exact hzs
    obtain ⟨dx', tn, on, wg, wst, wd, eB, _⟩ := hb6.ex
    refine ⟨.ref b, rfl, b, dx', _, rfl, eB, bf_no (NoF.mk' (by decide +kernel)), .ref fd0, rfl, ?_⟩
    rcases thg_or (P := P) (w := w) (K := K) (M := bkOf zs s.D) hfd6 (by rw [fk]; exact nz.nd) (fun p hp => ⟨by
      show p.1 ∈ zs
      rw [← fk]
      exact List.mem_map_of_mem hp, fl0 p hp⟩) ri.ln ri.lf with rt | ⟨nrt, th⟩
    · rcases short_cases (bkOf zs s.D) s.fl with cs | ⟨z, sh⟩
      · refine .inl ⟨b, fd0, _, _, rfl, hb6, okb, hfd6, rt, cs, fun b' H7 s7 nb7 hb7 => ?_⟩
        refine q ⟨by rw [hzs]; exact nz, ?_, by rw [ee, hzs]; exact rt, ?_⟩ b' H7 (s6.trans s7) (s6.free nb7) (by rw [em]; exact hb7)
        · rw [hzs]
          exact fun i r e => gone i r (List.getElem?_eq_some_iff.mp e).1 e
        · rw [hzs, em]
          exact cs
      · refine .inr ⟨b, _, .ref fd0, rfl, hb6, okb, .inr ⟨fd0, s.fl, z, rfl, hfd6, rt, sh, fun H' dd s' _ => qB (fun g => ?_) _ _ H' (by simp) (s6.trans s')⟩⟩
        obtain ⟨i, ei, lt, _⟩ := sh
        have := g.cs i z (by rw [hzs]; exact ei)
        rw [em] at this
        omega
    · exact .inr ⟨b, _, .ref fd0, rfl, hb6, okb, .inl ⟨th, fun H' s' => qB (fun g => nrt (by
        have := g.rt
        rw [ee, hzs] at this
        exact this)) _ _ H' (by simp) (s6.trans s')⟩⟩
end
end Rc

namespace Rc
open PySem PySem.Spec PyProof.Rows L2 RZ
open SX (S split_S join_S num_S int_S S_len S_cat)
/-! ### NoText -/
abbrev sNoT : Stmt := inClass (topS 4) 0
theorem txNoT : EX.Txt sNoT ["row"] :=
  ⟨by simp, by decide, rfl, rfl, rfl, by decide +kernel, rfl, rfl, rfl, fun f hf => by
      obtain rfl := List.mem_singleton.mp hf
      exact ⟨rfl, by decide, by decide⟩, by decide, ⟨_, rfl, rfl⟩,
    fun _ _ _ _ _ _ _ _ vs hl => match vs, hl with | [v], _ => rfl, ⟨_, _, _, _, _, _, _, _, rfl, ⟨_, fun _ => rfl⟩, .cons .nil⟩⟩
abbrev ClsNoT (P : Program) (K : PySem.W.Frag) (mg : Str → Option Value) (C : Addr) : Prop :=
  EX.Cx' P K mg "NoText" sNoT ["row"] "ValueError" "ValueError.__new__" "ValueError.__init__" [.type "ValueError", .type "Exception", .type "BaseException", .type "object"] C
/-- the clause of read_book catches all six -/
structure B6 (K : PySem.W.Frag) (mg : Str → Option Value) (Z : Bx) : Prop where
  gB : mg "NoBook" = some (.ref Z.B)
  gN : mg "NoSuch" = some (.ref Z.X.N)
  gA : mg "NoAmount" = some (.ref Z.X.A)
  gF : mg "Full" = some (.ref Z.X.F)
  gV : mg "NoVector" = some (.ref Z.V)
  gS : mg "Short" = some (.ref Z.S)
  any : ∀ c ∈ Z.six, PySem.W.exmAny K (.ref c) [.ref Z.B, .ref Z.X.N, .ref Z.X.A, .ref Z.X.F, .ref Z.V, .ref Z.S] = some true
section
variable {P : Program} {w : World} {K : PySem.W.Frag} {mg : Str → Option Value} {base : Heap}
/-! ### read_book, of rows that are good by themselves -/
def spRdbT (K : PySem.W.Frag) (C CT : Addr) : Sp := fun vs H Q E => ∃ rows : List BRow, vs = [.str (S (textL rows))] ∧ (∀ r ∈ rows, r.Ok) ∧ rows.length ≤ 200 ∧
  (GoodRows rows → ∀ b H', Same H H' → H b = none → BookAt K C H' b (readM rows) → Q (.ref b) H') ∧ (¬ GoodRows rows → ∀ dd H', Same H H' → H' dd = some (.xd [("row", .int 0)]) → E (.ref CT) (some dd) H')
theorem ok_rdbT {f f1 f2 C CT : Addr} {fd fd1 fd2 : FuncData} {Z : Bx} (F : Fun K "read_book" "read_book" sRdb f fd) (B : Blt mg) (NT : ClsNoT P K mg CT) (X6 : B6 K mg Z) (SR : Has P w K mg base 3 "split_rows" ["text"] spSpr f1 fd1) (BR : HasXN P w K mg base 8 "book_of_rows" ["rows"] (spBorT K C Z) f2 fd2) :
    FnOk P w K mg base (L2.CX P w) 9 f fd ["text"] (spRdbT K C CT) := by
  refine F.okX scRdb (fun vs H Q E h => ?_) (fun cdv A outer s H vs Q E hr h => ?_)
  · obtain ⟨_, rfl, _⟩ := h
    rfl
  · obtain ⟨rows, rfl, ok, hl, q, qB⟩ := h
    have hr3 := hr.mono (show 3 ≤ 8 by decide)
    have hdp : (A.deeper (envOfC "read_book" (defScope sRdb) s.heap.objs.size f cdv)).depth + 1 < recursionLimit := by have := hr.dp; omega
    refine ⟨_, pss_cons (ps_if (pt_not (pt_val (pe_callB call_isi (by rfl) B.isi (by decide +kernel) (pa_cons (pv 0) (pa_cons (pe_bltn (v := .ty "str") (by rfl) B.str (by decide +kernel) rfl) pa_nil))))) pss_never pss_nil)
      (pss_cons (ps_set (i := 1) scRdb.nd rfl (.inl rfl) (pe_call SR.ok hr3 (by rfl) SR.g SR.kp SR.b .nil pass0 (pa_cons (pv 0) pa_nil)))
      (pss_one (ps_tryTupX rfl rfl (SpecX.many (.cons ⟨rfl, by decide, .inl X6.gB⟩ (.cons ⟨rfl, by decide, .inl X6.gN⟩ (.cons ⟨rfl, by decide, .inl X6.gA⟩ (.cons ⟨rfl, by decide, .inl X6.gF⟩ (.cons ⟨rfl, by decide, .inl X6.gV⟩ (.cons ⟨rfl, by decide, .inl X6.gS⟩ .nil)))))) (by show 6 ≤ sizeLine; decide)) (L2H.passesAt_of rfl) (takes_of rfl rfl rfl rfl)
        (fun W pn xe tk _ => pss_one (ps_ret (pe_callS BR.ok hr (by rfl) BR.g BR.kp BR.b (fun σ => L2N.passAt tk σ) (pa_cons (pv 1) pa_nil))))
        (fun a oe cls d pn hz hf tkS hot => pss_one (L2H.ps_raiseHN hot tkS (pmk5_ex NT txNoT EX.base_Value hdp (pa_cons pe_int pa_nil) (by rfl))))))), ?_⟩
    refine ⟨_, rfl, _, .ty "str", _, _, strD (.str _), rfl, .ty "str", (Dt.str (K := K) (H := H) _).ty, kit_str (.str _), _, rfl, iteF ?_⟩
    refine ⟨_, rfl, rows, rfl, ok, hl, fun L ws H1 s1 hL hW => ?_⟩
    refine ⟨_, rfl, L, ws, rows, rfl, hL, hW, ok, hl, fun g b H2 s2 nb hb => q g b H2 (s1.trans s2) (s1.free nb) hb, fun ng c d H2 hc s2 => ?_⟩
    refine ⟨true, X6.any c hc, fun _ a na => ?_, fun z => nomatch z⟩
    exact ⟨rfl, fun dd nd => qB ng dd _ (s1.trans (s2.trans (same_upd nd))) upd_same⟩
end
end Rc

namespace Rc
open PySem PySem.Spec PyProof.Rows L2 RZ
/-! ### the text of a model whose fallen is anything: is it a book's -/
structure Gx (zs : List Str) (D : Md) : Prop where
  nz : NamesOk zs
  nt : ∀ l ∈ D.notes, ∀ n ∈ l, NoteOk zs n
  gv : ∀ g ∈ D.given, 0 ≤ g ∧ g ≤ 100 * 10 ^ 58
  fl : ∀ f ∈ D.fallen, 0 ≤ f ∧ f ≤ 6000 * 10 ^ 58
  my : (D.notes.map List.length).sum ≤ 60
  lg : D.given.length = zs.length
  lf : D.fallen.length = zs.length
  ln : D.notes.length = zs.length
theorem Gx.rows {zs : List Str} {D : Md} (g : Gx zs D) : RowsOk' zs (rowsOf zs D) := by
  obtain ⟨h1, h2, h3, h4, h5⟩ := rowsN_facts g.lg g.lf g.ln zs.length (Nat.le_refl _)
  rw [List.take_length] at h1
  rw [show D.notes.take zs.length = D.notes by rw [← g.ln, List.take_length]] at h2 h3
  have my := g.my
  have n12 := g.nz.n1
  refine ⟨fun r hr => ?_, h1, by unfold rowsOf; omega, by unfold rowsOf; omega, h5⟩
  obtain ⟨j, hj, hr⟩ := h4 r hr
  have hg : j < D.given.length := by rw [g.lg]; exact hj
  have hf : j < D.fallen.length := by rw [g.lf]; exact hj
  have hn : j < D.notes.length := by rw [g.ln]; exact hj
  unfold blockAt blockR at hr
  rw [getD_of (List.getElem?_eq_getElem hj), getD_of (List.getElem?_eq_getElem hg), getD_of (List.getElem?_eq_getElem hf), getD_of (List.getElem?_eq_getElem hn)] at hr
  rcases List.mem_cons.mp hr with rfl | hr
  · have hgv := g.gv _ (List.getElem_mem hg)
    have hfl := g.fl _ (List.getElem_mem hf)
    have l2 : (100 : Int) * 10 ^ 58 ≤ 6000 * 10 ^ 58 := by decide
    exact ⟨List.getElem_mem hj, fig_small hgv.1 (Int.le_trans hgv.2 l2), fig_small hfl.1 hfl.2⟩
  · obtain ⟨n, hn', rfl⟩ := List.mem_map.mp hr
    obtain ⟨n1, n2, n3⟩ := g.nt _ (List.getElem_mem hn) n hn'
    have l1 : (1 : Int) * 10 ^ 58 ≤ 6000 * 10 ^ 58 := by decide
    exact ⟨n1, fig_small (by omega) (by omega), n2⟩
theorem Gx.back {zs : List Str} {D : Md} (g : Gx zs D) : fallM (bkOf zs { D with fallen := zeros zs.length }) (zs.zip D.fallen) = bkOf zs D := by
  have nd := g.nz.nd
  have ed : (zs.zip (zeros zs.length)).map (fun p => p.2 + moreAt (zs.zip D.fallen) p.1) = D.fallen := by
    refine List.ext_getElem (by rw [List.length_map, List.length_zip]; unfold zeros; rw [List.length_replicate, g.lf]; omega) fun i h1 h2 => ?_
    have hz : i < zs.length := by rw [← g.lf]; exact h2
    rw [List.getElem_map, List.getElem_zip]
    show (zeros zs.length)[i]'(by unfold zeros; rw [List.length_replicate]; exact hz) + moreAt (zs.zip D.fallen) zs[i] = _
    rw [zip_fall nd g.lf, more_at' (List.getElem_mem hz), nd.idxOf_getElem i hz, getD_of (List.getElem?_eq_getElem h2)]
    unfold zeros
    rw [List.getElem_replicate]
    omega
  show ({ names := zs, gifts := D.given, stacks := D.notes, drops := (zs.zip (zeros zs.length)).map (fun p => p.2 + moreAt (zs.zip D.fallen) p.1) } : Bk) = _
  rw [ed]
  rfl
theorem rows_inv {zs : List Str} {rows : List BRow} (r : RowsOk' zs rows) : ∀ i, i ≤ rows.length → RInv zs rows i (foldR zs (rows.take i))
  | 0, _ => RInv.start zs rows
  | i + 1, hi => by
    have ih := rows_inv r i (by omega)
    have e : foldR zs (rows.take (i + 1)) = stepR zs (foldR zs (rows.take i)) rows[i] := by
      unfold foldR
      rw [take_succ (by omega : i < rows.length), List.foldl_append]
      rfl
    rw [e]
    refine ih.step (by omega) (r.ok _ (List.getElem_mem _)) fun hp => ?_
    rcases ih.wh with h0 | h0
    · subst h0
      have := r.fst rows[0] (List.getElem?_eq_getElem (by omega))
      rw [this] at hp
      cases hp
    · exact h0
theorem rows_go {zs : List Str} {rows : List BRow} (r : RowsOk' zs rows) : RowsGo zs rows := fun i x e => by
  obtain ⟨hi, ex⟩ := List.getElem?_eq_some_iff.mp e
  have iv := rows_inv r i (by omega)
  have ok := r.ok x (List.mem_of_getElem? e)
  cases x with
  | per z g f => exact trivial
  | note y n =>
    refine ⟨?_, ok.1, ok.2.2, ?_⟩
    · rcases iv.wh with h0 | h0
      · subst h0
        have := r.fst _ e
        cases this
      · exact h0
    · rw [iv.my]
      have e1 : noteC rows = noteC (rows.take (i + 1)) + noteC (rows.drop (i + 1)) := by rw [← noteC_app, List.take_append_drop]
      have e2 : noteC (rows.take (i + 1)) = noteC (rows.take i) + 1 := by
        rw [take_succ hi, noteC_app, ex]
        rfl
      have := r.nc
      omega
theorem Gx.end {zs : List Str} {D : Md} (g : Gx zs D) : namesR (rowsOf zs D) = zs ∧ (endS (rowsOf zs D)).D = { D with fallen := zeros zs.length } ∧ (endS (rowsOf zs D)).fl = zs.zip D.fallen ∧ readM (rowsOf zs D) = bkOf zs D := by
  have e1 : namesR (rowsOf zs D) = zs := g.rows.nm
  have fa := fold_all g.nz.nd g.lg g.lf g.ln fun x hx => (g.gv x hx).1
  have e2 : (endS (rowsOf zs D)).D = { D with fallen := zeros zs.length } := by
    unfold endS
    rw [e1]
    exact fa.1
  have e3 : (endS (rowsOf zs D)).fl = zs.zip D.fallen := by
    unfold endS
    rw [e1]
    exact fa.2
  refine ⟨e1, e2, e3, ?_⟩
  unfold readM
  rw [e1, e2, e3]
  exact g.back
theorem Gx.good {zs : List Str} {D : Md} (g : Gx zs D) : GoodRows (rowsOf zs D) ↔ (∀ (j : Nat) (l : List (Str × Int)) (f : Int), D.notes[j]? = some l → D.fallen[j]? = some f → f ≤ wholeN l) ∧ ∀ (j : Nat) (z : Str), zs[j]? = some z → 0 ≤ cashM (bkOf zs D) j z := by
  obtain ⟨e1, e2, e3, e4⟩ := g.end
  constructor
  · intro h
    refine ⟨fun j l f el ef => ?_, fun j z ez => ?_⟩
    · have hj : j < zs.length := by
        have := (List.getElem?_eq_some_iff.mp el).1
        rw [g.ln] at this
        exact this
      have rt := h.rt
      rw [e1, e2, e3] at rt
      obtain ⟨k, l', f', a1, a2, a3, a4, a5⟩ := rt.kd (zs[j], f) (by
        have : (zs.zip D.fallen)[j]? = some (zs[j], f) := List.getElem?_zip_eq_some.mpr ⟨List.getElem?_eq_getElem hj, ef⟩
        exact List.mem_of_getElem? this)
      obtain rfl : k = j := nd_inj g.nz.nd (show zs[k]? = some zs[j] from a1) (List.getElem?_eq_getElem hj)
      have a2 : D.notes[k]? = some l' := a2
      have a3 : (zeros zs.length)[k]? = some f' := a3
      unfold zeros at a3
      rw [List.getElem?_replicate, if_pos hj] at a3
      cases a3
      rw [el] at a2
      cases a2
      have a5 : 0 + f ≤ wholeN l := a5
      omega
    · have := h.cs j z (by rw [e1]; exact ez)
      rw [e4] at this
      exact this
  · intro ⟨h1, h2⟩
    refine ⟨by rw [e1]; exact g.nz, by rw [e1]; exact rows_go g.rows, ?_, fun j z ez => ?_⟩
    · rw [e1, e2, e3]
      refine ⟨by rw [List.map_fst_zip (by rw [g.lf]; exact Nat.le_refl _)]; exact g.nz.nd, fun p hp => ?_⟩
      obtain ⟨i, hi, rfl⟩ := List.getElem_of_mem hp
      rw [List.length_zip] at hi
      have hz : i < zs.length := by omega
      have hf : i < D.fallen.length := by omega
      have hn : i < D.notes.length := by rw [g.ln]; exact hz
      rw [List.getElem_zip]
      refine ⟨i, D.notes[i], 0, List.getElem?_eq_getElem hz, List.getElem?_eq_getElem hn, ?_, (g.fl _ (List.getElem_mem hf)).1, ?_⟩
      · show (zeros zs.length)[i]? = some 0
        unfold zeros
        rw [List.getElem?_replicate, if_pos hz]
      · show 0 + D.fallen[i] ≤ _
        have := h1 i _ _ (List.getElem?_eq_getElem hn) (List.getElem?_eq_getElem hf)
        omega
    · rw [e4]
      rw [e1] at ez
      exact h2 j z ez
theorem Gx.ok {zs : List Str} {D : Md} (g : Gx zs D) : (∀ r ∈ rowsOf zs D, r.Ok) ∧ (rowsOf zs D).length ≤ 200 := ⟨fun r hr => (g.rows.ok r hr).ok fun z hz => word_of_name (g.nz.nm z hz), Nat.le_trans g.rows.len (by decide)⟩
end Rc

namespace Rc
open PySem PySem.Spec PyProof.Rows L2 RZ
open SX (S split_S join_S num_S int_S S_len S_cat)
theorem toS {n : Int} (h : 0 ≤ n) : Str.ofString (toString n) = S (figL n) := by
  have e : n = ((n.toNat : Nat) : Int) := (Int.toNat_of_nonneg h).symm
  conv => lhs; rw [e]
  exact num_S n.toNat
theorem fig_log {n : Int} (h : FigOk n) : n.natAbs.log2 < 1920 := by
  have h1 := h.1
  have h2 : n < 10 ^ 70 := h.2
  have h3 : (10 : Int) ^ 70 ≤ 2 ^ 240 := by decide +kernel
  have h4 : n.natAbs < 2 ^ 1920 := by
    have e : (n.natAbs : Int) = n := Int.natAbs_of_nonneg h1
    have h5 : (n.natAbs : Int) < ((2 ^ 240 : Nat) : Int) := by
      have e6 : ((2 ^ 240 : Nat) : Int) = 2 ^ 240 := by decide +kernel
      omega
    have h6 : n.natAbs < 2 ^ 240 := Int.ofNat_lt.mp h5
    exact Nat.lt_of_lt_of_le h6 (Nat.pow_le_pow_right (by decide) (by decide))
  by_cases z : n.natAbs = 0
  · rw [z]
    decide
  · exact (Nat.log2_lt z).mpr h4
theorem row_per {z : Str} {g f : Int} (hg : 0 ≤ g) (hf : 0 ≤ f) : Txt.join " " ["person", z, Str.ofString (toString g), Str.ofString (toString f)] = S (rowL (.per z g f)) := by
  have blE : (" " : Str) = S [32] := by decide +kernel
  rw [blE, wPerson_eq, toS hg, toS hf]
  conv => lhs; rw [← S_cps z]
  exact join_S [32] [wPerson, cpsL z, figL g, figL f]
theorem row_note {y : Str} {n : Int} (hn : 0 ≤ n) : (((("  " : Str) ++ y) ++ " ") ++ Str.ofString (toString n)) = S (rowL (.note y n)) := by
  have blE : (" " : Str) = S [32] := by decide +kernel
  have bl2 : ("  " : Str) = S [32, 32] := by decide +kernel
  rw [blE, bl2, toS hn]
  conv => lhs; rw [← S_cps y]
  rw [S_cat, S_cat, S_cat]
  show S _ = S ([] ++ ([32] ++ ([] ++ ([32] ++ (cpsL y ++ ([32] ++ figL n))))))
  simp
theorem joinL_nil : ∀ l : List (List Nat), TL.joinL [] l = l.flatten
  | [] => rfl
  | [p] => by
    show p = _
    simp
  | p :: q :: r => by
    show p ++ ([] ++ TL.joinL [] (q :: r)) = _
    rw [joinL_nil (q :: r)]
    simp
theorem text_of (rs : List BRow) : Txt.join "" (rs.map fun r => S (rowL r) ++ "\n") = S (textL rs) := by
  have nlE : ("\n" : Str) = S [10] := by decide +kernel
  rw [nil_eq, nlE]
  have e : (rs.map fun r => S (rowL r) ++ S [10]) = (rs.map fun r => rowL r ++ [10]).map S := by
    rw [List.map_map]
    exact List.map_congr_left fun r _ => S_cat _ _
  rw [e, join_S, joinL_nil]
  rfl
theorem sum_le {α : Type} {f : α → Nat} {k : Nat} : ∀ {l : List α}, (∀ x ∈ l, f x ≤ k) → (l.map f).sum ≤ k * l.length
  | [], _ => Nat.zero_le _
  | x :: l, h => by
    have h1 := h x List.mem_cons_self
    have h2 := sum_le fun y hy => h y (List.mem_cons_of_mem _ hy)
    rw [List.map_cons, List.sum_cons, List.length_cons, Nat.mul_add]
    omega
end Rc

namespace Rc
open PySem PySem.Spec PyProof.Rows L2 RZ
open SX (S split_S join_S num_S int_S S_len S_cat)
/-- a def that refuses -/
structure HasX (P : Program) (w : World) (K : PySem.W.Frag) (mg : Str → Option Value) (base : Heap) (k : Nat) (nm : Str) (ps : List Str) (sp : Sp) (f : Addr) (fd : FuncData) : Prop where
  ok : FnOk P w K mg base (L2.CX P w) k f fd ps sp
  g : mg nm = some (.ref f)
  kp : PySem.W.keepIn K (.ref f) = true
  b : Binds K fd ps []
/-- what a law asks of NoText -/
structure T25 (K : PySem.W.Frag) (mg : Str → Option Value) (CT : Addr) : Prop where
  gT : mg "NoText" = some (.ref CT)
  xf : XfC K CT
  row : PySem.W.findIn K (.ref CT) "row" = some none
  eTT : PySem.W.exmOne K (.ref CT) (.ref CT) = some true
section
variable {P : Program} {w : World} {K : PySem.W.Frag} {mg : Str → Option Value} {base : Heap}
/-! ### _law_read -/
abbrev sLRd : Stmt := topS 61
abbrev nLRd : List Str := ["_law_text_here", "_law_told", "e"]
theorem scLRd : FnScope nLRd ["_law_text_here"] (defScope sLRd) := ⟨rfl, rfl, rfl, by decide +kernel, rfl, by decide +kernel, by decide +kernel⟩
def spLRd (K : PySem.W.Frag) (C : Addr) : Sp := fun vs H Q _ => ∃ rows : List BRow, vs = [.str (S (textL rows))] ∧ (∀ r ∈ rows, r.Ok) ∧ rows.length ≤ 200 ∧
  (GoodRows rows → ∀ b H', Same H H' → H b = none → BookAt K C H' b (readM rows) → Q (.ref b) H') ∧ (¬ GoodRows rows → ∀ H', Same H H' → Q (.int 0) H')
theorem ok_lrd {f f1 C CT : Addr} {fd fd1 : FuncData} (F : Fun K "_law_read" "_law_read" sLRd f fd) (X : T25 K mg CT) (RB : HasX P w K mg base 9 "read_book" ["text"] (spRdbT K C CT) f1 fd1) :
    FnOk P w K mg base CX0 10 f fd ["_law_text_here"] (spLRd K C) := by
  refine F.ok scLRd (fun vs H Q E h => ?_) (fun cdv Ar outer s H vs Q E0 hr h => ?_)
  · obtain ⟨_, rfl, _⟩ := h
    rfl
  · obtain ⟨rows, rfl, ok, hl, q, qB⟩ := h
    refine ⟨_, (pss_cons (ps_set (i := 1) scLRd.nd rfl (.inl rfl) pe_non) (pss_cons (ps_try_mix (Wo := fun _ _ _ _ => False) rfl rfl scLRd.nd (fun _ _ ⟨_, _, _, _, _, _, _, _, _, _, _, _, _, _, _, _, z⟩ => z.elim)
        (fun W pn xe tk _ => pss_one (ps_set (i := 1) scLRd.nd rfl (.inl rfl) (pe_callS RB.ok hr (by rfl) RB.g RB.kp RB.b (fun σ => passAt tk σ) (pa_cons (pv 0) pa_nil))))
        (.named (i := 2) rfl rfl ⟨rfl, by decide, .inl X.gT⟩ (fun a oe cls d pn hz hf => pss_one (ps_set (i := 1) scLRd.nd rfl (.inl rfl) (pe_xf X.xf X.row hz hf (pv 2)))) .nil)) (pss_one (ps_ret (pv 1))))), ?_⟩
    refine ⟨_, rfl, rows, rfl, ok, hl, fun g b H1 s1 nb hb => ⟨_, rfl, q g b H1 s1 nb hb⟩, fun ng dd H1 s1 hdd => ⟨true, X.eTT, fun _ a na => ?_, fun z => nomatch z⟩⟩
    exact ⟨.ref a, rfl, rfl, rfl, dd, _, .int 0, rfl, hdd, rfl, _, rfl, qB ng H1 s1⟩
end
end Rc

namespace Rc
open PySem PySem.Spec PyProof.Rows L2 RZ
open SX (S split_S join_S num_S int_S S_len S_cat)
theorem Gx.rowsOk {zs : List Str} {D : Md} (g : Gx zs D) : RowsOk D := fun l hl => Nat.le_trans (len_le_sum hl) g.my
section
variable {P : Program} {w : World} {K : PySem.W.Frag} {mg : Str → Option Value} {base : Heap}
/-! ### _law_text, of any fallen -/
abbrev sLTx : Stmt := topS 57
abbrev nLTx : List Str := ["_law_model_here", "_law_rows", "_law_who", "_law_parts", "_law_to", "_law_amount_here", "_law_row"]
theorem scLTx : FnScope nLTx ["_law_model_here"] (defScope sLTx) := ⟨rfl, rfl, rfl, by decide +kernel, rfl, by decide +kernel, by decide +kernel⟩
def spLTx (K : PySem.W.Frag) : Sp := fun vs H Q _ => ∃ (a : MdA) (D : Md) (zs : List Str), vs = [.ref a.m] ∧ ModelAt K H zs a D ∧ Gx zs D ∧ ∀ H', Same H H' → Q (.str (S (textL (rowsOf zs D)))) H'
theorem ok_ltx {f : Addr} {fd : FuncData} (F : Fun K "_law_text" "_law_text" sLTx f fd) (B : Blt mg) : FnOk P w K mg base CX0 1 f fd ["_law_model_here"] (spLTx K) := by
  refine F.ok scLTx (fun vs H Q E h => ?_) (fun cdv A outer s H vs Q E hr h => ?_)
  · obtain ⟨_, _, _, rfl, _⟩ := h
    rfl
  · obtain ⟨a, D, zs, rfl, hM, g, q⟩ := h
    have hu := hu_of hr
    refine ⟨_, (pss_cons (ps_set (i := 1) scLTx.nd rfl (.inl rfl) (pe_lst pa_nil)) (pss_cons (ps_for PassesOwn.never rfl (pi_list (pe_dget hu (pv 0) pe_str (fun _ _ => rfl))) (pg_name (i := 2) scLTx.nd rfl (.inl rfl)) (pss_cons (ps_set (i := 3) scLTx.nd rfl (.inl rfl) (pe_lst (pa_cons pe_str (pa_cons (pv 2) (pa_cons (pe_callTy call_str_int (by rfl) B.str (by decide +kernel) (pa_cons (pe_dget hu (pe_dget hu (pv 0) pe_str (fun _ _ => rfl)) (pv 2) (fun _ _ => rfl)) pa_nil)) (pa_cons (pe_callTy call_str_int (by rfl) B.str (by decide +kernel) (pa_cons (pe_dget hu (pe_dget hu (pv 0) pe_str (fun _ _ => rfl)) (pv 2) (fun _ _ => rfl)) pa_nil)) pa_nil)))))) (pss_cons (ps_expr (pe_bm PySem.F.plainAttrs_list PySem.F.slot_list_append PySem.F.type_list_append mt_append (pv 1) (pa_cons (pe_join pe_str (pv 3)) pa_nil))) (pss_one (ps_set (i := 1) scLTx.nd rfl (.inl rfl) (pe_op op_cat (pv 1) (pe_lc (own := [("_law_to", 4), ("_law_amount_here", 5)]) (g := gTup K 2 (gCons (gName 4) (gCons (gName 5) gNil))) (tt := tYes) rfl scLTx.nd (pi_list (pe_dget hu (pe_dget hu (pv 0) pe_str (fun _ _ => rfl)) (pv 2) (fun _ _ => rfl))) (blkOk_by (N := nLTx) (sc := defScope sLTx) (own := [("_law_to", 4), ("_law_amount_here", 5)]) (by decide +kernel)) (fun _ _ _ _ _ => pg_tup rfl (pgs_cons (pg_name (i := 4) scLTx.nd rfl (.inl rfl) (hf := .inr rfl)) (pgs_cons (pg_name (i := 5) scLTx.nd rfl (.inl rfl) (hf := .inr rfl)) pgs_nil))) (fun _ _ _ _ _ => pts_nil) (fun _ _ _ _ _ => (pe_op op_add_str (pe_op op_add_str (pe_op op_add_str pe_str (pv 4)) pe_str) (pe_callTy call_str_int (by rfl) B.str (by decide +kernel) (pa_cons (pv 5) pa_nil))))))))))) (pss_one (ps_ret (pe_join pe_str (pe_lc (own := [("_law_row", 6)]) (g := gName 6) (tt := tYes) rfl scLTx.nd (pi_list (pv 1)) (blkOk_by (N := nLTx) (sc := defScope sLTx) (own := [("_law_row", 6)]) (by decide +kernel)) (fun _ _ _ _ _ => pg_name (i := 6) scLTx.nd rfl (.inl rfl) (hf := .inr rfl)) (fun _ _ _ _ _ => pts_nil) (fun _ _ _ _ _ => (pe_op op_add_str (pv 6) pe_str)))))))), ?_⟩
    have nz := g.nz
    have n12 := nz.n1
    have lenz : (zs.map V.str).length = zs.length := List.length_map ..
    have rg := g.rows
    have l1 : (" " : Str).length = 1 := by decide +kernel
    have l2 : ("  " : Str).length = 2 := by decide +kernel
    have l6 : ("person" : Str).length = 6 := by decide +kernel
    have l0 : ("" : Str).length = 0 := by decide +kernel
    have l10 : ("\n" : Str).length = 1 := by decide +kernel
    refine ⟨Nat.zero_le _, fun R nR => ?_⟩
    have sR := same_upd (o := .lst []) nR
    have hR0 : upd H R (.lst []) R = some (.lst []) := upd_same
    generalize upd H R (.lst []) = H1 at sR hR0
    have hM1 := model_same hM sR
    refine ⟨.ref a.m, rfl, a.m, .ref a.lo, rfl, hM1.g0, a.lo, rfl, ⟨_, .inl (.inl hM1.ho)⟩, ?_⟩
    refine for_it (walk_list (K := K) (a := a.lo) (xs := zs.map V.str)) (fun i σ H' => ∃ R y2 y3, σ = [some (.ref a.m), some (.ref R), y2, y3, none, none, none] ∧ Same H H' ∧ H R = none ∧ H' R = some (.lst (((rowsN zs D i).map fun r => S (rowL r)).map V.str)))
      ⟨R, _, _, rfl, sR, nR, hR0⟩ (fun i σ H' _ hP => ?_) (fun i x σ H2' H2 hi hP hY => ?_) (fun σ H2 hP => ?_)
    · obtain ⟨_, _, _, _, s2, _⟩ := hP
      exact .inl (.inl (s2 _ _ hM.ho))
    · obtain ⟨rfl, hx⟩ := hY
      obtain ⟨R, y2, y3, rfl, s2, nR, hR2⟩ := hP
      rw [lenz] at hi
      have ex : x = .str zs[i] := by
        rw [List.getElem?_map, List.getElem?_eq_getElem hi] at hx
        exact (Option.some.inj hx).symm
      subst ex
      have hM2 := model_same hM s2
      have ej := List.getElem?_eq_getElem hi
      obtain ⟨gv, f', l', r, xs, eg, ef, el, er, hr0, hd0⟩ := hM2.at_ ej
      have eb : blockAt zs D i = .per zs[i] gv f' :: l'.map fun n => .note n.1 n.2 := by
        unfold blockAt blockR
        rw [getD_of ej, getD_of eg, getD_of ef, getD_of el]
      have lrn : (rowsN zs D i).length ≤ 72 := by
        obtain ⟨_, _, h3, _⟩ := rowsN_facts g.lg g.lf g.ln i (by omega)
        have h4 := g.my
        have h5 : ((D.notes.take i).map List.length).sum ≤ (D.notes.map List.length).sum := by
          conv => rhs; rw [← List.take_append_drop i D.notes, List.map_append, List.sum_append]
          omega
        omega
      have mem : ∀ r ∈ blockAt zs D i, r ∈ rowsOf zs D := fun r hr => by
        unfold rowsOf rowsN
        exact List.mem_flatten.mpr ⟨_, List.mem_map.mpr ⟨i, List.mem_range.mpr hi, rfl⟩, hr⟩
      have okb : ∀ r ∈ blockAt zs D i, r.OkZ zs := fun r hr => rg.ok r (mem r hr)
      have okp := okb (.per zs[i] gv f') (by rw [eb]; exact List.mem_cons_self)
      obtain ⟨_, fgv, ff⟩ := okp
      have ln8 := nameT_len (nz.nm _ (List.getElem_mem hi))
      have zl : zs[i].length ≤ 8 := ln8.2
      -- the person's row
      refine ⟨_, rfl, .ref a.m, rfl, a.m, .ref a.dg, rfl, hM2.g1, _, rfl, a.dg, _, rfl, hM2.gg ej eg, gv, rfl, fig_log fgv, .ref a.m, rfl, a.m, .ref a.df, rfl, hM2.g2, _, rfl, a.df, _, rfl, hM2.gf ej ef, f', rfl, fig_log ff, by show 4 ≤ sizeLine; decide, fun W nW => ?_⟩
      have s3 := same_upd (o := .lst [V.str "person", .str zs[i], .str (Str.ofString (toString gv)), .str (Str.ofString (toString f'))]) nW
      have hW3 : upd H2 W (.lst [V.str "person", .str zs[i], .str (Str.ofString (toString gv)), .str (Str.ofString (toString f'))]) W = some (.lst [V.str "person", .str zs[i], .str (Str.ofString (toString gv)), .str (Str.ofString (toString f'))]) := upd_same
      generalize upd H2 W (.lst [V.str "person", .str zs[i], .str (Str.ofString (toString gv)), .str (Str.ofString (toString f'))]) = H3 at s3 hW3
      have hR3 := s3 _ _ hR2
      have lgv : (Str.ofString (toString gv)).length ≤ 70 := by rw [toS fgv.1, S_len]; exact fig_len fgv
      have lff : (Str.ofString (toString f')).length ≤ 70 := by rw [toS ff.1, S_len]; exact fig_len ff
      refine ⟨.ref R, rfl, .inl ⟨rfl, _, .inl (.inl hR3)⟩, ⟨_, rfl⟩, .ref W, rfl, " ", W, ["person", zs[i], Str.ofString (toString gv), Str.ofString (toString f')], rfl, rfl, .inl (.inl (.inl hW3)), ?_, ?_⟩
      · show ("person" : Str).length + (zs[i].length + ((Str.ofString (toString gv)).length + ((Str.ofString (toString f')).length + 0))) + 4 * (" " : Str).length ≤ 16777216
        omega
      rw [row_per fgv.1 ff.1]
      refine ⟨R, _, _, rfl, rfl, hR3, by rw [List.length_map, List.length_map]; exact small1000 (by omega), ?_⟩
      have hR4 : upd H3 R (.lst ((((rowsN zs D i).map fun r => S (rowL r)).map V.str) ++ [V.str (S (rowL (.per zs[i] gv f')))])) R = some (.lst ((((rowsN zs D i).map fun r => S (rowL r)).map V.str) ++ [V.str (S (rowL (.per zs[i] gv f')))])) := upd_same
      have s4 : Same H (upd H3 R (.lst ((((rowsN zs D i).map fun r => S (rowL r)).map V.str) ++ [V.str (S (rowL (.per zs[i] gv f')))]))) := fun c o e => by
        rw [upd_ne (ne_of_none e nR)]
        exact s3 _ _ (s2 _ _ e)
      generalize upd H3 R (.lst ((((rowsN zs D i).map fun r => S (rowL r)).map V.str) ++ [V.str (S (rowL (.per zs[i] gv f')))])) = H4 at hR4 s4
      have hM4 := model_same hM s4
      -- the rows of notes
      obtain ⟨xs4, hr4, hd4⟩ := hM4.rows i r l' er el
      have lx : xs4.length = l'.length := by
        rw [hd4.len]
        unfold notesD
        rw [List.length_map]
      have ll' : l'.length ≤ 60 := g.rowsOk l' (List.mem_of_getElem? el)
      refine ⟨.ref R, rfl, .ref a.m, rfl, a.m, .ref a.dn, rfl, hM4.g3, _, rfl, a.dn, .ref r, rfl, hM4.gn ej er, r, rfl, ⟨_, .inl (.inl hr4)⟩, fun E0 nE0 => ?_⟩
      refine lc_it (walk_list (K := K) (a := r) (xs := xs4)) (fun k H' => Same H4 H' ∧ H' E0 = some (.lst (((l'.take k).map fun n => S (rowL (.note n.1 n.2))).map V.str))) ⟨same_upd nE0, upd_same⟩ (fun k H' _ hP => hP.1.seq (.inl (.inl hr4)))
        (fun k x H5' H5 hk hP hY => ?_) (fun H5 hP => ?_)
      · obtain ⟨rfl, hx⟩ := hY
        obtain ⟨hkl, dn⟩ := (DtAll.same hP.1 _ hd4).notes_get hx
        obtain ⟨na, rfl, qn⟩ := note_inv dn
        have okn := okb (.note l'[k].1 l'[k].2) (by rw [eb]; exact List.mem_cons_of_mem _ (List.mem_map.mpr ⟨l'[k], List.getElem_mem hkl, rfl⟩))
        obtain ⟨hy, fn, _⟩ := okn
        have ly : (l'[k].1).length ≤ 8 := (nameT_len (nz.nm _ hy)).2
        have lfn : (Str.ofString (toString l'[k].2)).length ≤ 70 := by rw [toS fn.1, S_len]; exact fig_len fn
        have a1 : (("  " : Str) ++ l'[k].1).length = ("  " : Str).length + (l'[k].1).length := PySem.Str.length_append ..
        have a2 : ((("  " : Str) ++ l'[k].1) ++ " ").length = (("  " : Str) ++ l'[k].1).length + (" " : Str).length := PySem.Str.length_append ..
        refine ⟨na, _, rfl, qn, rfl, _, _, rfl, _, _, rfl, rfl, rfl, _, rfl, "  ", _, rfl, rfl, line_of (by omega), _, " ", rfl, rfl, line_of (by omega), _, rfl, l'[k].2, rfl, fig_log fn, _, _, rfl, rfl, line_of (by omega), _, hP.2, ?_, fun c o ec => ?_, ?_⟩
        · rw [List.length_map, List.length_map, List.length_take]
          exact small1000 (by omega)
        · rw [upd_ne (ne_of_none ec nE0)]
          exact hP.1 c o ec
        · rw [upd_same, take_succ hkl, List.map_append, List.map_append, row_note fn.1]
          rfl
      obtain ⟨s5, hE5⟩ := hP
      rw [lx, List.take_length] at hE5
      have hR5 := s5 _ _ hR4
      refine ⟨R, E0, _, _, rfl, rfl, hR5, hE5, ?_, fun R2 nR2 => ?_⟩
      · rw [List.length_append, List.length_map, List.length_map, List.length_map, List.length_map]
        show (rowsN zs D i).length + 1 + l'.length ≤ sizeLine
        exact line_of (by omega)
      · have s45 : Same H H5 := s4.trans s5
        refine ⟨R2, _, _, rfl, s45.trans (same_upd nR2), s45.free nR2, ?_⟩
        have e9 : (l'.map fun n => BRow.note n.1 n.2).map (fun r => S (rowL r)) = l'.map fun n => S (rowL (.note n.1 n.2)) := List.map_map
        rw [upd_same, rowsN_succ, eb, List.map_append, List.map_append, List.map_cons, List.map_cons, e9, List.append_assoc]
        rfl
    obtain ⟨R, y2, y3, rfl, s2, nR, hR2⟩ := hP
    rw [lenz] at hR2
    have hR2 : H2 R = some (.lst (((rowsOf zs D).map fun r => S (rowL r)).map V.str)) := hR2
    have l72 := rg.len
    have okr : ∀ r ∈ rowsOf zs D, r.Ok := g.ok.1
    generalize rowsOf zs D = rs at hR2 l72 okr q
    refine ⟨⟨_, rfl⟩, .ref R, rfl, R, rfl, ⟨_, .inl (.inl hR2)⟩, fun E0 nE0 => ?_⟩
    refine lc_it (walk_list (K := K) (a := R) (xs := (rs.map fun r => S (rowL r)).map V.str)) (fun k H' => Same H2 H' ∧ H' E0 = some (.lst (((rs.take k).map fun r => S (rowL r) ++ "\n").map V.str))) ⟨same_upd nE0, upd_same⟩ (fun k H' _ hP => hP.1.seq (.inl (.inl hR2)))
      (fun k x H3' H3 hk hP hY => ?_) (fun H3 hP => ?_)
    · obtain ⟨rfl, hx⟩ := hY
      rw [List.length_map, List.length_map] at hk
      have ex : x = .str (S (rowL rs[k])) := by
        rw [List.getElem?_map, List.getElem?_map, List.getElem?_eq_getElem hk] at hx
        exact (Option.some.inj hx).symm
      subst ex
      have lr := rowL_len (okr _ (List.getElem_mem hk))
      have ls : (S (rowL rs[k])).length = (rowL rs[k]).length := S_len _
      refine ⟨rfl, _, rfl, _, "\n", rfl, rfl, line_of (by omega), _, hP.2, ?_, fun c o ec => ?_, ?_⟩
      · rw [List.length_map, List.length_map, List.length_take]
        exact small1000 (by omega)
      · rw [upd_ne (ne_of_none ec nE0)]
        exact hP.1 c o ec
      · rw [upd_same, take_succ hk, List.map_append, List.map_append]
        rfl
    obtain ⟨s3, hE3⟩ := hP
    rw [List.length_map, List.length_map, List.take_length] at hE3
    refine ⟨"", E0, rs.map fun r => S (rowL r) ++ "\n", rfl, rfl, .inl (.inl (.inl hE3)), ?_, ?_⟩
    · have h1 := sum_le (f := fun x : Str => x.length) (k := 261) (l := rs.map fun r => S (rowL r) ++ "\n") (fun x hx => by
        obtain ⟨r, hr, rfl⟩ := List.mem_map.mp hx
        have lr := rowL_len (okr r hr)
        have ls : (S (rowL r)).length = (rowL r).length := S_len _
        have a1 : (S (rowL r) ++ ("\n" : Str)).length = (S (rowL r)).length + ("\n" : Str).length := PySem.Str.length_append ..
        show (S (rowL r) ++ ("\n" : Str)).length ≤ 261
        omega)
      rw [List.length_map] at h1
      rw [l0]
      omega
    · rw [text_of]
      exact q H3 (s2.trans s3)
end
end Rc

namespace Rc
open PySem PySem.Spec PyProof.Rows L2 RZ
def CovD (zs : List Str) (D : Md) : Prop := (∀ (j : Nat) (l : List (Str × Int)) (f : Int), D.notes[j]? = some l → D.fallen[j]? = some f → f ≤ wholeN l) ∧ ∀ (j : Nat) (z : Str), zs[j]? = some z → 0 ≤ cashM (bkOf zs D) j z
def overB (D : Md) (k : Nat) : Bool := decide (D.fallen.getD k 0 > wholeN (D.notes.getD k []))
def cashB (zs : List Str) (D : Md) (k : Nat) : Bool := decide (cashD D k (zs.getD k "") ≥ 0)
theorem cov_bits {zs : List Str} {D : Md} (lf : D.fallen.length = zs.length) (ln : D.notes.length = zs.length) : (((List.range zs.length).map (overB D)).any id = false ∧ ((List.range zs.length).map (cashB zs D)).all id = true) ↔ CovD zs D := by
  constructor
  · intro ⟨h1, h2⟩
    refine ⟨fun j l f el ef => ?_, fun j z ez => ?_⟩
    · have hj : j < zs.length := by
        have := (List.getElem?_eq_some_iff.mp el).1
        omega
      have := List.any_eq_false.mp h1 (overB D j) (List.mem_map.mpr ⟨j, List.mem_range.mpr hj, rfl⟩)
      unfold overB at this
      rw [getD_of el, getD_of ef] at this
      simpa using this
    · have hj := (List.getElem?_eq_some_iff.mp ez).1
      have := List.all_eq_true.mp h2 (cashB zs D j) (List.mem_map.mpr ⟨j, List.mem_range.mpr hj, rfl⟩)
      unfold cashB at this
      rw [getD_of ez] at this
      rw [cash_eq]
      simpa using this
  · intro ⟨h1, h2⟩
    refine ⟨List.any_eq_false.mpr fun b hb => ?_, List.all_eq_true.mpr fun b hb => ?_⟩
    · obtain ⟨j, hj, rfl⟩ := List.mem_map.mp hb
      have hj := List.mem_range.mp hj
      have el : D.notes[j]? = some D.notes[j] := List.getElem?_eq_getElem (by omega)
      have ef : D.fallen[j]? = some D.fallen[j] := List.getElem?_eq_getElem (by omega)
      have := h1 j _ _ el ef
      show ¬ overB D j = true
      unfold overB
      rw [getD_of el, getD_of ef]
      simp
      omega
    · obtain ⟨j, hj, rfl⟩ := List.mem_map.mp hb
      have hj := List.mem_range.mp hj
      have ez : zs[j]? = some zs[j] := List.getElem?_eq_getElem hj
      have := h2 j _ ez
      rw [cash_eq] at this
      show cashB zs D j = true
      unfold cashB
      rw [getD_of ez]
      exact decide_eq_true this
section
variable {P : Program} {w : World} {K : PySem.W.Frag} {mg : Str → Option Value} {base : Heap}
/-! ### _law_whole -/
abbrev sLWh : Stmt := topS 54
abbrev nLWh : List Str := ["_law_model_here", "_law_who", "_law_to", "_law_amount_here"]
theorem scLWh : FnScope nLWh ["_law_model_here", "_law_who"] (defScope sLWh) := ⟨rfl, rfl, rfl, by decide +kernel, rfl, by decide +kernel, by decide +kernel⟩
def spLWh (K : PySem.W.Frag) : Sp := fun vs H Q _ => ∃ (a : MdA) (D : Md) (zs : List Str) (z : Str) (j : Nat) (l : List (Str × Int)), vs = [.ref a.m, .str z] ∧ ModelAt K H zs a D ∧ zs[j]? = some z ∧ D.notes[j]? = some l ∧ l.length ≤ 60 ∧ ∀ H', Same H H' → Q (.int (wholeN l)) H'
theorem ok_lwh {f : Addr} {fd : FuncData} (F : Fun K "_law_whole" "_law_whole" sLWh f fd) (B3 : Blt3 mg) : FnOk P w K mg base CX0 1 f fd ["_law_model_here", "_law_who"] (spLWh K) := by
  refine F.ok scLWh (fun vs H Q E h => ?_) (fun cdv Ar outer s H vs Q E0 hr h => ?_)
  · obtain ⟨_, _, _, _, _, _, rfl, _⟩ := h
    rfl
  · obtain ⟨a, D, zs, z, j, l, rfl, hM, ej, el0, ll, q⟩ := h
    have hu := hu_of hr
    refine ⟨_, (pss_one (ps_ret (pe_callB (cr_sum rfl) (by rfl) B3.sum (by decide +kernel) (pa_cons (pe_lc (own := [("_law_to", 2), ("_law_amount_here", 3)]) (g := gTup K 2 (gCons (gName 2) (gCons (gName 3) gNil))) (tt := tYes) rfl scLWh.nd (pi_list (pe_dget hu (pe_dget hu (pv 0) pe_str (fun _ _ => rfl)) (pv 1) (fun _ _ => rfl))) (blkOk_by (N := nLWh) (sc := defScope sLWh) (own := [("_law_to", 2), ("_law_amount_here", 3)]) (by decide +kernel)) (fun _ _ _ _ _ => pg_tup rfl (pgs_cons (pg_name (i := 2) scLWh.nd rfl (.inl rfl) (hf := .inr rfl)) (pgs_cons (pg_name (i := 3) scLWh.nd rfl (.inl rfl) (hf := .inr rfl)) pgs_nil))) (fun _ _ _ _ _ => pts_nil) (fun _ _ _ _ _ => (pv 3))) pa_nil)))), ?_⟩
    obtain ⟨gv, f', l', r, xs, eg, ef, el, er, hr0, dr0⟩ := hM.at_ ej
    rw [el0] at el
    cases el
    have lx : xs.length = l.length := by
      rw [dr0.len]
      unfold notesD
      rw [List.length_map]
    refine ⟨.ref a.m, rfl, a.m, .ref a.dn, rfl, hM.g3, .str z, rfl, a.dn, .ref r, rfl, hM.gn ej er, r, rfl, ⟨_, .inl (.inl hr0)⟩, fun D1 nD1 => ?_⟩
    refine lc_it (walk_list (K := K) (a := r) (xs := xs)) (fun i' H' => Same H H' ∧ H' D1 = some (.lst ((l.take i').map fun n => .int n.2))) ⟨same_upd nD1, upd_same⟩ (fun i' H' _ hP => hP.1.seq (.inl (.inl hr0)))
      (fun i' x' H3' H3 hi' hP hY => ?_) (fun H3 hP => ?_)
    · obtain ⟨rfl, hx'⟩ := hY
      obtain ⟨hil, dn⟩ := (DtAll.same hP.1 _ dr0).notes_get hx'
      obtain ⟨na, rfl, qn⟩ := note_inv dn
      refine ⟨na, _, rfl, qn, rfl, _, _, rfl, _, _, rfl, rfl, rfl, _, rfl, _, hP.2, ?_, fun c o ec => ?_, ?_⟩
      · rw [List.length_map, List.length_take]
        exact small1000 (by omega)
      · rw [upd_ne (ne_of_none ec nD1)]
        exact hP.1 c o ec
      · rw [upd_same, take_succ hil, List.map_append]
        rfl
    obtain ⟨s3, hD1⟩ := hP
    refine ⟨D1, l.map fun n : Str × Int => n.2, rfl, .inl (.inl ?_), ?_⟩
    · rw [hD1, lx, List.take_length, List.map_map]
      rfl
    · exact q H3 s3
/-! ### _law_is_covered -/
abbrev sLCo : Stmt := topS 60
abbrev nLCo : List Str := ["_law_model_here", "_law_who"]
theorem scLCo : FnScope nLCo ["_law_model_here"] (defScope sLCo) := ⟨rfl, rfl, rfl, by decide +kernel, rfl, by decide +kernel, by decide +kernel⟩
def spLCo (K : PySem.W.Frag) : Sp := fun vs H Q _ => ∃ (a : MdA) (D : Md) (zs : List Str), vs = [.ref a.m] ∧ ModelAt K H zs a D ∧ Gx zs D ∧ ∀ c H', Same H H' → (c = true ↔ CovD zs D) → Q (.bl c) H'
theorem ok_lco {f f1 f2 : Addr} {fd fd1 fd2 : FuncData} (F : Fun K "_law_is_covered" "_law_is_covered" sLCo f fd) (B : Blt mg) (BA : mg "any" = none) (WH : Has P w K mg base 1 "_law_whole" ["_law_model_here", "_law_who"] (spLWh K) f1 fd1) (CS : Has P w K mg base 2 "_law_cash" ["_law_model_here", "_law_who"] (spLCs K) f2 fd2) :
    FnOk P w K mg base CX0 3 f fd ["_law_model_here"] (spLCo K) := by
  refine F.ok scLCo (fun vs H Q E h => ?_) (fun cdv Ar outer s H vs Q E0 hr h => ?_)
  · obtain ⟨_, _, _, rfl, _⟩ := h
    rfl
  · obtain ⟨a, D, zs, rfl, hM, g, q⟩ := h
    have hu := hu_of hr
    have hr1 := hr.mono (show 1 ≤ 2 by decide)
    have hr2 := hr
    refine ⟨_, (pss_cons (ps_if (pt_val (pe_callB (cr_any rfl) (by rfl) BA (by decide +kernel) (pa_cons (pe_lc (own := [("_law_who", 1)]) (g := gName 1) (tt := tYes) rfl scLCo.nd (pi_list (pe_dget hu (pv 0) pe_str (fun _ _ => rfl))) (blkOk_by (N := nLCo) (sc := defScope sLCo) (own := [("_law_who", 1)]) (by decide +kernel)) (fun _ _ _ _ _ => pg_name (i := 1) scLCo.nd rfl (.inl rfl) (hf := .inr rfl)) (fun _ _ _ _ _ => pts_nil) (fun _ _ _ _ _ => pe_cmpR op_gt (pe_dget hu (pe_dget hu (pv 0) pe_str (fun _ _ => rfl)) (pv 1) (fun _ _ => rfl)) (pe_call WH.ok hr1 (by rfl) WH.g WH.kp WH.b .nil pass0 (pa_cons (pv 0) (pa_cons (pv 1) pa_nil))) (nomark _))) pa_nil))) (pss_one (ps_ret pe_bl)) pss_nil) (pss_one (ps_ret (pe_callB (cr_all rfl) (by rfl) B.all (by decide +kernel) (pa_cons (pe_lc (own := [("_law_who", 1)]) (g := gName 1) (tt := tYes) rfl scLCo.nd (pi_list (pe_dget hu (pv 0) pe_str (fun _ _ => rfl))) (blkOk_by (N := nLCo) (sc := defScope sLCo) (own := [("_law_who", 1)]) (by decide +kernel)) (fun _ _ _ _ _ => pg_name (i := 1) scLCo.nd rfl (.inl rfl) (hf := .inr rfl)) (fun _ _ _ _ _ => pts_nil) (fun _ _ _ _ _ => pe_cmpR op_ge (pe_call CS.ok hr2 (by rfl) CS.g CS.kp CS.b .nil pass0 (pa_cons (pv 0) (pa_cons (pv 1) pa_nil))) pe_int (nomark _))) pa_nil))))), ?_⟩
    have n12 := g.nz.n1
    have lz : (zs.map V.str).length = zs.length := List.length_map ..
    have ro := g.rowsOk
    have rs : ∀ i, i < zs.length → ∀ φ : Nat → Bool, (List.range (i + 1)).map φ = (List.range i).map φ ++ [φ i] := fun i _ φ => by rw [List.range_succ, List.map_append]; rfl
    refine ⟨.ref a.m, rfl, a.m, .ref a.lo, rfl, hM.g0, a.lo, rfl, ⟨_, .inl (.inl hM.ho)⟩, fun A0 nA0 => ?_⟩
    refine lc_it (walk_list (K := K) (a := a.lo) (xs := zs.map V.str)) (fun i H' => Same H H' ∧ H' A0 = some (.lst (((List.range i).map (overB D)).map V.bl))) ⟨same_upd nA0, upd_same⟩ (fun i H' _ hP => hP.1.seq (.inl (.inl hM.ho)))
      (fun i x H1' H1 hi hP hY => ?_) (fun H1 hP => ?_)
    · obtain ⟨rfl, hx⟩ := hY
      obtain ⟨s1, hA⟩ := hP
      rw [lz] at hi
      have ej : zs[i]? = some zs[i] := List.getElem?_eq_getElem hi
      have ex : x = .str zs[i] := by
        rw [List.getElem?_map, ej] at hx
        exact (Option.some.inj hx).symm
      subst ex
      generalize zs[i] = z at ej
      have hM1 := model_same hM s1
      obtain ⟨gv, f', l, r, xs, eg, ef, el, er, hr0, dr0⟩ := hM1.at_ ej
      refine ⟨rfl, .ref a.m, rfl, a.m, .ref a.df, rfl, hM1.g2, .str z, rfl, a.df, .int f', rfl, hM1.gf ej ef, .ref a.m, rfl, .str z, rfl, a, D, zs, z, i, l, rfl, hM1, ej, el, ro _ (List.mem_of_getElem? el), fun H2 s2 => ?_⟩
      have sA := s2 _ _ hA
      refine ⟨_, _, rfl, rfl, _, sA, ?_, fun c o ec => ?_, ?_⟩
      · rw [List.length_map, List.length_map, List.length_range]
        exact small1000 (by omega)
      · rw [upd_ne (ne_of_none ec nA0)]
        exact s2 _ _ (s1 _ _ ec)
      · rw [upd_same, rs i hi, List.map_append]
        show some (HO.lst (_ ++ [V.bl _])) = some (HO.lst (_ ++ [V.bl (overB D i)]))
        unfold overB
        rw [getD_of el, getD_of ef]
    obtain ⟨s1, hA⟩ := hP
    rw [lz] at hA
    refine ⟨A0, (List.range zs.length).map (overB D), rfl, .inl (.inl hA), ?_⟩
    have cb := cov_bits (zs := zs) g.lf g.ln
    refine ⟨_, rfl, ?_⟩
    cases ha : ((List.range zs.length).map (overB D)).any id with
    | true =>
      refine iteT (q false H1 s1 ⟨(fun z => by cases z), fun c => ?_⟩)
      have := (cb.mpr c).1
      rw [ha] at this
      cases this
    | false =>
      refine iteF ?_
      have hM1 := model_same hM s1
      refine ⟨.ref a.m, rfl, a.m, .ref a.lo, rfl, hM1.g0, a.lo, rfl, ⟨_, .inl (.inl hM1.ho)⟩, fun B0 nB0 => ?_⟩
      refine lc_it (walk_list (K := K) (a := a.lo) (xs := zs.map V.str)) (fun i H' => Same H1 H' ∧ H' B0 = some (.lst (((List.range i).map (cashB zs D)).map V.bl))) ⟨same_upd nB0, upd_same⟩ (fun i H' _ hP => hP.1.seq (.inl (.inl hM1.ho)))
        (fun i x H2' H2 hi hP hY => ?_) (fun H2 hP => ?_)
      · obtain ⟨rfl, hx⟩ := hY
        obtain ⟨s2, hB⟩ := hP
        rw [lz] at hi
        have ej : zs[i]? = some zs[i] := List.getElem?_eq_getElem hi
        have ex : x = .str zs[i] := by
          rw [List.getElem?_map, ej] at hx
          exact (Option.some.inj hx).symm
        subst ex
        generalize zs[i] = z at ej
        refine ⟨rfl, .ref a.m, rfl, .str z, rfl, a, D, zs, z, i, rfl, model_same hM1 s2, ej, ro, fun H3 s3 => ?_⟩
        refine ⟨_, _, rfl, rfl, _, s3 _ _ hB, ?_, fun c o ec => ?_, ?_⟩
        · rw [List.length_map, List.length_map, List.length_range]
          exact small1000 (by omega)
        · rw [upd_ne (ne_of_none ec nB0)]
          exact s3 _ _ (s2 _ _ ec)
        · rw [upd_same, rs i hi, List.map_append]
          show some (HO.lst (_ ++ [V.bl _])) = some (HO.lst (_ ++ [V.bl (cashB zs D i)]))
          unfold cashB
          rw [getD_of ej]
      obtain ⟨s2, hB⟩ := hP
      rw [lz] at hB
      refine ⟨B0, (List.range zs.length).map (cashB zs D), rfl, .inl (.inl hB), q _ H2 (s1.trans s2) ⟨fun z => cb.mp ⟨ha, z⟩, fun c => (cb.mpr c).2⟩⟩
end
end Rc

namespace Rc
open PySem PySem.Spec PyProof.Rows L2 RZ
theorem Gx.set {zs : List Str} {D : Md} {F : List Int} (g : Gx zs { D with fallen := F }) (j : Nat) {x : Int} (h0 : 0 ≤ x) (h1 : x ≤ 6000 * 10 ^ 58) : Gx zs { D with fallen := F.set j x } :=
  ⟨g.nz, g.nt, g.gv, fun f hf => by
    rcases List.mem_or_eq_of_mem_set hf with h | rfl
    · exact g.fl f h
    · exact ⟨h0, h1⟩, g.my, g.lg, by
    show (F.set j x).length = _
    rw [List.length_set]
    exact g.lf, g.ln⟩
section
variable {P : Program} {w : World} {K : PySem.W.Frag} {mg : Str → Option Value} {base : Heap}
/-! ### _law_settled_some -/
abbrev sLSs : Stmt := topS 56
abbrev nLSs : List Str := ["_law_model_here", "_law_turn", "_law_who"]
theorem scLSs : FnScope nLSs ["_law_model_here"] (defScope sLSs) := ⟨rfl, rfl, rfl, by decide +kernel, rfl, by decide +kernel, by decide +kernel⟩
def spLSs (K : PySem.W.Frag) : Sp := fun vs H Q _ => ∃ (a : MdA) (D : Md) (zs : List Str), vs = [.ref a.m] ∧ ModelAt K H zs a D ∧ Gx zs D ∧ ∀ F H', But a.df H H' → ModelAt K H' zs a { D with fallen := F } → Gx zs { D with fallen := F } → Q .non H'
theorem ok_lss {f f2 : Addr} {fd fd2 : FuncData} (F : Fun K "_law_settled_some" "_law_settled_some" sLSs f fd) (B2 : Blt2 mg) (CS : Has P w K mg base 2 "_law_cash" ["_law_model_here", "_law_who"] (spLCs K) f2 fd2) :
    FnOk P w K mg base CX0 3 f fd ["_law_model_here"] (spLSs K) := by
  refine F.ok scLSs (fun vs H Q E h => ?_) (fun cdv Ar outer s H vs Q E0 hr h => ?_)
  · obtain ⟨_, _, _, rfl, _⟩ := h
    rfl
  · obtain ⟨a, D, zs, rfl, hM, g, q⟩ := h
    have hu := hu_of hr
    have hr2 := hr
    refine ⟨_, (pss_one (ps_for PassesOwn.never rfl (pi_range1 (by rfl) B2.range (pa_cons pe_int pa_nil)) (pg_name (i := 1) scLSs.nd rfl (.inl rfl)) (pss_one (ps_for PassesOwn.never rfl (pi_list (pe_dget hu (pv 0) pe_str (fun _ _ => rfl))) (pg_name (i := 2) scLSs.nd rfl (.inl rfl)) (pss_one (ps_if (pt_cmpR op_lt (pe_call CS.ok hr2 (by rfl) CS.g CS.kp CS.b .nil pass0 (pa_cons (pv 0) (pa_cons (pv 2) pa_nil))) pe_int (nomark _)) (pss_one (ps_dput hu (pe_dget hu (pv 0) pe_str (fun _ _ => rfl)) (pv 2) (pe_callB (call_max2 rfl) (by rfl) B2.max (by decide +kernel) (pa_cons pe_int (pa_cons (pe_op op_add (pe_dget hu (pe_dget hu (pv 0) pe_str (fun _ _ => rfl)) (pv 2) (fun _ _ => rfl)) (pe_call CS.ok hr2 (by rfl) CS.g CS.kp CS.b .nil pass0 (pa_cons (pv 0) (pa_cons (pv 2) pa_nil)))) pa_nil))) rfl)) pss_nil)))))), ?_⟩
    have n12 := g.nz.n1
    have lz : (zs.map V.str).length = zs.length := List.length_map ..
    have fo : ∀ {H' : Hp}, But a.df H H' → H' a.lo = some (.lst (zs.map V.str)) := fun {H'} bf => bf _ _ (fun h => by
      have e := hM.ho
      rw [h, hM.hf] at e
      cases e) hM.ho
    refine ⟨_, rfl, by decide, by decide, ?_⟩
    refine for_it walk_range (fun i σ H' => ∃ F y1 y2, σ = [some (.ref a.m), y1, y2] ∧ But a.df H H' ∧ ModelAt K H' zs a { D with fallen := F } ∧ Gx zs { D with fallen := F }) ⟨D.fallen, _, _, rfl, (fun _ _ _ e => e), hM, g⟩ (fun _ _ _ _ _ => trivial) (fun i x σ H1' H1 hi hP hY => ?_) (fun σ H1 hP => ?_)
    · obtain ⟨rfl, rfl⟩ := hY
      obtain ⟨F, y1, y2, rfl, bf, hM1, g1⟩ := hP
      refine ⟨.ref a.m, rfl, a.m, .ref a.lo, rfl, hM1.g0, a.lo, rfl, ⟨_, .inl (.inl hM1.ho)⟩, ?_⟩
      refine for_it (walk_list (K := K) (a := a.lo) (xs := zs.map V.str)) (fun j σ H' => ∃ F y2, σ = [some (.ref a.m), some (.int (0 + i)), y2] ∧ But a.df H H' ∧ ModelAt K H' zs a { D with fallen := F } ∧ Gx zs { D with fallen := F }) ⟨F, _, rfl, bf, hM1, g1⟩ (fun j σ H' _ hP => ?_) (fun j x σ H2' H2 hj hP hY => ?_) (fun σ H2 hP => ?_)
      · obtain ⟨_, _, _, bf', _⟩ := hP
        exact .inl (.inl (fo bf'))
      · obtain ⟨rfl, hx⟩ := hY
        obtain ⟨F, y2, rfl, bf, hM2, g2⟩ := hP
        rw [lz] at hj
        have ej : zs[j]? = some zs[j] := List.getElem?_eq_getElem hj
        have ex : x = .str zs[j] := by
          rw [List.getElem?_map, ej] at hx
          exact (Option.some.inj hx).symm
        subst ex
        have jx : zs.idxOf zs[j] = j := g.nz.nd.idxOf_getElem j hj
        generalize zs[j] = z at ej jx
        refine ⟨.ref a.m, rfl, .str z, rfl, a, _, zs, z, j, rfl, hM2, ej, g2.rowsOk, fun H3 s3 => ?_⟩
        have hM3 := model_same hM2 s3
        have bf3 : But a.df H H3 := fun c o n e => s3 _ _ (bf c o n e)
        refine ⟨_, _, rfl, rfl, _, rfl, ite2 (fun c => ?_) (fun c => ⟨F, _, rfl, bf3, hM3, g2⟩)⟩
        obtain ⟨gv, f', l, r, xs, eg, ef, el, er, hr0, dr0⟩ := hM3.at_ ej
        refine ⟨.ref a.m, rfl, a.m, .ref a.df, rfl, hM3.g2, .str z, rfl, a.df, .int f', rfl, hM3.gf ej ef, .ref a.m, rfl, .str z, rfl, a, _, zs, z, j, rfl, hM3, ej, g2.rowsOk, fun H4 s4 => ?_⟩
        have hM4 := model_same hM3 s4
        have bf4 : But a.df H H4 := fun c o n e => s4 _ _ (bf3 c o n e)
        have c' : cashD { D with fallen := F } j z < 0 := by simpa using c
        generalize cashD { D with fallen := F } j z = cz at c'
        have ff := g2.fl f' (List.mem_of_getElem? ef)
        refine ⟨f', cz, rfl, rfl, 0, f' + cz, rfl, .ref a.m, rfl, a.m, .ref a.df, rfl, hM4.g2, .str z, rfl, a.df, _, rfl, DPut.k (k := Sum.inr z) hM4.hf (by rw [dct_len (by rw [List.length_map, hM4.lf])]; exact small1000 (by omega)), ?_⟩
        have hjf : j < F.length := (List.getElem?_eq_some_iff.mp ef).1
        rw [dct_put hM4.zn ej (by rw [List.length_map]; exact hjf), map_set V.int]
        refine ⟨F.set j (if f' + cz > 0 then f' + cz else 0), _, rfl, fun c o n e => ?_, hM4.setF g.nz.n0 _, g2.set j (by split <;> omega) (by split <;> omega)⟩
        rw [upd_ne n]
        exact bf4 c o n e
      · exact hP.elim fun F h => h.elim fun y2 h => ⟨F, _, _, h.1, h.2⟩
    · obtain ⟨F, y1, y2, rfl, bf, hM1, g1⟩ := hP
      exact q F H1 bf hM1 g1
end
end Rc

namespace Rc
open PySem PySem.Spec PyProof.Rows L2 RZ
theorem whole_take25 {l : List (Str × Int)} {i : Nat} (h : i < l.length) : wholeN (l.take (i + 1)) = wholeN (l.take i) + l[i].2 := by
  unfold wholeN
  rw [take_succ h, List.map_append, List.sum_append]
  simp
theorem Gx.wholeB {zs : List Str} {D : Md} (g : Gx zs D) {l : List (Str × Int)} (hl : l ∈ D.notes) : 0 ≤ wholeN l ∧ wholeN l ≤ 60 * 10 ^ 58 := by
  have h1 := wholeN_le (g.nt l hl)
  have h2 := g.rowsOk l hl
  have h3 : ((l.length : Nat) : Int) * 10 ^ 58 ≤ 60 * 10 ^ 58 := Int.mul_le_mul_of_nonneg_right (by omega) (by decide)
  exact ⟨wholeN_nonneg fun n hn => (g.nt l hl n hn).2.1, by omega⟩
/-- all stays but two -/
def But2 (p q : Addr) (H H' : Hp) : Prop := ∀ c o, c ≠ p → c ≠ q → H c = some o → H' c = some o
section
variable {P : Program} {w : World} {K : PySem.W.Frag} {mg : Str → Option Value} {base : Heap}
/-! ### _law_fallen -/
abbrev sLFa : Stmt := topS 55
abbrev nLFa : List Str := ["_law_pot_here", "_law_model_here", "_law_same", "_law_who", "_law_ends", "_law_end", "_law_to", "_law_amount_here", "_law_some"]
theorem scLFa : FnScope nLFa ["_law_pot_here", "_law_model_here"] (defScope sLFa) := ⟨rfl, rfl, rfl, by decide +kernel, rfl, by decide +kernel, by decide +kernel⟩
def spLFa (K : PySem.W.Frag) : Sp := fun vs H Q _ => ∃ (p : Addr) (a : MdA) (D : Md) (zs : List Str), vs = [.ref p, .ref a.m] ∧ Pot H p ∧ ModelAt K H zs a D ∧ ¬ a.Has p ∧ Gx zs D ∧ ∀ F H', Pot H' p → But2 p a.df H H' → ModelAt K H' zs a { D with fallen := F } → Gx zs { D with fallen := F } → Q .non H'
set_option maxHeartbeats 1000000 in
theorem ok_lfa {f fT fA : Addr} {fd fdT fdA : FuncData} (F : Fun K "_law_fallen" "_law_fallen" sLFa f fd) (B2 : Blt2 mg) (TK : HasTake P w K mg base fT fdT) (AM : HasAmong P w K mg base fA fdA) :
    FnOk P w K mg base CX0 3 f fd ["_law_pot_here", "_law_model_here"] (spLFa K) := by
  refine F.ok scLFa (fun vs H Q E h => ?_) (fun cdv Ar outer s H vs Q E0 hr h => ?_)
  · obtain ⟨_, _, _, _, rfl, _⟩ := h
    rfl
  · obtain ⟨p, a, D, zs, rfl, hp, hM, nap, g, q⟩ := h
    have hu := hu_of hr
    have hr1 := hr.mono (show 1 ≤ 2 by decide)
    refine ⟨_, (pss_cons (ps_set (i := 2) scLFa.nd rfl (.inl rfl) (pe_call TK.ok hr1 (by rfl) TK.g TK.kp TK.b .nil pass0 (pa_cons (pv 0) (pa_cons pe_int pa_nil)))) (pss_one (ps_for PassesOwn.never rfl (pi_list (pe_dget hu (pv 1) pe_str (fun _ _ => rfl))) (pg_name (i := 3) scLFa.nd rfl (.inl rfl)) (pss_cons (ps_par (i := 4) (j := 5) rfl scLFa.nd rfl rfl (by decide) rfl rfl (pa_cons (pe_lst (pa_cons pe_int pa_nil)) (pa_cons pe_int pa_nil)) (by rfl)) (pss_cons (ps_for PassesOwn.never rfl (pi_list (pe_dget hu (pe_dget hu (pv 1) pe_str (fun _ _ => rfl)) (pv 3) (fun _ _ => rfl))) (pg_tup rfl (pgs_cons (pg_name (i := 6) scLFa.nd rfl (.inl rfl)) (pgs_cons (pg_name (i := 7) scLFa.nd rfl (.inl rfl)) pgs_nil))) (pss_cons (ps_set (i := 5) scLFa.nd rfl (.inl rfl) (pe_op op_add (pv 5) (pv 7))) (pss_one (ps_set (i := 4) scLFa.nd rfl (.inl rfl) (pe_op op_cat (pv 4) (pe_lst (pa_cons (pv 5) (pa_cons (pe_callB (call_max2 rfl) (by rfl) B2.max (by decide +kernel) (pa_cons pe_int (pa_cons (pe_op op_sub (pv 5) pe_int) pa_nil))) pa_nil)))))))) (pss_cons (ps_set (i := 8) scLFa.nd rfl (.inl rfl) (pe_lst (pa_cons pe_int (pa_cons pe_int (pa_cons pe_int (pa_cons (pe_call AM.ok hr (by rfl) AM.g AM.kp AM.b .nil pass0 (pa_cons (pv 0) (pa_cons (pv 4) pa_nil))) pa_nil)))))) (pss_cons (ps_set (i := 8) scLFa.nd rfl (.inl rfl) (pe_op op_cat (pv 8) (pe_lst (pa_cons (pe_dget hu (pe_dget hu (pv 1) pe_str (fun _ _ => rfl)) (pv 3) (fun _ _ => rfl)) (pa_cons (pv 5) (pa_cons (pv 2) (pa_cons (pv 2) pa_nil))))))) (pss_one (ps_dput hu (pe_dget hu (pv 1) pe_str (fun _ _ => rfl)) (pv 3) (pe_callB (call_min2 rfl) (by rfl) B2.min (by decide +kernel) (pa_cons (pv 5) (pa_cons (pe_call AM.ok hr (by rfl) AM.g AM.kp AM.b .nil pass0 (pa_cons (pv 0) (pa_cons (pv 8) pa_nil))) pa_nil))) rfl))))))))), ?_⟩
    have n12 := g.nz.n1
    have lz : (zs.map V.str).length = zs.length := List.length_map ..
    refine ⟨.ref p, rfl, p, 4, rfl, hp, litM _ (by decide) (by decide), fun sm H1 u0 u1 hp1 b1 => ?_⟩
    have hM1 := model_but hM b1 hp nap
    have pdf : a.df ≠ p := fun z => nap (by rw [← z]; exact .inr (.inr (.inr (.inl rfl))))
    have plo : a.lo ≠ p := fun z => nap (by rw [← z]; exact .inr (.inl rfl))
    have lod : a.lo ≠ a.df := fun z => by
      have e := hM.ho
      rw [z, hM.hf] at e
      cases e
    refine ⟨.ref a.m, rfl, a.m, .ref a.lo, rfl, hM1.g0, a.lo, rfl, ⟨_, .inl (.inl hM1.ho)⟩, ?_⟩
    refine for_it (walk_list (K := K) (a := a.lo) (xs := zs.map V.str)) (fun j σ H' => ∃ F y3 y4 y5 y6 y7 y8, σ = [some (.ref p), some (.ref a.m), some (.int sm), y3, y4, y5, y6, y7, y8] ∧ Pot H' p ∧ But2 p a.df H H' ∧ ModelAt K H' zs a { D with fallen := F } ∧ Gx zs { D with fallen := F })
      ⟨D.fallen, _, _, _, _, _, _, rfl, hp1, (fun c o n1 _ e => b1 c o n1 e), hM1, g⟩ (fun j σ H' _ hP => ?_) (fun j x σ H2' H2 hj hP hY => ?_) (fun σ H2 hP => ?_)
    · obtain ⟨_, _, _, _, _, _, _, _, _, bf, _⟩ := hP
      exact .inl (.inl (bf _ _ plo lod hM.ho))
    · obtain ⟨rfl, hx⟩ := hY
      obtain ⟨F, y3, y4, y5, y6, y7, y8, rfl, hp2, bf, hM2, g2⟩ := hP
      rw [lz] at hj
      have ej : zs[j]? = some zs[j] := List.getElem?_eq_getElem hj
      have ex : x = .str zs[j] := by
        rw [List.getElem?_map, ej] at hx
        exact (Option.some.inj hx).symm
      subst ex
      generalize zs[j] = z at ej
      obtain ⟨gv, f', l, r, xs, eg, ef, el, er, hr0, dr0⟩ := hM2.at_ ej
      have hlm := List.mem_of_getElem? el
      have ll := g2.rowsOk l hlm
      have pos : ∀ n ∈ l, 1 ≤ n.2 := fun n hn => (g2.nt l hlm n hn).2.1
      obtain ⟨W0, W1⟩ := g2.wholeB hlm
      have gv0 := (g2.gv gv (List.mem_of_getElem? eg)).1
      have lx : xs.length = l.length := by
        rw [dr0.len]
        unfold notesD
        rw [List.length_map]
      refine ⟨by show 1 ≤ sizeLine; decide, fun F0 nF0 => ?_⟩
      have s1 := same_upd (o := .lst [V.int 0]) nF0
      have hF : upd H2 F0 (.lst [V.int 0]) F0 = some (.lst [V.int 0]) := upd_same
      generalize upd H2 F0 (.lst [V.int 0]) = H3 at s1 hF
      have hM3 := model_same hM2 s1
      refine ⟨_, _, rfl, .ref a.m, rfl, a.m, .ref a.dn, rfl, hM3.g3, .str z, rfl, a.dn, .ref r, rfl, hM3.gn ej er, r, rfl, ⟨_, .inl (.inl (s1 _ _ hr0))⟩, ?_⟩
      refine for_it (walk_list (K := K) (a := r) (xs := xs)) (fun i σ H' => ∃ (E : Addr) (es : List Int) (y6 y7 : Option V), σ = [some (.ref p), some (.ref a.m), some (.int sm), some (.str z), some (.ref E), some (.int (wholeN (l.take i))), y6, y7, y8] ∧ Same H2 H' ∧ H2 E = none ∧ H' E = some (.lst (es.map V.int)) ∧ es.length = 1 + 2 * i ∧ ∀ x ∈ es, 0 ≤ x)
        ⟨F0, [0], _, _, rfl, s1, nF0, hF, rfl, fun x hx => by rw [List.mem_singleton.mp hx]; exact Int.le_refl _⟩ (fun i σ H' _ hP => ?_) (fun i x σ H4' H4 hi hP hY => ?_) (fun σ H4 hP => ?_)
      · obtain ⟨_, _, _, _, _, s4, _⟩ := hP
        exact .inl (.inl (s4 _ _ hr0))
      · obtain ⟨rfl, hx⟩ := hY
        obtain ⟨E, es, y6, y7, rfl, s4, nE, hE, le, be⟩ := hP
        obtain ⟨hil, dn⟩ := (DtAll.same s4 _ dr0).notes_get hx
        obtain ⟨na, rfl, qn⟩ := note_inv dn
        have p1 : 1 ≤ l[i].2 := pos _ (List.getElem_mem hil)
        have w0 : 0 ≤ wholeN (l.take i) := wholeN_nonneg fun n hn => pos n (List.mem_of_mem_take hn)
        have wt := whole_take25 hil
        refine ⟨na, _, rfl, qn, rfl, _, _, rfl, _, _, rfl, rfl, ?_⟩
        refine ⟨_, rfl, _, rfl, _, _, rfl, rfl, .ref E, rfl, _, rfl, _, rfl, _, _, rfl, rfl, _, _, rfl, by show 2 ≤ sizeLine; decide, fun G nG => ?_⟩
        have nGE : E ≠ G := fun z => by rw [← z, hE] at nG; cases nG
        refine ⟨E, G, _, _, rfl, rfl, (by rw [upd_ne nGE]; exact hE), upd_same, by rw [List.length_map, le]; exact small_line (by show 1 + 2 * i + 2 ≤ 1000; omega), fun R nR => ?_⟩
        refine ⟨R, es ++ [wholeN (l.take i) + l[i].2, (if wholeN (l.take i) + l[i].2 - 1 > 0 then wholeN (l.take i) + l[i].2 - 1 else 0)], some (.str l[i].1), some (.int l[i].2), ?_, s4.trans ((same_upd nG).trans (same_upd nR)), ?_, ?_, ?_, ?_⟩
        · rw [wt]
          rfl
        · exact (s4.trans (same_upd nG)).free nR
        · rw [upd_same, List.map_append]
          rfl
        · rw [List.length_append, le]
          show 1 + 2 * i + 2 = _
          omega
        · intro x hx
          rcases List.mem_append.mp hx with hx | hx
          · exact be x hx
          · simp only [List.mem_cons, List.not_mem_nil, or_false] at hx
            rcases hx with rfl | rfl
            · omega
            · split <;> omega
      · obtain ⟨E, es, y6, y7, rfl, s4, nE, hE, le, be⟩ := hP
        rw [lx, List.take_length]
        have hp4 := hp2.same s4
        have Ep : E ≠ p := hp2.ne nE
        refine ⟨.ref p, rfl, .ref E, rfl, p, _, rfl, hp4, .inr ⟨E, _, rfl, Ep, hE, by rw [List.length_map, le]; omega, by rw [List.length_map, le]; omega, fun x H5 mx hp5 b5 => ?_⟩⟩
        obtain ⟨v, hv, rfl⟩ := List.mem_map.mp mx
        have v0 := be v hv
        refine ⟨by show 4 ≤ sizeLine; decide, fun L1 nL1 => ?_⟩
        have s6 := same_upd (o := .lst [V.int 0, .int 0, .int 1, .int v]) nL1
        have hL1 : upd H5 L1 (.lst [V.int 0, .int 0, .int 1, .int v]) L1 = some (.lst [V.int 0, .int 0, .int 1, .int v]) := upd_same
        generalize upd H5 L1 (.lst [V.int 0, .int 0, .int 1, .int v]) = H6 at s6 hL1
        have bf6 : But2 p a.df H H6 := fun c o n1 n2 e => s6 _ _ (b5 _ _ n1 (s4 _ _ (bf c o n1 n2 e)))
        have hM6 := model_same (model_but (model_same hM2 s4) b5 hp4 nap) s6
        have hp6 := hp5.same s6
        refine ⟨.ref L1, rfl, .ref a.m, rfl, a.m, .ref a.dg, rfl, hM6.g1, .str z, rfl, a.dg, .int gv, rfl, hM6.gg ej eg, .int (wholeN l), rfl, .int sm, rfl, .int sm, rfl, by show 4 ≤ sizeLine; decide, fun G nG => ?_⟩
        have nGL : L1 ≠ G := fun z => by rw [← z, hL1] at nG; cases nG
        refine ⟨L1, G, _, _, rfl, rfl, (by rw [upd_ne nGL]; exact hL1), upd_same, by show 8 ≤ sizeLine; decide, fun R nR => ?_⟩
        have s7 : Same H6 (upd (upd H6 G (.lst [V.int gv, .int (wholeN l), .int sm, .int sm])) R (.lst ([V.int 0, .int 0, .int 1, .int v] ++ [V.int gv, .int (wholeN l), .int sm, .int sm]))) := (same_upd nG).trans (same_upd nR)
        have nR6 : H6 R = none := (same_upd nG).free nR
        have hR : upd (upd H6 G (.lst [V.int gv, .int (wholeN l), .int sm, .int sm])) R (.lst ([V.int 0, .int 0, .int 1, .int v] ++ [V.int gv, .int (wholeN l), .int sm, .int sm])) R = some (.lst ([V.int 0, .int 0, .int 1, .int v] ++ [V.int gv, .int (wholeN l), .int sm, .int sm])) := upd_same
        generalize upd (upd H6 G (.lst [V.int gv, .int (wholeN l), .int sm, .int sm])) R (.lst ([V.int 0, .int 0, .int 1, .int v] ++ [V.int gv, .int (wholeN l), .int sm, .int sm])) = H7 at s7 hR
        have hp7 := hp6.same s7
        refine ⟨.int (wholeN l), rfl, .ref p, rfl, .ref R, rfl, p, _, rfl, hp7, .inr ⟨R, _, rfl, hp6.ne nR6, hR, by show 0 < 8; decide, by show 8 ≤ 1000; decide, fun x H8 mx hp8 b8 => ?_⟩⟩
        obtain ⟨n, rfl, n0⟩ : ∃ n : Int, x = .int n ∧ 0 ≤ n := by
          simp only [List.cons_append, List.nil_append, List.mem_cons, List.not_mem_nil, or_false] at mx
          rcases mx with rfl | rfl | rfl | rfl | rfl | rfl | rfl | rfl
          · exact ⟨_, rfl, by decide⟩
          · exact ⟨_, rfl, by decide⟩
          · exact ⟨_, rfl, by decide⟩
          · exact ⟨_, rfl, v0⟩
          · exact ⟨_, rfl, gv0⟩
          · exact ⟨_, rfl, W0⟩
          · exact ⟨_, rfl, u0⟩
          · exact ⟨_, rfl, u0⟩
        have hM8 := model_but (model_same hM6 s7) b8 hp7 nap
        refine ⟨wholeN l, n, rfl, .ref a.m, rfl, a.m, .ref a.df, rfl, hM8.g2, .str z, rfl, a.df, _, rfl, DPut.k (k := Sum.inr z) hM8.hf (by rw [dct_len (by rw [List.length_map, hM8.lf])]; exact small1000 (by omega)), ?_⟩
        have hjf : j < F.length := (List.getElem?_eq_some_iff.mp ef).1
        rw [dct_put hM8.zn ej (by rw [List.length_map]; exact hjf), map_set V.int]
        refine ⟨F.set j (if n < wholeN l then n else wholeN l), _, _, _, _, _, _, rfl, ?_, fun c o n1 n2 e => ?_, hM8.setF g.nz.n0 _, g2.set j (by split <;> omega) (by split <;> omega)⟩
        · obtain ⟨px, py, pe, pr⟩ := hp8
          exact ⟨px, py, by rw [upd_ne pdf.symm]; exact pe, pr⟩
        · rw [upd_ne n2]
          exact b8 _ _ n1 (s7 _ _ (bf6 c o n1 n2 e))
    · obtain ⟨F, y3, y4, y5, y6, y7, y8, rfl, hp2, bf, hM2, g2⟩ := hP
      exact q F H2 hp2 bf hM2 g2
end
end Rc

namespace Rc
open PySem PySem.Spec PyProof.Rows L2 RZ
/-! ### texts that are spoilt as a whole -/
theorem namesR_app (a b : List BRow) : namesR (a ++ b) = namesR a ++ namesR b := List.filterMap_append
/-- what is wrong of the names -/
theorem bad_names {rows : List BRow} (h : ¬ NamesOk (namesR rows)) : ¬ GoodRows rows := fun g => h g.nz
/-- a person again -/
theorem bad_again {rows : List BRow} {z : Str} {g f : Int} (h : z ∈ namesR rows) : ¬ GoodRows (rows ++ [.per z g f]) := bad_names fun n => by
  have := n.nd
  rw [namesR_app] at this
  have h2 := (List.nodup_append.mp this).2.2 z h z (by show z ∈ [z]; exact List.mem_singleton.mpr rfl)
  exact h2 rfl
/-- no name -/
theorem bad_name {rows more : List BRow} {z : Str} (h : z ∈ namesR more) (n : nameT z = false) : ¬ GoodRows (rows ++ more) := bad_names fun k => by
  have := k.nm z (by rw [namesR_app]; exact List.mem_append_right _ h)
  rw [n] at this
  cases this
/-- too many persons -/
theorem bad_many {rows : List BRow} (h : 12 < (namesR rows).length) : ¬ GoodRows rows := bad_names fun k => by
  have := k.n1
  omega
/-- a note at the end that is none of the book's -/
theorem bad_last {rows more : List BRow} {y : Str} {n : Int} (h : y ∉ namesR (rows ++ .note y n :: more) ∨ n < 1) : ¬ GoodRows (rows ++ .note y n :: more) := fun g => by
  have e : (rows ++ .note y n :: more)[rows.length]? = some (.note y n) := by
    rw [List.getElem?_append_right (Nat.le_refl _), Nat.sub_self]
    rfl
  have := g.go _ _ e
  obtain ⟨_, a, b, _⟩ := this
  rcases h with h | h
  · exact h a
  · omega
/-- a note ahead of all persons -/
theorem bad_ahead {rows : List BRow} {y : Str} {n : Int} : ¬ GoodRows (.note y n :: rows) := fun g => by
  have := g.go 0 (.note y n) rfl
  obtain ⟨a, _⟩ := this
  have h2 := g.nz.nm _ a
  have h3 : nameT ((foldR (namesR (BRow.note y n :: rows)) (List.take 0 (BRow.note y n :: rows))).who) = false := by
    show nameT ("" : Str) = false
    decide +kernel
  rw [h3] at h2
  cases h2
/-- rows of a book are its own -/
theorem good_okz {rows : List BRow} (ok : ∀ r ∈ rows, r.Ok) (g : GoodRows rows) : ∀ r ∈ rows, r.OkZ (namesR rows) := fun r hr => by
  obtain ⟨i, hi, e⟩ := List.getElem_of_mem hr
  have o := ok r hr
  have n := g.go i r (by rw [List.getElem?_eq_getElem hi, e])
  cases r with
  | per z g' f => exact ⟨List.mem_filterMap.mpr ⟨_, hr, rfl⟩, o.2.1, o.2.2⟩
  | note y k => exact ⟨n.2.1, o.2.1, n.2.2.1⟩
theorem good_inv {rows : List BRow} (ok : ∀ r ∈ rows, r.Ok) (g : GoodRows rows) : ∀ i, i ≤ rows.length → RInv (namesR rows) rows i (foldR (namesR rows) (rows.take i))
  | 0, _ => RInv.start _ rows
  | i + 1, hi => by
    have ih := good_inv ok g i (by omega)
    have e : foldR (namesR rows) (rows.take (i + 1)) = stepR (namesR rows) (foldR (namesR rows) (rows.take i)) rows[i] := by
      unfold foldR
      rw [take_succ (by omega : i < rows.length), List.foldl_append]
      rfl
    have n := g.go i rows[i] (List.getElem?_eq_getElem (by omega))
    rw [e]
    refine ih.step (by omega) (good_okz ok g _ (List.getElem_mem _)) fun hp => ?_
    generalize rows[i] = r at n hp
    cases r with
    | per z g' f => cases hp
    | note y k => exact n.1
theorem noteC_le {rows : List BRow} (h : ∀ (i : Nat) (r : BRow), rows[i]? = some r → isPer r = false → noteC (rows.take i) < 60) : ∀ i, i ≤ rows.length → noteC (rows.take i) ≤ 60
  | 0, _ => by
    rw [List.take_zero]
    exact Nat.zero_le _
  | i + 1, hi => by
    have ih := noteC_le h i (by omega)
    have hr : rows[i]? = some rows[i] := List.getElem?_eq_getElem (by omega)
    rw [take_succ (by omega : i < rows.length), noteC_app]
    cases hp : isPer rows[i] with
    | true =>
      have : noteC [rows[i]] = 0 := by
        unfold noteC
        rw [List.filter_cons_of_neg (by rw [hp]; decide)]
        rfl
      omega
    | false =>
      have h1 := h i _ hr hp
      have : noteC [rows[i]] = 1 := by
        unfold noteC
        rw [List.filter_cons_of_pos (by rw [hp]; rfl)]
        rfl
      omega
/-- a book has at most sixty notes -/
theorem good_count {rows : List BRow} (ok : ∀ r ∈ rows, r.Ok) (g : GoodRows rows) : noteC rows ≤ 60 := by
  have := noteC_le (rows := rows) (fun i r e hp => by
    have iv := good_inv ok g i (Nat.le_of_lt (List.getElem?_eq_some_iff.mp e).1)
    have n := g.go i r e
    cases r with
    | per z g' f => cases hp
    | note y k =>
      rw [← iv.my]
      exact n.2.2.2) rows.length (Nat.le_refl _)
  rw [List.take_length] at this
  exact this
/-- one more than sixty -/
theorem bad_full {rows : List BRow} (ok : ∀ r ∈ rows, r.Ok) (h : 60 < noteC rows) : ¬ GoodRows rows := fun g => by
  have := good_count ok g
  omega
end Rc

namespace Rc
open PySem PySem.Spec PyProof.Rows L2 RZ
open SX (S split_S join_S num_S int_S S_len S_cat)
/-- a text * k -/
theorem op_mulS {X : Cx} : OpR X (binaryOp .Mult) (fun x y H Q => ∃ (l : List Nat) (k : Nat), x = .str (S l) ∧ y = .int (k : Int) ∧ l.length * k ≤ 100000 ∧ k ≤ 1000 ∧ Q (.str (S (List.replicate k l).flatten)) H) := by
  intro pins s σ H x y v u Q I rx ry h
  obtain ⟨l, k, rfl, rfl, hm, hk, q⟩ := h
  obtain ⟨t, rfl⟩ := rx
  obtain ⟨t', rfl⟩ := ry
  have fold : ∀ (k : Nat) (a : Array Nat), (List.replicate k (S l).cps).foldl (· ++ ·) a = a ++ ((List.replicate k l).flatten).toArray := fun k => by
    induction k with
    | zero => intro a; simp
    | succ k ih =>
      intro a
      rw [List.replicate_succ, List.foldl_cons, ih, List.replicate_succ, List.flatten_cons]
      have e : (S l).cps = l.toArray := rfl
      rw [e]
      refine Array.ext' ?_
      simp
  have l1 : (S l).length = l.length := S_len l
  have hm2 : ((l.length : Nat) : Int) * (k : Int) ≤ 100000 := by
    have := Int.ofNat_le.mpr hm
    rw [Int.natCast_mul] at this
    exact this
  refine PySem.P.mul_str (by rw [Bool.or_eq_false_iff]; exact ⟨decide_eq_false (by omega), decide_eq_false (by omega)⟩) (fun _ _ => ?_) (fun _ _ => ?_) ?_
  · have e : (2 ^ 63 - 1 : Int) / (k : Int) ≥ ((l.length : Nat) : Int) := by
      by_cases h0 : k = 0
      · subst h0
        rename_i a _
        exact absurd (show ((0 : Nat) : Int) < 1 by decide) a
      · exact Int.le_ediv_of_mul_le (by omega) (by omega)
    rw [l1]
    omega
  · show decide ((S l).length * (k : Int).toNat > sizeLine) = false
    rw [l1, Int.toNat_natCast]
    exact decide_eq_false (by rw [sizeLine_eq]; omega)
  · by_cases h0 : (k : Int) < 1
    · have e : k = 0 := by omega
      subst e
      rw [if_pos h0]
      exact ⟨by decide, ⟨.str (S []), H, I.tok _, ⟨_, rfl⟩, q⟩⟩
    · rw [if_neg h0]
      by_cases hc : ((k : Int) == 1 || (S l).length == 0) = true
      · rw [if_pos hc]
        refine ⟨.str (S l), H, I, ⟨_, rfl⟩, ?_⟩
        have e : (List.replicate k l).flatten = l := by
          rw [Bool.or_eq_true] at hc
          rcases hc with h | h
          · have h : (k : Int) = 1 := by simpa using h
            have : k = 1 := by omega
            subst this
            simp
          · have h : (S l).length = 0 := by simpa using h
            rw [l1] at h
            have : l = [] := List.length_eq_zero_iff.mp h
            subst this
            simp
        rw [e] at q
        exact q
      · rw [if_neg hc]
        have e : (List.replicate (k : Int).toNat (S l).cps).foldl (· ++ ·) #[] = ((List.replicate k l).flatten).toArray := by
          rw [Int.toNat_natCast, fold k #[]]
          simp
        rw [e]
        refine ⟨?_, ⟨.str (S (List.replicate k l).flatten), H, I.tok _, ⟨_, rfl⟩, q⟩⟩
        show (S (List.replicate k l).flatten).length ≤ sizeLine
        have e2 : (List.replicate k l).flatten.length = l.length * k := by
          rw [List.length_flatten, List.map_replicate]
          simp [Nat.mul_comm]
        rw [S_len, e2, sizeLine_eq]
        omega
end Rc

namespace Rc
open PySem PySem.Spec PyProof.Rows L2 RZ
open SX (S split_S join_S num_S int_S S_len S_cat)
def shareN (m n k : Nat) : Nat := m / n + (if k < m % n then 1 else 0)
def crowdAt (zs : List Str) (m k : Nat) : List BRow := .per (zs.getD k "") 0 0 :: List.replicate (shareN m zs.length k) (.note (zs.getD 0 "") 1)
def crowdN (zs : List Str) (m i : Nat) : List BRow := ((List.range i).map (crowdAt zs m)).flatten
theorem crowd_succ (zs : List Str) (m i : Nat) : crowdN zs m (i + 1) = crowdN zs m i ++ crowdAt zs m i := by
  unfold crowdN
  rw [List.range_succ, List.map_append, List.flatten_append]
  simp
theorem textL_app (a b : List BRow) : textL (a ++ b) = textL a ++ textL b := by
  unfold textL
  rw [List.map_append, List.flatten_append]
theorem textL_rep (k : Nat) (r : BRow) : textL (List.replicate k r) = (List.replicate k (rowL r ++ [10])).flatten := by
  unfold textL
  rw [List.map_replicate]
theorem fig0 : FigOk 0 := ⟨by decide, by decide +kernel⟩
theorem fig1 : FigOk 1 := ⟨by decide, by decide +kernel⟩
theorem share_le {m n k : Nat} : shareN m n k ≤ m + 1 := by
  unfold shareN
  have := Nat.div_le_self m n
  split <;> omega
theorem crowd_ok {zs : List Str} {m : Nat} (nz : NamesOk zs) : ∀ i, i ≤ zs.length → (∀ r ∈ crowdN zs m i, r.Ok) ∧ (crowdN zs m i).length ≤ i * (m + 2)
  | 0, _ => ⟨(fun r h => by cases h), Nat.zero_le _⟩
  | i + 1, hi => by
    obtain ⟨h1, h2⟩ := crowd_ok (m := m) nz i (by omega)
    have n0 := nz.n0
    have e0 : zs.getD 0 "" = zs[0] := getD_of (List.getElem?_eq_getElem (by omega))
    have ei : zs.getD i "" = zs[i] := getD_of (List.getElem?_eq_getElem (by omega))
    rw [crowd_succ]
    refine ⟨fun r hr => ?_, ?_⟩
    · rcases List.mem_append.mp hr with hr | hr
      · exact h1 r hr
      · unfold crowdAt at hr
        rw [e0, ei] at hr
        rcases List.mem_cons.mp hr with rfl | hr
        · exact ⟨word_of_name (nz.nm _ (List.getElem_mem _)), fig0, fig0⟩
        · rw [(List.mem_replicate.mp hr).2]
          exact ⟨word_of_name (nz.nm _ (List.getElem_mem _)), fig1, by decide⟩
    · have := share_le (m := m) (n := zs.length) (k := i)
      rw [List.length_append]
      unfold crowdAt
      rw [List.length_cons, List.length_replicate, Nat.add_mul]
      omega
theorem per_text (z : Str) : ((("person " : Str) ++ z) ++ " 0 0\n") = S (rowL (.per z 0 0) ++ [10]) := by
  have e1 : ("person " : Str) = S (wPerson ++ [32]) := by decide +kernel
  have e2 : (" 0 0\n" : Str) = S ([32] ++ ([48] ++ ([32] ++ ([48] ++ [10])))) := by decide +kernel
  have e3 : figL 0 = [48] := by decide +kernel
  conv => lhs; rw [e1, e2, ← S_cps z]
  rw [S_cat, S_cat]
  show _ = S ((wPerson ++ ([32] ++ (cpsL z ++ ([32] ++ (figL 0 ++ ([32] ++ figL 0)))))) ++ [10])
  rw [e3]
  simp
theorem note_text (z : Str) : ((("  " : Str) ++ z) ++ " 1\n") = S (rowL (.note z 1) ++ [10]) := by
  have e1 : ("  " : Str) = S ([] ++ ([32] ++ ([] ++ [32]))) := by decide +kernel
  have e2 : (" 1\n" : Str) = S ([32] ++ ([49] ++ [10])) := by decide +kernel
  have e3 : figL 1 = [49] := by decide +kernel
  conv => lhs; rw [e1, e2, ← S_cps z]
  rw [S_cat, S_cat]
  show _ = S (([] ++ ([32] ++ ([] ++ ([32] ++ (cpsL z ++ ([32] ++ figL 1)))))) ++ [10])
  rw [e3]
  simp
theorem cat_assoc (a b c : Str) : (a ++ b) ++ c = a ++ (b ++ c) := by
  rw [← S_cps a, ← S_cps b, ← S_cps c, S_cat, S_cat, S_cat, S_cat, List.append_assoc]
section
variable {P : Program} {w : World} {K : PySem.W.Frag} {mg : Str → Option Value} {base : Heap}
/-! ### _law_crowded -/
abbrev sLCr : Stmt := topS 59
abbrev nLCr : List Str := ["_law_model_here", "_law_many", "_law_found", "_law_k", "_law_who", "_law_persons", "_law_share"]
theorem scLCr : FnScope nLCr ["_law_model_here", "_law_many"] (defScope sLCr) := ⟨rfl, rfl, rfl, by decide +kernel, rfl, by decide +kernel, by decide +kernel⟩
def spLCr (K : PySem.W.Frag) : Sp := fun vs H Q _ => ∃ (a : MdA) (D : Md) (zs : List Str) (m : Nat), vs = [.ref a.m, .int (m : Nat)] ∧ ModelAt K H zs a D ∧ NamesOk zs ∧ m ≤ 61 ∧ ∀ H', Same H H' → Q (.str (S (textL (crowdN zs m zs.length)))) H'
theorem ok_lcr {f : Addr} {fd : FuncData} (F : Fun K "_law_crowded" "_law_crowded" sLCr f fd) (B : Blt mg) (B3 : Blt3 mg) : FnOk P w K mg base CX0 1 f fd ["_law_model_here", "_law_many"] (spLCr K) := by
  refine F.ok scLCr (fun vs H Q E h => ?_) (fun cdv Ar outer s H vs Q E0 hr h => ?_)
  · obtain ⟨_, _, _, _, rfl, _⟩ := h
    rfl
  · obtain ⟨a, D, zs, m, rfl, hM, nz, hm, q⟩ := h
    have hu := hu_of hr
    refine ⟨_, (pss_cons (ps_set (i := 2) scLCr.nd rfl (.inl rfl) pe_str) (pss_cons (ps_for PassesOwn.never rfl (pi_enum (by rfl) B3.enumerate (pa_cons (pe_dget hu (pv 0) pe_str (fun _ _ => rfl)) pa_nil)) (pg_tup rfl (pgs_cons (pg_name (i := 3) scLCr.nd rfl (.inl rfl)) (pgs_cons (pg_name (i := 4) scLCr.nd rfl (.inl rfl)) pgs_nil))) (pss_cons (ps_set (i := 5) scLCr.nd rfl (.inl rfl) (pe_callB call_len_seq (by rfl) B.len PySem.boot_len (pa_cons (pe_dget hu (pv 0) pe_str (fun _ _ => rfl)) pa_nil))) (pss_cons (ps_set (i := 6) scLCr.nd rfl (.inl rfl) (pe_op op_add (pe_op op_fdiv (pv 1) (pv 5)) (pe_callTy call_int1 (by rfl) B.int (by decide +kernel) (pa_cons (pe_cmpR op_lt (pv 3) (pe_op op_mod (pv 1) (pv 5)) (nomark _)) pa_nil)))) (pss_one (ps_set (i := 2) scLCr.nd rfl (.inl rfl) (pe_op op_add_str (pe_op op_add_str (pe_op op_add_str (pe_op op_add_str (pv 2) pe_str) (pv 4)) pe_str) (pe_op op_mulS (pe_op op_add_str (pe_op op_add_str pe_str (pe_ix ix_list (pe_dget hu (pv 0) pe_str (fun _ _ => rfl)) pe_int (fun _ _ => rfl))) pe_str) (pv 6)))))))) (pss_one (ps_ret (pv 2))))), ?_⟩
    have n12 := nz.n1
    have n0 := nz.n0
    have lz : (zs.map V.str).length = zs.length := List.length_map ..
    refine ⟨.ref a.m, rfl, a.m, .ref a.lo, rfl, hM.g0, a.lo, _, rfl, .inl (.inl hM.ho), ?_⟩
    refine for_it (walk_enum (xs := zs.map V.str)) (fun i σ H' => ∃ y3 y4 y5 y6, σ = [some (.ref a.m), some (.int (m : Nat)), some (.str (S (textL (crowdN zs m i)))), y3, y4, y5, y6] ∧ Same H H') ⟨_, _, _, _, rfl, Same.refl _⟩ (fun i σ H' _ hP => ?_) (fun i x σ H1' H1 hi hP hY => ?_) (fun σ H1 hP => ?_)
    · obtain ⟨_, _, _, _, _, s⟩ := hP
      exact s.seq (.inl (.inl hM.ho))
    · obtain ⟨T, x1, x2, rfl, nT, rfl, e1, e2⟩ := hY
      obtain ⟨y3, y4, y5, y6, rfl, s1⟩ := hP
      cases e1
      rw [lz] at hi
      have ej : zs[i]? = some zs[i] := List.getElem?_eq_getElem hi
      have ex : x2 = .str zs[i] := by
        have e2' : (zs.map V.str)[i]? = some x2 := e2
        rw [List.getElem?_map, ej] at e2'
        exact (Option.some.inj e2').symm
      subst ex
      have s2 := s1.trans (same_upd (o := .tup [V.int (i : Nat), V.str zs[i]]) nT)
      have hT : upd H1' T (.tup [V.int (i : Nat), V.str zs[i]]) T = some (.tup [V.int (i : Nat), V.str zs[i]]) := upd_same
      generalize upd H1' T (.tup [V.int (i : Nat), V.str zs[i]]) = H2 at s2 hT
      have hM2 := model_same hM s2
      refine ⟨T, _, rfl, .inl (.inl hT), rfl, _, _, rfl, _, _, rfl, rfl, ?_⟩
      refine ⟨.ref a.m, rfl, a.m, .ref a.lo, rfl, hM2.g0, a.lo, _, rfl, .inl (.inl (.inl hM2.ho)), ?_⟩
      have e0 : zs[0]? = some zs[0] := List.getElem?_eq_getElem (by omega)
      have g0 : zs.getD 0 "" = zs[0] := getD_of e0
      have gi : zs.getD i "" = zs[i] := getD_of ej
      obtain ⟨okc, lc⟩ := crowd_ok (m := m) nz i (by omega)
      have lrows : (crowdN zs m i).length ≤ 800 := Nat.le_trans lc (Nat.le_trans (Nat.mul_le_mul (show i ≤ 12 by omega) (show m + 2 ≤ 63 by omega)) (by decide))
      have tl := textL_len okc
      have l8 := (nameT_len (nz.nm _ (List.getElem_mem hi))).2
      have l80 := (nameT_len (nz.nm _ (List.getElem_mem (show 0 < zs.length by omega)))).2
      have k1 : ("person " : Str).length = 7 := by decide +kernel
      have k2 : (" 0 0
" : Str).length = 5 := by decide +kernel
      have k3 : ("  " : Str).length = 2 := by decide +kernel
      have k4 : (" 1
" : Str).length = 3 := by decide +kernel
      have sF : (S (textL (crowdN zs m i))).length = (textL (crowdN zs m i)).length := S_len _
      have a1 : (S (textL (crowdN zs m i)) ++ ("person " : Str)).length = (S (textL (crowdN zs m i))).length + ("person " : Str).length := PySem.Str.length_append ..
      have a2 : ((S (textL (crowdN zs m i)) ++ ("person " : Str)) ++ zs[i]).length = (S (textL (crowdN zs m i)) ++ ("person " : Str)).length + zs[i].length := PySem.Str.length_append ..
      have a3 : (((S (textL (crowdN zs m i)) ++ ("person " : Str)) ++ zs[i]) ++ (" 0 0
" : Str)).length = ((S (textL (crowdN zs m i)) ++ ("person " : Str)) ++ zs[i]).length + (" 0 0
" : Str).length := PySem.Str.length_append ..
      have a4 : (("  " : Str) ++ zs[0]).length = ("  " : Str).length + zs[0].length := PySem.Str.length_append ..
      have es : ((m : Nat) : Int) / ((zs.map V.str).length : Nat) + (if decide (((i : Nat) : Int) < ((m : Nat) : Int) % ((zs.map V.str).length : Nat)) = true then 1 else 0) = ((shareN m zs.length i : Nat) : Int) := by
        rw [lz]
        unfold shareN
        by_cases c : i < m % zs.length
        · rw [if_pos c, decide_eq_true (show ((i : Nat) : Int) < ((m : Nat) : Int) % ((zs.length : Nat) : Int) by omega)]
          simp
        · rw [if_neg c, decide_eq_false (show ¬ ((i : Nat) : Int) < ((m : Nat) : Int) % ((zs.length : Nat) : Int) by omega)]
          simp
      have ls := share_le (m := m) (n := zs.length) (k := i)
      have ln : (rowL (.note zs[0] 1) ++ [10]).length ≤ 261 := by
        have := rowL_len (r := .note zs[0] 1) ⟨word_of_name (nz.nm _ (List.getElem_mem _)), fig1, by decide⟩
        rw [List.length_append]
        show _ + 1 ≤ 261
        omega
      have lm : (rowL (.note zs[0] 1) ++ [10]).length * shareN m zs.length i ≤ 16182 := Nat.le_trans (Nat.mul_le_mul ln (show shareN m zs.length i ≤ 62 by omega)) (by decide)
      refine ⟨.int (m : Nat), rfl, .int _, rfl, _, _, rfl, rfl, ⟨by rw [lz]; omega, by rw [lz]; omega⟩, .int (i : Nat), rfl, .int (m : Nat), rfl, .int _, rfl, _, _, rfl, rfl, by rw [lz]; omega, _, _, rfl, rfl, .inr ⟨_, rfl, _, _, rfl, rfl, ?_⟩⟩
      dsimp only
      rw [es]
      refine ⟨.str (S (textL (crowdN zs m i))), rfl, _, _, rfl, rfl, line_of (by omega), .str zs[i], rfl, _, _, rfl, rfl, line_of (by omega), _, _, rfl, rfl, line_of (by omega), ?_⟩
      refine ⟨.ref a.m, rfl, a.m, .ref a.lo, rfl, hM2.g0, a.lo, _, 0, .str zs[0], rfl, rfl, .inl (.inl hM2.ho), atI_nat (j := 0) (map_get e0), "  ", zs[0], rfl, rfl, line_of (by omega), _, " 1
", rfl, rfl, line_of (by omega), .int (shareN m zs.length i : Nat), rfl, ?_⟩
      rw [note_text]
      have lf : (List.replicate (shareN m zs.length i) (rowL (.note zs[0] 1) ++ [10])).flatten.length = (rowL (.note zs[0] 1) ++ [10]).length * shareN m zs.length i := by
        rw [List.length_flatten, List.map_replicate]
        simp [Nat.mul_comm]
      have lS : (S (List.replicate (shareN m zs.length i) (rowL (.note zs[0] 1) ++ [10])).flatten).length = (rowL (.note zs[0] 1) ++ [10]).length * shareN m zs.length i := (S_len _).trans lf
      refine ⟨_, _, rfl, rfl, by omega, by omega, _, _, rfl, rfl, line_of (by omega), ?_⟩
      have fin : (((S (textL (crowdN zs m i)) ++ ("person " : Str)) ++ zs[i]) ++ (" 0 0
" : Str)) ++ S (List.replicate (shareN m zs.length i) (rowL (.note zs[0] 1) ++ [10])).flatten = S (textL (crowdN zs m (i + 1))) := by
        rw [cat_assoc (S (textL (crowdN zs m i))), cat_assoc (S (textL (crowdN zs m i))), per_text, S_cat, S_cat, crowd_succ, textL_app]
        unfold crowdAt
        rw [g0, gi]
        have e9 : textL (.per zs[i] 0 0 :: List.replicate (shareN m zs.length i) (.note zs[0] 1)) = (rowL (.per zs[i] 0 0) ++ [10]) ++ textL (List.replicate (shareN m zs.length i) (.note zs[0] 1)) := by
          unfold textL
          rw [List.map_cons, List.flatten_cons]
        rw [e9, textL_rep, List.append_assoc]
      rw [fin]
      exact ⟨_, _, _, _, rfl, s2⟩
    · obtain ⟨y3, y4, y5, y6, rfl, s⟩ := hP
      rw [lz]
      exact ⟨_, rfl, q H1 s⟩
end
end Rc

namespace Rc
open PySem PySem.Spec PyProof.Rows L2 RZ
/-! ### crowded books -/
/-- a covered one is good -/
theorem Gx.gs {zs : List Str} {D : Md} (g : Gx zs D) (c : CovD zs D) : Gs zs D ∧ Gb D :=
  ⟨⟨g.nz, g.nt, fun f hf => (g.fl f hf).1, g.my, g.lg, g.lf, g.ln, c.2⟩, ⟨g.gv, c.1⟩⟩
def crowdD (zs : List Str) (m : Nat) : Md := ⟨zeros zs.length, zeros zs.length, (List.range zs.length).map fun k => List.replicate (shareN m zs.length k) (zs.getD 0 "", 1)⟩
theorem zero_at (n k : Nat) : (zeros n).getD k 0 = 0 := by
  unfold zeros
  by_cases h : k < n
  · exact getD_of (by rw [List.getElem?_replicate, if_pos h])
  · rw [List.getD_eq_getElem?_getD, List.getElem?_replicate, if_neg h]
    rfl
theorem crowd_at (zs : List Str) (m : Nat) {k : Nat} (h : k < zs.length) : blockAt zs (crowdD zs m) k = crowdAt zs m k := by
  unfold blockAt blockR crowdAt
  have e : (crowdD zs m).notes.getD k [] = List.replicate (shareN m zs.length k) (zs.getD 0 "", 1) := getD_of (by
    show ((List.range zs.length).map fun k => List.replicate (shareN m zs.length k) (zs.getD 0 "", (1 : Int)))[k]? = _
    rw [List.getElem?_map, List.getElem?_range h]
    rfl)
  rw [e, List.map_replicate]
  show BRow.per _ ((zeros zs.length).getD k 0) ((zeros zs.length).getD k 0) :: _ = _
  rw [zero_at]
theorem crowd_rows (zs : List Str) (m : Nat) : crowdN zs m zs.length = rowsOf zs (crowdD zs m) := by
  unfold rowsOf rowsN crowdN
  congr 1
  exact List.map_congr_left fun k hk => (crowd_at zs m (List.mem_range.mp hk)).symm
theorem share_sum (m n : Nat) (hn : 0 < n) : ∀ i, i ≤ n → ((List.range i).map (shareN m n)).sum = i * (m / n) + min i (m % n)
  | 0, _ => by simp
  | i + 1, hi => by
    have ih := share_sum m n hn i (by omega)
    rw [List.range_succ, List.map_append, List.sum_append, ih, Nat.add_mul]
    show _ + (shareN m n i + 0) = _
    unfold shareN
    split <;> omega
theorem share_all (m n : Nat) (hn : 0 < n) : ((List.range n).map (shareN m n)).sum = m := by
  rw [share_sum m n hn n (Nat.le_refl _), Nat.min_eq_right (Nat.le_of_lt (Nat.mod_lt m hn))]
  exact Nat.div_add_mod m n
theorem crowd_notes (zs : List Str) (m : Nat) (hn : 0 < zs.length) : ((crowdD zs m).notes.map List.length).sum = m := by
  have e : (crowdD zs m).notes.map List.length = (List.range zs.length).map (shareN m zs.length) := by
    show ((List.range zs.length).map fun k => List.replicate (shareN m zs.length k) (zs.getD 0 "", (1 : Int))).map List.length = _
    rw [List.map_map]
    exact List.map_congr_left fun k _ => List.length_replicate
  rw [e]
  exact share_all m _ hn
theorem crowd_count (zs : List Str) (m : Nat) (hn : 0 < zs.length) : noteC (crowdN zs m zs.length) = m := by
  have ln : (crowdD zs m).notes.length = zs.length := by
    show ((List.range zs.length).map _).length = _
    rw [List.length_map, List.length_range]
  have lz : (zeros zs.length).length = zs.length := by
    unfold zeros
    exact List.length_replicate
  obtain ⟨_, h2, _⟩ := rowsN_facts (D := crowdD zs m) lz lz ln zs.length (Nat.le_refl _)
  rw [crowd_rows]
  unfold rowsOf
  rw [h2, show (crowdD zs m).notes.take zs.length = (crowdD zs m).notes by rw [← ln, List.take_length]]
  exact crowd_notes zs m hn
/-- one more than sixty -/
theorem crowd_bad {zs : List Str} (nz : NamesOk zs) : ¬ GoodRows (crowdN zs 61 zs.length) := bad_full (crowd_ok nz _ (Nat.le_refl _)).1 (by
  rw [crowd_count zs 61 nz.n0]
  decide)
/-- sixty -/
theorem crowd_gx {zs : List Str} (nz : NamesOk zs) {m : Nat} (hm : m ≤ 60) : Gx zs (crowdD zs m) := by
  have lz : (zeros zs.length).length = zs.length := by
    unfold zeros
    exact List.length_replicate
  have z0 : zs.getD 0 "" ∈ zs := by
    have h := nz.n0
    rw [getD_of (List.getElem?_eq_getElem (show 0 < zs.length from h))]
    exact List.getElem_mem _
  have zz : ∀ x ∈ zeros zs.length, x = 0 := fun x hx => by
    unfold zeros at hx
    exact List.eq_of_mem_replicate hx
  refine ⟨nz, fun l hl n hn => ?_, fun x hx => ?_, fun x hx => ?_, ?_, lz, lz, ?_⟩
  · obtain ⟨k, _, rfl⟩ := List.mem_map.mp hl
    rw [List.eq_of_mem_replicate hn]
    exact ⟨z0, (by decide : (1 : Int) ≤ 1), (by decide : (1 : Int) ≤ 10 ^ 58)⟩
  · rw [zz x hx]
    exact ⟨by decide, by decide⟩
  · rw [zz x hx]
    exact ⟨by decide, by decide⟩
  · rw [crowd_notes zs m nz.n0]
    exact hm
  · show ((List.range zs.length).map _).length = _
    rw [List.length_map, List.length_range]
theorem crowd_cov {zs : List Str} (nz : NamesOk zs) {m : Nat} (hm : m ≤ 60) : CovD zs (crowdD zs m) := by
  have g := crowd_gx nz hm
  refine ⟨fun j l f el ef => ?_, fun j z ez => ?_⟩
  · have f0 : f = 0 := by
      have hf := List.mem_of_getElem? (show (zeros zs.length)[j]? = some f from ef)
      unfold zeros at hf
      exact List.eq_of_mem_replicate hf
    have := wholeN_nonneg fun n hn => (g.nt l (List.mem_of_getElem? el) n hn).2.1
    omega
  · have h1 := sums_le z (L := (crowdD zs m).notes.zip (crowdD zs m).fallen) fun p hp => ⟨fun n hn => (g.nt _ (List.of_mem_zip hp).1 n hn).2.1, (g.fl _ (List.of_mem_zip hp).2).1⟩
    have h2 : 0 ≤ sumsD (crowdD zs m) z := h1.1
    rw [cash_eq]
    show 0 ≤ (zeros zs.length).getD j 0 - (zeros zs.length).getD j 0 + sumsD (crowdD zs m) z
    rw [zero_at]
    omega
/-- sixty notes are a book's -/
theorem crowd_good {zs : List Str} (nz : NamesOk zs) : GoodRows (crowdN zs 60 zs.length) ∧ readM (crowdN zs 60 zs.length) = bkOf zs (crowdD zs 60) := by
  have g := crowd_gx nz (m := 60) (Nat.le_refl _)
  rw [crowd_rows]
  exact ⟨g.good.mpr (crowd_cov nz (Nat.le_refl _)), g.end.2.2.2⟩
end Rc

namespace Rc
open PySem PySem.Spec PyProof.Rows L2 RZ
/-! ### sixteen names of two letters, those that are free -/
def frC : List Nat := ("abcdefghijklmnop" : Str).cps.toList
def frS (c : Nat) : Str := (⟨#[c]⟩ : Str) ++ ("q" : Str)
def frL : List Str := frC.map frS
def freshL (zs : List Str) : List Str := frL.filter fun x => decide (x ∉ zs)
theorem frL_len : frL.length = 16 := by decide +kernel
theorem frL_nd : frL.Nodup := by decide +kernel
theorem frL_name : ∀ x ∈ frL, nameT x = true := by decide +kernel
theorem nd_len : ∀ {l m : List Str}, l.Nodup → (∀ z ∈ l, z ∈ m) → l.length ≤ m.length
  | [], _, _, _ => Nat.zero_le _
  | z :: l, m, nd, h => by
    obtain ⟨n1, n2⟩ := List.nodup_cons.mp nd
    have hz := h z List.mem_cons_self
    have h1 := nd_len (l := l) (m := m.erase z) n2 fun y hy => (List.mem_erase_of_ne (fun e => by rw [e] at hy; exact n1 hy)).mpr (h y (List.mem_cons_of_mem _ hy))
    rw [List.length_erase_of_mem hz] at h1
    have := List.length_pos_of_mem hz
    show l.length + 1 ≤ _
    omega
theorem fresh_len (zs : List Str) : 16 ≤ (freshL zs).length + zs.length := by
  have h1 : (frL.filter fun x => decide (x ∈ zs)).length ≤ zs.length := nd_len (frL_nd.sublist List.filter_sublist) fun z hz => of_decide_eq_true (List.mem_filter.mp hz).2
  have h2 : (frL.filter fun x => decide (x ∈ zs)).length + (freshL zs).length = frL.length := by
    unfold freshL
    generalize frL = l
    induction l with
    | nil => rfl
    | cons a r ih =>
      by_cases c : a ∈ zs
      · rw [List.filter_cons_of_pos (by exact decide_eq_true c), List.filter_cons_of_neg (by simpa using c)]
        simp only [List.length_cons]
        omega
      · rw [List.filter_cons_of_neg (by simpa using c), List.filter_cons_of_pos (by simpa using c)]
        simp only [List.length_cons]
        omega
  rw [frL_len] at h2
  omega
theorem fresh_mem {zs : List Str} {x : Str} (h : x ∈ freshL zs) : nameT x = true ∧ x ∉ zs := by
  obtain ⟨a, b⟩ := List.mem_filter.mp h
  exact ⟨frL_name x a, of_decide_eq_true b⟩
theorem perN_map (l : List Str) : namesR (l.map fun z => BRow.per z 0 0) = l := by
  unfold namesR
  rw [List.filterMap_map]
  exact List.filterMap_some
/-- what spoils a text of a book of these persons -/
def moreR (zs : List Str) : Nat → List BRow
  | 0 => [.per (zs.getD 0 "") 0 0]
  | 1 => [.note ((freshL zs).getD 0 "") 5]
  | 2 => [.note (zs.getD 0 "") 0]
  | 3 => List.replicate 61 (.note (zs.getD 0 "") 1)
  | 4 => [.per "ninelongs" 0 0]
  | _ => ((freshL zs).take 12).map fun z => .per z 0 0
theorem more_bad {zs : List Str} {rows : List BRow} (nz : NamesOk zs) (n6 : zs.length ≤ 6) (nr : namesR rows = zs) (ok : ∀ r ∈ rows, r.Ok) (k : Nat) : ¬ GoodRows (rows ++ moreR zs k) ∧ (∀ r ∈ moreR zs k, r.Ok) ∧ (moreR zs k).length ≤ 61 := by
  have n0 := nz.n0
  have e0 : zs.getD 0 "" = zs[0] := getD_of (List.getElem?_eq_getElem (by omega))
  have z0 : zs[0] ∈ zs := List.getElem_mem _
  have w0 : wordT zs[0] = true := word_of_name (nz.nm _ z0)
  have fl := fresh_len zs
  have f0 : (freshL zs).getD 0 "" = (freshL zs)[0]'(by omega) := getD_of (List.getElem?_eq_getElem (by omega))
  have g0 := fresh_mem (zs := zs) (List.getElem_mem (show 0 < (freshL zs).length by omega))
  have f5 : FigOk 5 := ⟨by decide, by decide +kernel⟩
  match k with
  | 0 =>
    refine ⟨?_, fun r hr => ?_, by show 1 ≤ 61; decide⟩
    · show ¬ GoodRows (rows ++ [.per (zs.getD 0 "") 0 0])
      rw [e0]
      exact bad_again (by rw [nr]; exact z0)
    · rw [List.mem_singleton.mp hr, e0]
      exact ⟨w0, fig0, fig0⟩
  | 1 =>
    refine ⟨?_, fun r hr => ?_, by show 1 ≤ 61; decide⟩
    · show ¬ GoodRows (rows ++ [.note ((freshL zs).getD 0 "") 5])
      rw [f0]
      refine bad_last (.inl fun h => g0.2 ?_)
      rw [namesR_app, nr] at h
      rcases List.mem_append.mp h with h | h
      · exact h
      · cases h
    · rw [List.mem_singleton.mp hr, f0]
      exact ⟨word_of_name g0.1, f5, by decide⟩
  | 2 =>
    refine ⟨bad_last (.inr (by decide)), fun r hr => ?_, by show 1 ≤ 61; decide⟩
    rw [List.mem_singleton.mp hr, e0]
    exact ⟨w0, fig0, by decide⟩
  | 3 =>
    have okm : ∀ r ∈ List.replicate 61 (BRow.note (zs.getD 0 "") 1), r.Ok := fun r hr => by
      rw [(List.mem_replicate.mp hr).2, e0]
      exact ⟨w0, fig1, by decide⟩
    refine ⟨bad_full (fun r hr => ?_) ?_, okm, by show (List.replicate 61 _).length ≤ 61; rw [List.length_replicate]; exact Nat.le_refl _⟩
    · rcases List.mem_append.mp hr with hr | hr
      · exact ok r hr
      · exact okm r hr
    · rw [noteC_app]
      have : noteC (moreR zs 3) = 61 := by
        show ((List.replicate 61 (BRow.note (zs.getD 0 "") 1)).filter fun r => !isPer r).length = 61
        rw [List.filter_replicate_of_pos (by rfl), List.length_replicate]
      omega
  | 4 =>
    refine ⟨bad_name (z := "ninelongs") (List.mem_singleton.mpr rfl) (by decide +kernel), fun r hr => ?_, by show 1 ≤ 61; decide⟩
    rw [List.mem_singleton.mp hr]
    exact ⟨by decide +kernel, fig0, fig0⟩
  | k + 5 =>
    refine ⟨bad_many ?_, fun r hr => ?_, ?_⟩
    · rw [namesR_app, nr]
      show 12 < (zs ++ namesR (((freshL zs).take 12).map fun z => BRow.per z 0 0)).length
      rw [perN_map, List.length_append, List.length_take]
      omega
    · obtain ⟨z, hz, rfl⟩ := List.mem_map.mp (show r ∈ ((freshL zs).take 12).map fun z => BRow.per z 0 0 from hr)
      exact ⟨word_of_name (fresh_mem (List.mem_of_mem_take hz)).1, fig0, fig0⟩
    · show (((freshL zs).take 12).map fun z => BRow.per z 0 0).length ≤ 61
      rw [List.length_map, List.length_take]
      omega
end Rc

namespace Rc
open PySem PySem.Spec PyProof.Rows L2 RZ
open SX (S split_S join_S num_S int_S S_len S_cat)
theorem one_text (r : BRow) : textL [r] = rowL r ++ [10] := by
  unfold textL
  simp
theorem note_t {z t : Str} {n : Int} {l : List Nat} (e1 : t = S ([32] ++ (l ++ [10]))) (e3 : figL n = l) : ((("  " : Str) ++ z) ++ t) = S (textL [.note z n]) := by
  have e0 : ("  " : Str) = S ([] ++ ([32] ++ ([] ++ [32]))) := by decide +kernel
  conv => lhs; rw [e0, e1, ← S_cps z]
  rw [S_cat, S_cat, one_text]
  show _ = S (([] ++ ([32] ++ ([] ++ ([32] ++ (cpsL z ++ ([32] ++ figL n)))))) ++ [10])
  rw [e3]
  simp
theorem per_t (z : Str) : ((("person " : Str) ++ z) ++ " 0 0\n") = S (textL [.per z 0 0]) := by rw [per_text, one_text]
theorem join_per (l : List Str) : Txt.join "" (l.map fun z => ((("person " : Str) ++ z) ++ " 0 0\n")) = S (textL (l.map fun z => .per z 0 0)) := by
  rw [nil_eq]
  have e : (l.map fun z => ((("person " : Str) ++ z) ++ " 0 0\n")) = (l.map fun z => rowL (.per z 0 0) ++ [10]).map S := by
    rw [List.map_map]
    exact List.map_congr_left fun z _ => per_text z
  rw [e, join_S, joinL_nil]
  unfold textL
  rw [List.map_map]
  rfl
theorem op_notIn_seqS {X : Cx} {K : PySem.W.Frag} (eK : X.K = K) : OpR X (compareOp .NotIn) (rIn K true) := by
  subst eK
  exact op_notIn_seq
section
variable {P : Program} {w : World} {K : PySem.W.Frag} {mg : Str → Option Value} {base : Heap}
/-! ### _law_spoilt -/
abbrev sLSo : Stmt := topS 58
abbrev nLSo : List Str := ["_law_pot_here", "_law_model_here", "_law_text_here", "_law_way", "_law_who", "_law_fresh", "_law_letter", "_law_more", "_law_name_here"]
theorem scLSo : FnScope nLSo ["_law_pot_here", "_law_model_here", "_law_text_here"] (defScope sLSo) := ⟨rfl, rfl, rfl, by decide +kernel, rfl, by decide +kernel, by decide +kernel⟩
def spLSo25 (K : PySem.W.Frag) : Sp := fun vs H Q _ => ∃ (p : Addr) (a : MdA) (D : Md) (zs : List Str) (rows : List BRow), vs = [.ref p, .ref a.m, .str (S (textL rows))] ∧ Pot H p ∧ ModelAt K H zs a D ∧ ¬ a.Has p ∧ NamesOk zs ∧ zs.length ≤ 6 ∧ namesR rows = zs ∧ (∀ r ∈ rows, r.Ok) ∧ rows.length ≤ 100 ∧
  (∀ H', Pot H' p → But p H H' → Q .non H') ∧ ∀ rows2 H', Pot H' p → But p H H' → (∀ r ∈ rows2, r.Ok) → rows2.length ≤ 200 → ¬ GoodRows rows2 → Q (.str (S (textL rows2))) H'
set_option maxHeartbeats 1000000 in
theorem ok_lso25 {f fT : Addr} {fd fdT : FuncData} (F : Fun K "_law_spoilt" "_law_spoilt" sLSo f fd) (TK : HasTake P w K mg base fT fdT) : FnOk P w K mg base CX0 2 f fd ["_law_pot_here", "_law_model_here", "_law_text_here"] (spLSo25 K) := by
  refine F.ok scLSo (fun vs H Q E h => ?_) (fun cdv Ar outer s H vs Q E0 hr h => ?_)
  · obtain ⟨_, _, _, _, _, rfl, _⟩ := h
    rfl
  · obtain ⟨p, a, D, zs, rows, rfl, hp, hM, nap, nz, n6, nr, okr, l100, qn, qb⟩ := h
    have hu := hu_of hr
    have hr1 := hr
    refine ⟨_, (pss_cons (ps_set (i := 3) scLSo.nd rfl (.inl rfl) (pe_call TK.ok hr1 (by rfl) TK.g TK.kp TK.b .nil pass0 (pa_cons (pv 0) (pa_cons pe_int pa_nil)))) (pss_cons (ps_set (i := 4) scLSo.nd rfl (.inl rfl) (pe_ix ix_list (pe_dget hu (pv 1) pe_str (fun _ _ => rfl)) pe_int (fun _ _ => rfl))) (pss_cons (ps_setLc (i := 5) (own := [("_law_letter", 6)]) (g := gName 6) rfl scLSo.nd rfl rfl (sw_true rfl rfl rfl (by decide +kernel)) (pi_str pe_str) (blkOk_by (N := nLSo) (sc := defScope sLSo) (own := [("_law_letter", 6)]) (by decide +kernel)) (fun _ _ _ _ _ => pg_name (i := 6) scLSo.nd rfl (.inl rfl) (hf := .inr rfl)) (fun _ _ _ _ _ => pts_one (pt_cmpR (op_notIn_seqS (K := K) rfl) (pe_op op_add_str (pv 6) pe_str) (pe_dget hu (pv 1) pe_str (fun _ _ => rfl)) (by rfl))) (fun _ _ _ _ _ => (pe_op op_add_str (pv 6) pe_str))) (pss_cons (ps_set (i := 7) scLSo.nd rfl (.inl rfl) (pe_lst (pa_cons (pe_op op_add_str (pe_op op_add_str pe_str (pv 4)) pe_str) (pa_cons (pe_op op_add_str (pe_op op_add_str pe_str (pe_ix ix_list (pv 5) pe_int (fun _ _ => rfl))) pe_str) (pa_cons (pe_op op_add_str (pe_op op_add_str pe_str (pv 4)) pe_str) pa_nil))))) (pss_cons (ps_set (i := 7) scLSo.nd rfl (.inl rfl) (pe_op op_cat (pv 7) (pe_lst (pa_cons (pe_op op_mulS (pe_op op_add_str (pe_op op_add_str pe_str (pv 4)) pe_str) pe_int) (pa_cons pe_str pa_nil))))) (pss_cons (ps_expr (pe_bm PySem.F.plainAttrs_list PySem.F.slot_list_append PySem.F.type_list_append mt_append (pv 7) (pa_cons (pe_join pe_str (pe_lc (own := [("_law_name_here", 8)]) (g := gName 8) (tt := tYes) rfl scLSo.nd (pi_list (pe_slice sl_list (pv 5) po_none (po_some pe_int))) (blkOk_by (N := nLSo) (sc := defScope sLSo) (own := [("_law_name_here", 8)]) (by decide +kernel)) (fun _ _ _ _ _ => pg_name (i := 8) scLSo.nd rfl (.inl rfl) (hf := .inr rfl)) (fun _ _ _ _ _ => pts_nil) (fun _ _ _ _ _ => (pe_op op_add_str (pe_op op_add_str pe_str (pv 8)) pe_str)))) pa_nil))) (pss_cons (ps_if (pt_cmpR op_eq (pv 3) pe_int (nomark _)) (pss_one (ps_ret (pe_op op_add_str (pe_op op_add_str (pe_op op_add_str pe_str (pv 4)) pe_str) (pv 2)))) pss_nil) (pss_one (ps_ret (pe_ifExp (pt_cmpR op_lt (pv 3) pe_int (nomark _)) (pe_op op_add_str (pv 2) (pe_ix ix_list (pv 7) (pv 3) (fun _ _ => rfl))) pe_non)))))))))), ?_⟩
    have n12 := nz.n1
    have n0 := nz.n0
    have e0 : zs[0]? = some zs[0] := List.getElem?_eq_getElem (by omega)
    have g0 : zs.getD 0 "" = zs[0] := getD_of e0
    refine ⟨.ref p, rfl, p, 9, rfl, hp, litM _ (by decide) (by decide), fun wy H1 w0 w1 hp1 b1 => ?_⟩
    have hM1 := model_but hM b1 hp nap
    refine ⟨.ref a.m, rfl, a.m, .ref a.lo, rfl, hM1.g0, a.lo, _, 0, .str zs[0], rfl, rfl, .inl (.inl hM1.ho), atI_nat (j := 0) (map_get e0), ?_⟩
    -- those that are free
    refine ⟨_, rfl, fun F0 nF0 => ?_⟩
    refine lc_it walk_str (fun i H' => Same H1 H' ∧ H' F0 = some (.lst ((((frC.take i).map frS).filter fun x => decide (x ∉ zs)).map V.str))) ⟨same_upd nF0, upd_same⟩ (fun _ _ _ _ => trivial) (fun i x H2' H2 hi hP hY => ?_) (fun H2 hP => ?_)
    · obtain ⟨rfl, c, hc, rfl⟩ := hY
      obtain ⟨s2, hF⟩ := hP
      have hM2 := model_same hM1 s2
      have tk : frC.take (i + 1) = frC.take i ++ [c] := by
        have g : frC[i]? = some c := by
          show (("abcdefghijklmnop" : Str).cps.toList)[i]? = some c
          rw [Array.getElem?_toList]
          exact hc
        rw [List.take_add_one, g]
        rfl
      refine ⟨rfl, .str ⟨#[c]⟩, rfl, _, _, rfl, rfl, by show 1 + 1 ≤ sizeLine; decide, .ref a.m, rfl, a.m, .ref a.lo, rfl, hM2.g0, a.lo, _, rfl, .inl (.inl (.inl hM2.ho)), rfl, flat_strs _, _, rfl, ?_⟩
      have ei : inV (V.str ((⟨#[c]⟩ : Str) ++ ("q" : Str))) (zs.map V.str) = decide (frS c ∈ zs) := inV_strs ..
      have tf : ((frC.take (i + 1)).map frS).filter (fun x => decide (x ∉ zs)) = ((frC.take i).map frS).filter (fun x => decide (x ∉ zs)) ++ [frS c].filter (fun x => decide (x ∉ zs)) := by
        rw [tk, List.map_append, List.filter_append]
        rfl
      have lt : (((frC.take i).map frS).filter fun x => decide (x ∉ zs)).length ≤ 16 := by
        refine Nat.le_trans (List.length_filter_le _ _) ?_
        rw [List.length_map, List.length_take]
        have : frC.length = 16 := by decide +kernel
        omega
      by_cases hz : frS c ∈ zs
      · rw [ei, decide_eq_true hz]
        refine iteF ⟨s2, ?_⟩
        rw [tf, List.filter_cons_of_neg (by simpa using hz), List.filter_nil, List.append_nil]
        exact hF
      · rw [ei, decide_eq_false hz]
        refine iteT ⟨.str ⟨#[c]⟩, rfl, _, _, rfl, rfl, by show 1 + 1 ≤ sizeLine; decide, _, hF, ?_, fun b o eb => ?_, ?_⟩
        · rw [List.length_map]
          exact small1000 (by omega)
        · rw [upd_ne (ne_of_none eb nF0)]
          exact s2 b o eb
        · rw [upd_same, tf, List.filter_cons_of_pos (by simpa using hz), List.filter_nil, List.map_append]
          rfl
    obtain ⟨s2, hF⟩ := hP
    have hF : H2 F0 = some (.lst ((freshL zs).map V.str)) := by
      rw [hF]
      have : frC.take ("abcdefghijklmnop" : Str).cps.size = frC := by
        show frC.take frC.length = frC
        exact List.take_length
      rw [this]
      rfl
    have fl := fresh_len zs
    have f0 : (freshL zs)[0]? = some ((freshL zs)[0]'(by omega)) := List.getElem?_eq_getElem (by omega)
    have fg : (freshL zs).getD 0 "" = (freshL zs)[0]'(by omega) := getD_of f0
    have fm := fresh_mem (zs := zs) (List.getElem_mem (show 0 < (freshL zs).length by omega))
    generalize (freshL zs)[0]'(by omega) = fr at f0 fg fm
    have l8 := (nameT_len (nz.nm _ (List.getElem_mem (show 0 < zs.length by omega)))).2
    have lf8 := (nameT_len fm.1).2
    have k1 : ("person " : Str).length = 7 := by decide +kernel
    have k2 : (" 0 0\n" : Str).length = 5 := by decide +kernel
    have k3 : ("  " : Str).length = 2 := by decide +kernel
    have k4 : (" 1\n" : Str).length = 3 := by decide +kernel
    have k5 : (" 5\n" : Str).length = 3 := by decide +kernel
    have k6 : (" 0\n" : Str).length = 3 := by decide +kernel
    have a1 : (("person " : Str) ++ zs[0]).length = ("person " : Str).length + zs[0].length := PySem.Str.length_append ..
    have a2 : (("  " : Str) ++ fr).length = ("  " : Str).length + fr.length := PySem.Str.length_append ..
    have a3 : (("  " : Str) ++ zs[0]).length = ("  " : Str).length + zs[0].length := PySem.Str.length_append ..
    refine ⟨.str zs[0], rfl, "person ", zs[0], rfl, rfl, line_of (by omega), _, " 0 0\n", rfl, rfl, line_of (by omega), .ref F0, rfl, F0, _, 0, .str fr, rfl, rfl, .inl (.inl hF), atI_nat (j := 0) (map_get f0), "  ", fr, rfl, rfl, line_of (by omega), _, " 5\n", rfl, rfl, line_of (by omega), .str zs[0], rfl, "  ", zs[0], rfl, rfl, line_of (by omega), _, " 0\n", rfl, rfl, line_of (by omega), by show 3 ≤ sizeLine; decide, fun L1 nL1 => ?_⟩
    rw [per_t, note_t (n := 5) (l := [53]) (by decide +kernel) (by decide +kernel), note_t (n := 0) (l := [48]) (by decide +kernel) (by decide +kernel)]
    have s3 := same_upd (o := .lst [V.str (S (textL [.per zs[0] 0 0])), .str (S (textL [.note fr 5])), .str (S (textL [.note zs[0] 0]))]) nL1
    have hL1 : upd H2 L1 (.lst [V.str (S (textL [.per zs[0] 0 0])), .str (S (textL [.note fr 5])), .str (S (textL [.note zs[0] 0]))]) L1 = some (.lst [V.str (S (textL [.per zs[0] 0 0])), .str (S (textL [.note fr 5])), .str (S (textL [.note zs[0] 0]))]) := upd_same
    generalize upd H2 L1 (.lst [V.str (S (textL [.per zs[0] 0 0])), .str (S (textL [.note fr 5])), .str (S (textL [.note zs[0] 0]))]) = H3 at s3 hL1
    have hF3 := s3 _ _ hF
    have okn : (BRow.note zs[0] 1).Ok := ⟨word_of_name (nz.nm _ (List.getElem_mem _)), fig1, by decide⟩
    have ln : (rowL (.note zs[0] 1) ++ [10]).length ≤ 261 := by
      have := rowL_len okn
      rw [List.length_append]
      show _ + 1 ≤ 261
      omega
    refine ⟨.ref L1, rfl, .str zs[0], rfl, "  ", zs[0], rfl, rfl, line_of (by omega), _, " 1\n", rfl, rfl, line_of (by omega), ?_⟩
    rw [note_text]
    refine ⟨_, 61, rfl, rfl, by omega, by decide, by show 2 ≤ sizeLine; decide, fun G nG => ?_⟩
    rw [← textL_rep, show ("person ninelongs 0 0\n" : Str) = S (textL [.per "ninelongs" 0 0]) by decide +kernel]
    have nGL : L1 ≠ G := fun z => by rw [← z, hL1] at nG; cases nG
    refine ⟨L1, G, _, _, rfl, rfl, (by rw [upd_ne nGL]; exact hL1), upd_same, by show 5 ≤ sizeLine; decide, fun R nR => ?_⟩
    have s5 := (same_upd (o := .lst [V.str (S (textL (List.replicate 61 (.note zs[0] 1)))), .str (S (textL [.per "ninelongs" 0 0]))]) nG).trans (same_upd (o := .lst ([V.str (S (textL [.per zs[0] 0 0])), .str (S (textL [.note fr 5])), .str (S (textL [.note zs[0] 0]))] ++ [V.str (S (textL (List.replicate 61 (.note zs[0] 1)))), .str (S (textL [.per "ninelongs" 0 0]))])) nR)
    have nR3 : H3 R = none := (same_upd nG).free nR
    have hR : upd (upd H3 G (.lst [V.str (S (textL (List.replicate 61 (.note zs[0] 1)))), .str (S (textL [.per "ninelongs" 0 0]))])) R (.lst ([V.str (S (textL [.per zs[0] 0 0])), .str (S (textL [.note fr 5])), .str (S (textL [.note zs[0] 0]))] ++ [V.str (S (textL (List.replicate 61 (.note zs[0] 1)))), .str (S (textL [.per "ninelongs" 0 0]))])) R = some (.lst ([V.str (S (textL [.per zs[0] 0 0])), .str (S (textL [.note fr 5])), .str (S (textL [.note zs[0] 0]))] ++ [V.str (S (textL (List.replicate 61 (.note zs[0] 1)))), .str (S (textL [.per "ninelongs" 0 0]))])) := upd_same
    generalize upd (upd H3 G (.lst [V.str (S (textL (List.replicate 61 (.note zs[0] 1)))), .str (S (textL [.per "ninelongs" 0 0]))])) R (.lst ([V.str (S (textL [.per zs[0] 0 0])), .str (S (textL [.note fr 5])), .str (S (textL [.note zs[0] 0]))] ++ [V.str (S (textL (List.replicate 61 (.note zs[0] 1)))), .str (S (textL [.per "ninelongs" 0 0]))])) = H5 at s5 hR
    have hF5 := s5 _ _ hF3
    refine ⟨.ref R, rfl, .inl ⟨rfl, _, .inl (.inl hR)⟩, ⟨_, rfl⟩, .ref F0, rfl, _, rfl, F0, _, rfl, .inl (.inl hF5), fun p9 np9 => ?_⟩
    have e12 : ∀ xs : List V, cutV xs none (some 12) = xs.take 12 := fun xs => cut_take xs 12
    rw [e12]
    have s9 := same_upd (o := .lst (((freshL zs).map V.str).take 12)) np9
    have h9 : upd H5 p9 (.lst (((freshL zs).map V.str).take 12)) p9 = some (.lst (((freshL zs).map V.str).take 12)) := upd_same
    generalize upd H5 p9 (.lst (((freshL zs).map V.str).take 12)) = H6 at s9 h9
    rw [← List.map_take] at h9
    refine ⟨p9, rfl, ⟨_, .inl (.inl h9)⟩, fun E0 nE0 => ?_⟩
    have l12 : ((freshL zs).take 12).length ≤ 12 := by rw [List.length_take]; omega
    have n12' : ∀ z ∈ (freshL zs).take 12, nameT z = true := fun z hz => (fresh_mem (List.mem_of_mem_take hz)).1
    have mR : moreR zs 5 = ((freshL zs).take 12).map fun z => .per z 0 0 := rfl
    generalize (freshL zs).take 12 = fs at h9 l12 n12' mR
    refine lc_it (walk_list (K := K) (a := p9) (xs := fs.map V.str)) (fun i H' => Same H6 H' ∧ H' E0 = some (.lst (((fs.take i).map fun z => ((("person " : Str) ++ z) ++ " 0 0\n")).map V.str))) ⟨same_upd nE0, upd_same⟩ (fun i H' _ hP => hP.1.seq (.inl (.inl h9)))
      (fun i x H7' H7 hi hP hY => ?_) (fun H7 hP => ?_)
    · obtain ⟨rfl, hx⟩ := hY
      obtain ⟨s7, hE⟩ := hP
      rw [List.length_map] at hi
      have ex : x = .str fs[i] := by
        rw [List.getElem?_map, List.getElem?_eq_getElem hi] at hx
        exact (Option.some.inj hx).symm
      subst ex
      have lz8 := (nameT_len (n12' _ (List.getElem_mem hi))).2
      have b1' : (("person " : Str) ++ fs[i]).length = ("person " : Str).length + fs[i].length := PySem.Str.length_append ..
      refine ⟨rfl, .str fs[i], rfl, "person ", fs[i], rfl, rfl, line_of (by omega), _, " 0 0\n", rfl, rfl, line_of (by omega), _, hE, ?_, fun c o ec => ?_, ?_⟩
      · rw [List.length_map, List.length_map, List.length_take]
        exact small1000 (by omega)
      · rw [upd_ne (ne_of_none ec nE0)]
        exact s7 c o ec
      · rw [upd_same, take_succ hi, List.map_append, List.map_append]
        rfl
    obtain ⟨s7, hE⟩ := hP
    rw [List.length_map, List.take_length] at hE
    have l0 : ("" : Str).length = 0 := by decide +kernel
    refine ⟨"", E0, fs.map fun z => ((("person " : Str) ++ z) ++ " 0 0\n"), rfl, rfl, .inl (.inl (.inl hE)), ?_, ?_⟩
    · have h1 := sum_le (f := fun x : Str => x.length) (k := 20) (l := fs.map fun z => ((("person " : Str) ++ z) ++ " 0 0\n")) (fun x hx => by
        obtain ⟨z, hz, rfl⟩ := List.mem_map.mp hx
        have lz8 := (nameT_len (n12' z hz)).2
        have b1' : (("person " : Str) ++ z).length = ("person " : Str).length + z.length := PySem.Str.length_append ..
        have b2' : ((("person " : Str) ++ z) ++ (" 0 0\n" : Str)).length = (("person " : Str) ++ z).length + (" 0 0\n" : Str).length := PySem.Str.length_append ..
        show ((("person " : Str) ++ z) ++ (" 0 0\n" : Str)).length ≤ 20
        omega)
      rw [List.length_map] at h1
      rw [l0]
      omega
    rw [join_per, ← mR]
    have nR1 : H1 R = none := (s2.trans s3).free nR3
    refine ⟨R, _, _, rfl, rfl, s7 _ _ (s9 _ _ hR), by show 5 < sizeLine; decide, ?_⟩
    have hR8 : upd H7 R (.lst (([V.str (S (textL [.per zs[0] 0 0])), .str (S (textL [.note fr 5])), .str (S (textL [.note zs[0] 0]))] ++ [V.str (S (textL (List.replicate 61 (.note zs[0] 1)))), .str (S (textL [.per "ninelongs" 0 0]))]) ++ [V.str (S (textL (moreR zs 5)))])) R = some (.lst ((List.range 6).map fun k => V.str (S (textL (moreR zs k))))) := by
      rw [upd_same]
      show _ = some (HO.lst [V.str (S (textL (moreR zs 0))), V.str (S (textL (moreR zs 1))), V.str (S (textL (moreR zs 2))), V.str (S (textL (moreR zs 3))), V.str (S (textL (moreR zs 4))), V.str (S (textL (moreR zs 5)))])
      have m0 : moreR zs 0 = [.per zs[0] 0 0] := by show [BRow.per (zs.getD 0 "") 0 0] = _; rw [g0]
      have m1 : moreR zs 1 = [.note fr 5] := by show [BRow.note ((freshL zs).getD 0 "") 5] = _; rw [fg]
      have m2 : moreR zs 2 = [.note zs[0] 0] := by show [BRow.note (zs.getD 0 "") 0] = _; rw [g0]
      have m3 : moreR zs 3 = List.replicate 61 (.note zs[0] 1) := by show List.replicate 61 (BRow.note (zs.getD 0 "") 1) = _; rw [g0]
      rw [m0, m1, m2, m3]
      rfl
    have s18 : Same H1 (upd H7 R (.lst (([V.str (S (textL [.per zs[0] 0 0])), .str (S (textL [.note fr 5])), .str (S (textL [.note zs[0] 0]))] ++ [V.str (S (textL (List.replicate 61 (.note zs[0] 1)))), .str (S (textL [.per "ninelongs" 0 0]))]) ++ [V.str (S (textL (moreR zs 5)))]))) := fun c o e => by
      rw [upd_ne (ne_of_none e nR1)]
      exact s7 _ _ (s9 _ _ (s5 _ _ (s3 _ _ (s2 _ _ e))))
    generalize upd H7 R (.lst (([V.str (S (textL [.per zs[0] 0 0])), .str (S (textL [.note fr 5])), .str (S (textL [.note zs[0] 0]))] ++ [V.str (S (textL (List.replicate 61 (.note zs[0] 1)))), .str (S (textL [.per "ninelongs" 0 0]))]) ++ [V.str (S (textL (moreR zs 5)))])) = H8 at hR8 s18
    have hp8 := hp1.same s18
    have b8 : But p H H8 := b1.trans (same_but s18)
    have tl := textL_len okr
    have sF : (S (textL rows)).length = (textL rows).length := S_len _
    refine ⟨.int wy, rfl, rfl, _, rfl, ?_⟩
    by_cases c6 : wy = 6
    · rw [decide_eq_true (congrArg V.int c6)]
      have b3 : ((("  " : Str) ++ zs[0]) ++ (" 5\n" : Str)).length = (("  " : Str) ++ zs[0]).length + (" 5\n" : Str).length := PySem.Str.length_append ..
      refine iteT ⟨.str zs[0], rfl, "  ", zs[0], rfl, rfl, line_of (by omega), _, " 5\n", rfl, rfl, line_of (by omega), .str (S (textL rows)), rfl, _, _, rfl, rfl, line_of (by omega), ?_⟩
      rw [note_t (n := 5) (l := [53]) (by decide +kernel) (by decide +kernel), S_cat, ← textL_app]
      refine qb (.note zs[0] 5 :: rows) H8 hp8 b8 (fun r hr => ?_) (by rw [List.length_cons]; omega) bad_ahead
      rcases List.mem_cons.mp hr with rfl | hr
      · exact ⟨word_of_name (nz.nm _ (List.getElem_mem _)), ⟨by decide, by decide +kernel⟩, by decide⟩
      · exact okr r hr
    · rw [decide_eq_false (fun e => c6 (V.int.inj e))]
      refine iteF ⟨.int wy, rfl, _, _, rfl, rfl, _, rfl, ite2 (fun c => ?_) (fun c => qn H8 hp8 b8)⟩
      have cw : wy < 6 := by simpa using c
      obtain ⟨k, hk⟩ : ∃ k : Nat, wy = (k : Int) := ⟨wy.toNat, (Int.toNat_of_nonneg w0).symm⟩
      subst hk
      have k6 : k < 6 := by omega
      obtain ⟨nb, okm, lm⟩ := more_bad nz n6 nr okr k
      have tm := textL_len okm
      have sM : (S (textL (moreR zs k))).length = (textL (moreR zs k)).length := S_len _
      refine ⟨.str (S (textL rows)), rfl, .ref R, rfl, .int (k : Int), rfl, R, _, (k : Int), .str (S (textL (moreR zs k))), rfl, rfl, .inl (.inl hR8), atI_nat (j := k) (by rw [List.getElem?_map, List.getElem?_range k6]; rfl), _, _, rfl, rfl, line_of (by omega), ?_⟩
      rw [S_cat, ← textL_app]
      refine qb (rows ++ moreR zs k) H8 hp8 b8 (fun r hr => ?_) (by rw [List.length_append]; omega) nb
      rcases List.mem_append.mp hr with hr | hr
      · exact okr r hr
      · exact okm r hr
end
end Rc

namespace Rc
open PySem PySem.Spec PyProof.Rows L2 RZ
/-! ### == of equal books -/
def rEq1 (K : PySem.W.Frag) (C : Addr) : R2 := fun x y H Q => ∃ a b M, x = .ref a ∧ y = .ref b ∧ BookAt K C H a M ∧ BookAt K C H b M ∧ KeyOk M ∧ ∀ H', Same H H' → Q (.bl true) H'
theorem op_eqB1 {X : Cx} {C f : Addr} {fd : FuncData} {K : PySem.W.Frag} (eK : X.K = K) (G : FnOk X.prog X.w X.K X.mg X.base CX0 2 f fd ["self", "other"] (spEqB X.K C)) (bd : Binds X.K fd ["self", "other"] []) (hm : Meth X.K C "__eq__" f) (hr : Room 2 X.A) : OpR X (compareOp .Eq) (rEq1 K C) := by
  subst eK
  intro pins s σ H x y v u Q I rx ry h
  obtain ⟨a, b, M, rfl, rfl, ha, hb, oM, q⟩ := h
  have G2 : FnOk X.prog X.w X.K X.mg X.base CX0 2 f fd ["self", "other"] (spEq fun a b H => ∃ M, BookAt X.K C H a M ∧ BookAt X.K C H b M ∧ KeyOk M) := G.imp fun vs H Q E h => by
    obtain ⟨a, b, rfl, ⟨M, ha, hb, oM⟩, q⟩ := h
    exact ⟨a, b, M, M, rfl, ha, hb, oM, oM, fun H' s' => by rw [key_eqv oM]; exact q H' s'⟩
  obtain ⟨dx, tn, on, wg, ws, wd, e, _⟩ := ha.ex
  obtain ⟨dx2, tn2, on2, wg2, ws2, wd2, e2, _⟩ := hb.ex
  exact op_eqG (rcG_ins (E := E0) G2 hm.at_ hm.fn bd pass0) hr pins s σ H _ _ v u Q I rx ry ⟨⟨a, b, dx, dx2, _, _, rfl, rfl, e, e2, M, ha, hb, oM⟩, fun H' s' => q H' s'⟩
/-! ### != of dicts whose values are data -/
theorem hits_data {X : Cx} {pins : List (Addr × Obj)} {σ : L2.St} {H : Hp} {s : Shared} {A : Around} (I : Inv X pins σ H s) (hu : A.in1.units + 64 < cLine) {κ : Type} [DecidableEq κ] {kvs : List (κ × V)} {vb : List (κ × Value)} (rb : KV kvs vb) {ks : List (κ × V)} {va : List (κ × Value)} (ra : KV ks va) :
    (∀ p ∈ ks, ∃ y d, valV kvs p.1 = some y ∧ Dp X.K H p.2 d ∧ Dp X.K H y d ∧ SeqAt.shaped d = true ∧ PyData.eqv d d = true) → PySem.W.KeqHits A.in1 s vb va true := by
  unfold KV at ra
  induction ra with
  | nil => intro _; exact .nil
  | @cons p q ps qs h t ih =>
    intro hp
    obtain ⟨h1, h2⟩ := h
    obtain ⟨y0, d, e, d1, d2, sd, ed⟩ := hp p List.mem_cons_self
    have rr : RelO (some y0) (valueAt vb p.1) := by rw [← e]; exact rb.val p.1
    obtain ⟨y, hy, ry⟩ := rr.some_of
    obtain ⟨k, v⟩ := q
    have h1' : p.1 = k := h1
    rw [h1'] at hy
    obtain ⟨as, r1⟩ := Dp.reads I d _ _ d1 h2
    obtain ⟨bs, r2⟩ := Dp.reads I d _ _ d2 ry
    have ea := PySem.W.keq_at (A := A) r1 r2 sd sd hu
    rw [ed] at ea
    show PySem.W.KeqHits A.in1 s vb ((k, v) :: qs) (true && true)
    exact .hit hy ea (ih fun p' hm => hp p' (List.mem_cons_of_mem _ hm))
def rNeDD (K : PySem.W.Frag) : R2 := fun x y H Q => ∃ a b ks ls, x = .ref a ∧ y = .ref b ∧ H a = some (.dK ks) ∧ H b = some (.dK ls) ∧ ks.length = ls.length ∧ (∀ p ∈ ks, ∃ y d, valV ls p.1 = some y ∧ Dp K H p.2 d ∧ Dp K H y d ∧ SeqAt.shaped d = true ∧ PyData.eqv d d = true) ∧ Q (.bl false) H
theorem op_ne_dictD {X : Cx} {k : Nat} (hr : Room (k + 1) X.A) : OpR X (compareOp .NotEq) (rNeDD X.K) := by
  intro pins s σ H x y v u Q I rx ry h
  obtain ⟨a, b, ks, ls, rfl, rfl, ea, eb, hlen, hp, q⟩ := h
  obtain rfl : v = Value.ref a := rx
  obtain rfl : u = Value.ref b := ry
  obtain ⟨_, ya, va, ra, da⟩ := (show ObjOk X.prog X.w H s.heap a (.dK ks) from I.hok a _ ea)
  obtain ⟨_, yb, vb, rb, db⟩ := (show ObjOk X.prog X.w H s.heap b (.dK ls) from I.hok b _ eb)
  have hl : va.length = vb.length := by rw [← ra.length, ← rb.length]; exact hlen
  exact PySem.W.keq_ne (knd := mixKind X.prog X.w) (r := true) ya yb da db hr.units0 (fun _ => hits_data I hr.in1.units rb ra hp) (fin_bl I q (by simp [hl]))
end Rc

namespace Rc
open PySem PySem.Spec PyProof.Rows L2 RZ
open SX (S split_S join_S num_S int_S S_len S_cat)
open NumText (digitsVal AllDigits)
/-! ### texts are the same of the same books alone -/
theorem S_inj {a b : List Nat} (h : S a = S b) : a = b := congrArg (fun z : Str => z.cps.toList) h
theorem fig_inj {n m : Int} (h0 : 0 ≤ n) (h1 : 0 ≤ m) (h : figL n = figL m) : n = m := by
  rw [← val_fig h0, ← val_fig h1, h]
theorem cps_inj {a b : Str} (h : cpsL a = cpsL b) : a = b := by
  rw [← S_cps a, ← S_cps b, h]
theorem rowL_inj {r s : BRow} (o : r.Ok) (p : s.Ok) (h : S (rowL r) = S (rowL s)) : r = s := by
  have e : (rowW r).map S = (rowW s).map S := by rw [← split_row o, ← split_row p, h]
  have ew : rowW r = rowW s := (List.map_inj_right (fun x y => S_inj)).mp e
  cases r with
  | per z g f =>
    cases s with
    | per z' g' f' =>
      simp only [rowW, List.cons.injEq, and_true] at ew
      obtain ⟨_, h1, h2, h3⟩ := ew
      rw [cps_inj h1, fig_inj o.2.1.1 p.2.1.1 h2, fig_inj o.2.2.1 p.2.2.1 h3]
    | note y n =>
      simp only [rowW, List.cons.injEq, and_true] at ew
      exact absurd ew.1 (by decide)
  | note y n =>
    cases s with
    | per z' g' f' =>
      simp only [rowW, List.cons.injEq, and_true] at ew
      exact absurd ew.1 (by decide)
    | note y' n' =>
      simp only [rowW, List.cons.injEq, and_true] at ew
      obtain ⟨_, _, h1, h2⟩ := ew
      rw [cps_inj h1, fig_inj o.2.1.1 p.2.1.1 h2]
theorem rows_inj : ∀ {rs ss : List BRow}, (∀ r ∈ rs, r.Ok) → (∀ r ∈ ss, r.Ok) → (rs.map fun r => S (rowL r)) = (ss.map fun r => S (rowL r)) → rs = ss
  | [], [], _, _, _ => rfl
  | [], _ :: _, _, _, h => by cases h
  | _ :: _, [], _, _, h => by cases h
  | r :: rs, s :: ss, o, p, h => by
    rw [List.map_cons, List.map_cons, List.cons.injEq] at h
    rw [rowL_inj (o r List.mem_cons_self) (p s List.mem_cons_self) h.1, rows_inj (fun x hx => o x (List.mem_cons_of_mem _ hx)) (fun x hx => p x (List.mem_cons_of_mem _ hx)) h.2]
theorem textL_inj {rs ss : List BRow} (o : ∀ r ∈ rs, r.Ok) (p : ∀ r ∈ ss, r.Ok) (h : S (textL rs) = S (textL ss)) : rs = ss := by
  have e : (rs.map fun r => S (rowL r)) ++ [S []] = (ss.map fun r => S (rowL r)) ++ [S []] := by rw [← split_text o, ← split_text p, h]
  exact rows_inj o p (List.append_cancel_right e)
theorem text_inj {zs ys : List Str} {D E : Md} (g : Gs zs D) (gb : Gb D) (g' : Gs ys E) (gb' : Gb E) (h : S (textL (rowsOf zs D)) = S (textL (rowsOf ys E))) : bkOf zs D = bkOf ys E := by
  have rg := rows_good g gb
  have rg' := rows_good g' gb'
  have e := textL_inj (fun r hr => (rg.ok r hr).ok fun z hz => word_of_name (g.nz.nm z hz)) (fun r hr => (rg'.ok r hr).ok fun z hz => word_of_name (g'.nz.nm z hz)) h
  have ez : zs = ys := by rw [← rg.nm, ← rg'.nm, e]
  subst ez
  have f := fold_all g.nz.nd g.lg g.lf g.ln (fun x hx => (gb.gv x hx).1)
  have f' := fold_all g'.nz.nd g'.lg g'.lf g'.ln (fun x hx => (gb'.gv x hx).1)
  have h1 : ({ D with fallen := zeros zs.length } : Md) = { E with fallen := zeros zs.length } := by rw [← f.1, ← f'.1, e]
  have h2 : zs.zip D.fallen = zs.zip E.fallen := by rw [← f.2, ← f'.2, e]
  have hf : D.fallen = E.fallen := by
    rw [← List.map_snd_zip (l₁ := zs) (l₂ := D.fallen) (by rw [g.lf]; exact Nat.le_refl _), ← List.map_snd_zip (l₁ := zs) (l₂ := E.fallen) (by rw [g'.lf]; exact Nat.le_refl _), h2]
  have hg : D.given = E.given := (Md.mk.inj h1).1
  have hn : D.notes = E.notes := (Md.mk.inj h1).2.2
  unfold bkOf
  rw [hf, hg, hn]
/-! ### keys -/
def keyS : Shape := .tuple [.tuples .str, .tuples .int, .tuples (.tuples (.tuple [.str, .int])), .tuples .int]
theorem key_has (M : Bk) : keyS.has (keyD M) = true := by
  unfold keyS keyD
  have h1 : (M.names.map PyData.str).all (Shape.has .str) = true := List.all_eq_true.mpr fun x hx => by
    obtain ⟨y, _, rfl⟩ := List.mem_map.mp hx
    simp [Shape.has]
  have hi : ∀ l : List Int, (l.map PyData.int).all (Shape.has .int) = true := fun l => List.all_eq_true.mpr fun x hx => by
    obtain ⟨y, _, rfl⟩ := List.mem_map.mp hx
    simp [Shape.has]
  have hn : ∀ n : Str × Int, Shape.has (.tuple [.str, .int]) (noteD n) = true := fun n => by simp [Shape.has, Shape.hasAll, noteD]
  have h3 : (M.stacks.map stackD).all (Shape.has (.tuples (.tuple [.str, .int]))) = true := List.all_eq_true.mpr fun x hx => by
    obtain ⟨y, _, rfl⟩ := List.mem_map.mp hx
    show Shape.has (.tuples (.tuple [.str, .int])) (.tuple (notesD y)) = true
    rw [Shape.has]
    refine List.all_eq_true.mpr fun x hx => ?_
    obtain ⟨n, _, rfl⟩ := List.mem_map.mp hx
    exact hn n
  rw [Shape.has]
  simp only [Shape.hasAll]
  have e1 : Shape.has (.tuples .str) (.tuple (M.names.map PyData.str)) = true := by rw [Shape.has]; exact h1
  have e2 : ∀ l : List Int, Shape.has (.tuples .int) (.tuple (l.map PyData.int)) = true := fun l => by rw [Shape.has]; exact hi l
  have e3 : Shape.has (.tuples (.tuples (.tuple [.str, .int]))) (.tuple (M.stacks.map stackD)) = true := by rw [Shape.has]; exact h3
  rw [e1, e2, e2, e3]
  rfl
theorem note_inj {a b : Str × Int} (h : noteD a = noteD b) : a = b := by
  unfold noteD at h
  simp only [PyData.tuple.injEq, List.cons.injEq, PyData.str.injEq, PyData.int.injEq, and_true] at h
  exact Prod.ext h.1 h.2
theorem stack_inj {a b : List (Str × Int)} (h : stackD a = stackD b) : a = b := by
  unfold stackD notesD at h
  rw [PyData.tuple.injEq] at h
  exact (List.map_inj_right (fun x y => note_inj)).mp h
theorem key_inj {M N : Bk} (h : keyD M = keyD N) : M = N := by
  unfold keyD at h
  simp only [PyData.tuple.injEq, List.cons.injEq, and_true] at h
  obtain ⟨h1, h2, h3, h4⟩ := h
  have e1 := (List.map_inj_right (fun x y => PyData.str.inj)).mp h1
  have e2 := (List.map_inj_right (fun x y => PyData.int.inj)).mp h2
  have e3 := (List.map_inj_right (fun x y => stack_inj)).mp h3
  have e4 := (List.map_inj_right (fun x y => PyData.int.inj)).mp h4
  cases M
  cases N
  simp only at e1 e2 e3 e4
  rw [e1, e2, e3, e4]
theorem key_true {M N : Bk} (h : PyData.eqv (keyD M) (keyD N) = true) : M = N := by
  rw [← SeqAt.same_eq_eqv_of_shape (S := keyS) (by decide) (key_has M) (key_has N)] at h
  exact key_inj (same_iff.mp h)
theorem key_text {zs ys : List Str} {D E : Md} (g : Gs zs D) (gb : Gb D) (g' : Gs ys E) (gb' : Gb E) : PyData.eqv (keyD (bkOf zs D)) (keyD (bkOf ys E)) = decide (V.str (S (textL (rowsOf zs D))) = V.str (S (textL (rowsOf ys E)))) := by
  by_cases h : S (textL (rowsOf zs D)) = S (textL (rowsOf ys E))
  · rw [decide_eq_true (congrArg V.str h), ← text_inj g gb g' gb' h]
    exact key_eqv g.key
  · rw [decide_eq_false (fun c => h (V.str.inj c))]
    cases hk : PyData.eqv (keyD (bkOf zs D)) (keyD (bkOf ys E)) with
    | false => rfl
    | true =>
      have e := key_true hk
      have h1 : zs = ys := congrArg Bk.names e
      have h2 : D.given = E.given := congrArg Bk.gifts e
      have h3 : D.notes = E.notes := congrArg Bk.stacks e
      have h4 : D.fallen = E.fallen := congrArg Bk.drops e
      have ed : D = E := by
        cases D
        cases E
        cases h2
        cases h3
        cases h4
        rfl
      rw [h1, ed] at h
      exact absurd rfl h
end Rc

namespace Rc
open PySem PySem.Spec PyProof.Rows L2 RZ
open SX (S split_S join_S num_S int_S S_len S_cat)
theorem psNo {X : Cx} {st : List Stmt} : PSs X st (fun _ _ _ => False) := ⟨fun _ _ _ _ _ _ h => h.elim⟩
section
variable {P : Program} {w : World} {K : PySem.W.Frag} {mg : Str → Option Value} {base : Heap}
/-! ### figures_of, of a number of one piece -/
abbrev sFof : Stmt := topS 30
abbrev nFof : List Str := ["number", "pieces", "piece"]
theorem scFof : FnScope nFof ["number"] (defScope sFof) := ⟨rfl, rfl, rfl, by decide +kernel, rfl, by decide +kernel, by decide +kernel⟩
def spFof : Sp := fun vs H Q _ => ∃ n : Int, vs = [.int n] ∧ 0 ≤ n ∧ n < 10 ^ 60 ∧ ∀ H', Same H H' → Q (.str (S (figL n))) H'
theorem ok_fof {f : Addr} {fd : FuncData} (F : Fun K "figures_of" "figures_of" sFof f fd) (B : Blt mg) (gP : ∃ t, mg "PIECE" = some (.int (10 ^ 60) t)) :
    FnOk P w K mg base CX0 1 f fd ["number"] spFof := by
  obtain ⟨tP, gP⟩ := gP
  refine F.ok scFof (fun vs H Q E h => ?_) (fun cdv A outer s H vs Q E hr h => ?_)
  · obtain ⟨v, rfl, _⟩ := h
    rfl
  · obtain ⟨n, rfl, n0, n60, q⟩ := h
    refine ⟨_, pss_cons (ps_set (i := 1) scFof.nd rfl (.inl rfl) (pe_lst pa_nil))
      (pss_cons (ps_while PassesOwn.never (pt_cmpR op_ge (pv 0) (pe_glob (v := .int (10 ^ 60)) (by rfl) gP ⟨_, rfl⟩) (nomark _)) psNo)
      (pss_cons (ps_expr (pe_bm PySem.F.plainAttrs_list PySem.F.slot_list_append PySem.F.type_list_append mt_append (pv 1) (pa_cons (pe_callTy call_str_int (by rfl) B.str (by decide +kernel) (pa_cons (pv 0) pa_nil)) pa_nil)))
      (pss_one (ps_ret (pe_join pe_str (pe_revL (pv 1))))))), ?_⟩
    have fn : FigOk n := ⟨n0, Int.lt_trans n60 (by decide +kernel)⟩
    refine ⟨Nat.zero_le _, fun R nR => ?_⟩
    have sR := same_upd (o := .lst []) nR
    have hR0 : upd H R (.lst []) R = some (.lst []) := upd_same
    generalize upd H R (.lst []) = H1 at sR hR0
    refine ⟨fun m σ' H' => σ' = [some (.int n), some (.ref R), none] ∧ H' = H1, ⟨0, rfl, rfl⟩, ?_⟩
    rintro m _ H1 ⟨rfl, rfl⟩
    refine ⟨_, rfl, _, _, rfl, rfl, _, rfl, ?_⟩
    show if decide (n ≥ 10 ^ 60) = true then _ else _
    rw [decide_eq_false (show ¬ n ≥ 10 ^ 60 by omega), if_neg (by decide)]
    refine ⟨.ref R, rfl, .inl ⟨rfl, _, .inl (.inl hR0)⟩, _, rfl, n, rfl, fig_log fn, R, _, _, rfl, rfl, hR0, by show (0 : Nat) < _; exact small1000 (by decide), ?_⟩
    have s2 : Same H (upd H1 R (.lst ([] ++ [V.str (Str.ofString (toString n))]))) := fun c o e => by
      rw [upd_ne (ne_of_none e nR)]
      exact sR _ _ e
    have hR2 : upd H1 R (.lst ([] ++ [V.str (Str.ofString (toString n))])) R = some (.lst [V.str (Str.ofString (toString n))]) := upd_same
    generalize upd H1 R (.lst ([] ++ [V.str (Str.ofString (toString n))])) = H2 at s2 hR2
    refine ⟨⟨_, rfl⟩, .ref R, rfl, R, _, rfl, .inl (.inl hR2), fun p np => ?_⟩
    have lfn : (Str.ofString (toString n)).length ≤ 70 := by rw [toS n0, S_len]; exact fig_len fn
    refine ⟨"", p, [Str.ofString (toString n)], rfl, rfl, .inl (.inl (.inl upd_same)), ?_, ?_⟩
    · show (Str.ofString (toString n)).length + 0 + 1 * ("" : Str).length ≤ 16777216
      have l0 : ("" : Str).length = 0 := by decide +kernel
      omega
    · have e : Txt.join "" [Str.ofString (toString n)] = S (figL n) := by
        rw [toS n0, nil_eq]
        exact (join_S [] [figL n]).trans rfl
      rw [e]
      exact q _ (s2.trans (same_upd np))
end
end Rc

namespace Rc
open PySem PySem.Spec PyProof.Rows L2 RZ
open SX (S split_S join_S num_S int_S S_len S_cat)
theorem emptyS : Str.empty = S [] := by decide +kernel
theorem frow_per {z : Str} {g f : Int} : ((((((Str.empty ++ "person") ++ " ") ++ z) ++ " ") ++ S (figL g)) ++ " ") ++ S (figL f) = S (rowL (.per z g f)) := by
  have blE : (" " : Str) = S [32] := by decide +kernel
  rw [blE, wPerson_eq, emptyS]
  conv => lhs; rw [← S_cps z]
  rw [S_cat, S_cat, S_cat, S_cat, S_cat, S_cat, S_cat]
  show S _ = S (wPerson ++ ([32] ++ (cpsL z ++ ([32] ++ (figL g ++ ([32] ++ figL f))))))
  simp
theorem frow_note {y : Str} {n : Int} : (((Str.empty ++ "  ") ++ y) ++ " ") ++ S (figL n) = S (rowL (.note y n)) := by
  have blE : (" " : Str) = S [32] := by decide +kernel
  have bl2 : ("  " : Str) = S [32, 32] := by decide +kernel
  rw [blE, bl2, emptyS]
  conv => lhs; rw [← S_cps y]
  rw [S_cat, S_cat, S_cat, S_cat]
  show S _ = S ([] ++ ([32] ++ ([] ++ ([32] ++ (cpsL y ++ ([32] ++ figL n))))))
  simp
def tJ (ts : List TE) : TE := fun σ H Q => tJs ts Str.empty σ H fun out H1 => Q (.str out) H1
theorem pe_joinedT {X : Cx} {v1 v2 : Expr} {rest : List Expr} {ts : List TE} {pos : Pos} (h : PJ X (v1 :: v2 :: rest) ts) : PE X (.JoinedStr (v1 :: v2 :: rest) pos) (tJ ts) := pe_joined h
section
variable {P : Program} {w : World} {K : PySem.W.Frag} {mg : Str → Option Value} {base : Heap}
/-! ### person_rows -/
abbrev sPrs : Stmt := topS 33
abbrev nPrs : List Str := ["book", "who", "rows", "to", "amount"]
theorem scPrs : FnScope nPrs ["book", "who"] (defScope sPrs) := ⟨rfl, rfl, rfl, by decide +kernel, rfl, by decide +kernel, by decide +kernel⟩
def SmD (D : Md) : Prop := ∀ g ∈ D.given, g < 10 ^ 60
def spPrs (K : PySem.W.Frag) (C : Addr) : Sp := fun vs H Q _ => ∃ (b : Addr) (D : Md) (zs : List Str) (z : Str) (i : Nat), vs = [.ref b, .str z] ∧ BookAt K C H b (bkOf zs D) ∧ Gs zs D ∧ Gb D ∧ SmD D ∧ zs[i]? = some z ∧
  ∀ R H', Same H H' → H R = none → H' R = some (.lst (((blockAt zs D i).map fun r => S (rowL r)).map V.str)) → Q (.ref R) H'
theorem ok_prs {f f1 f2 f3 f4 C : Addr} {fd fd1 fd2 fd3 fd4 : FuncData} (F : Fun K "person_rows" "person_rows" sPrs f fd) (T : ClsF K C) (gP : ∃ t, mg "PERSON" = some (.str "person" t)) (FO : Has P w K mg base 1 "figures_of" ["number"] spFof f1 fd1)
    (GV : HasM P w K mg base C 4 "given" ["self", "who"] (spNum K C Bk.gifts) f2 fd2) (FL : HasM P w K mg base C 4 "fallen" ["self", "who"] (spNum K C Bk.drops) f3 fd3) (NT : HasM P w K mg base C 4 "notes" ["self", "who"] (spRow K C fun l _ => l) f4 fd4) :
    FnOk P w K mg base CX0 5 f fd ["book", "who"] (spPrs K C) := by
  obtain ⟨tP, gP⟩ := gP
  refine F.ok scPrs (fun vs H Q E h => ?_) (fun cdv A outer s H vs Q E hr h => ?_)
  · obtain ⟨_, _, _, _, _, rfl, _⟩ := h
    rfl
  · obtain ⟨b, D, zs, z, i, rfl, hb, g, gb, sm, ej, q⟩ := h
    have hr1 := hr.mono (show 1 ≤ 4 by decide)
    refine ⟨_, pss_cons (ps_set (i := 2) scPrs.nd rfl (.inl rfl) (pe_lst (pa_cons (pe_joined (PJ.cons (pe_fmt (pe_glob (v := .str "person") (by rfl) gP ⟨_, rfl⟩)) (PJ.cons pe_str (PJ.cons (pe_fmt (pv 1)) (PJ.cons pe_str
        (PJ.cons (pe_fmt (pe_call FO.ok hr1 (by rfl) FO.g FO.kp FO.b .nil pass0 (pa_cons (pe_meth (pv 0) T.cl GV.m GV.ok hr GV.b .nil pass0 (pa_cons (pv 1) pa_nil)) pa_nil))) (PJ.cons pe_str
        (PJ.cons (pe_fmt (pe_call FO.ok hr1 (by rfl) FO.g FO.kp FO.b .nil pass0 (pa_cons (pe_meth (pv 0) T.cl FL.m FL.ok hr FL.b .nil pass0 (pa_cons (pv 1) pa_nil)) pa_nil))) PJ.nil)))))))) pa_nil)))
      (pss_one (ps_ret (pe_op op_cat (pv 2) (pe_lc (own := [("to", 3), ("amount", 4)]) (g := gTup K 2 (gCons (gName 3) (gCons (gName 4) gNil))) (tt := tYes) rfl scPrs.nd (pi_list (pe_meth (pv 0) T.cl NT.m NT.ok hr NT.b .nil pass0 (pa_cons (pv 1) pa_nil))) (blkOk_by (N := nPrs) (sc := defScope sPrs) (own := [("to", 3), ("amount", 4)]) (by decide +kernel))
            (fun _ _ _ _ _ => pg_tup rfl (pgs_cons (pg_name (i := 3) scPrs.nd rfl (.inl rfl) (hf := .inr rfl)) (pgs_cons (pg_name (i := 4) scPrs.nd rfl (.inl rfl) (hf := .inr rfl)) pgs_nil))) (fun _ _ _ _ _ => pts_nil)
            (fun _ _ _ _ _ => pe_joinedT (PJ.cons pe_str (PJ.cons (pe_fmt (pv 3)) (PJ.cons pe_str (PJ.cons (pe_fmt (pe_call FO.ok hr1 (by rfl) FO.g FO.kp FO.b .nil pass0 (pa_cons (pv 4) pa_nil))) PJ.nil))))))))), ?_⟩
    have nz := g.nz
    have rg := rows_good g gb
    have l1 : (" " : Str).length = 1 := by decide +kernel
    have l2 : ("  " : Str).length = 2 := by decide +kernel
    have l6 : ("person" : Str).length = 6 := by decide +kernel
    have l0 : Str.empty.length = 0 := by decide +kernel
    have no := @bf_no
    obtain ⟨dx, tn, on, wg, ws, wd, e, _⟩ := hb.ex
    obtain ⟨gv, l', f', eg, el, ef, ll⟩ := g.ok.at_ (M := bkOf zs D) ej
    have eg' : D.given[i]? = some gv := eg
    have ef' : D.fallen[i]? = some f' := ef
    have el' : D.notes[i]? = some l' := el
    have hi : i < zs.length := (List.getElem?_eq_some_iff.mp ej).1
    have eb : blockAt zs D i = .per z gv f' :: l'.map fun n => .note n.1 n.2 := by
      unfold blockAt blockR
      rw [getD_of ej, getD_of eg', getD_of ef', getD_of el']
    have mem : ∀ r ∈ blockAt zs D i, r ∈ rowsOf zs D := fun r hr => by
      unfold rowsOf rowsN
      exact List.mem_flatten.mpr ⟨_, List.mem_map.mpr ⟨i, List.mem_range.mpr hi, rfl⟩, hr⟩
    have okb : ∀ r ∈ blockAt zs D i, r.OkZ zs := fun r hr => rg.ok r (mem r hr)
    obtain ⟨_, fgv, ff⟩ := okb (.per z gv f') (by rw [eb]; exact List.mem_cons_self)
    have zl : z.length ≤ 60 := (name_len (word_of_name (nz.nm _ (List.mem_of_getElem? ej)))).2
    have g60 : gv < 10 ^ 60 := sm _ (List.mem_of_getElem? eg')
    have nl := g.nt _ (List.mem_of_getElem? el')
    have f60 : f' < 10 ^ 60 := by
      have a1 := gb.fw i _ _ el' ef'
      have a2 := wholeN_le nl
      have a3 : ((l'.length : Int)) * 10 ^ 58 ≤ 60 * 10 ^ 58 := Int.mul_le_mul_of_nonneg_right (by omega) (by decide)
      have a4 : (60 : Int) * 10 ^ 58 < 10 ^ 60 := by decide
      omega
    have lgv : (S (figL gv)).length ≤ 70 := by rw [S_len]; exact fig_len fgv
    have lff : (S (figL f')).length ≤ 70 := by rw [S_len]; exact fig_len ff
    refine .inl ⟨_, rfl, line_of (by omega), _, rfl, line_of (by simp only [PySem.Str.length_append]; omega), ?_⟩
    refine ⟨_, rfl, line_of (by simp only [PySem.Str.length_append]; omega), _, rfl, .inl ⟨_, rfl, line_of (by omega), _, rfl, line_of (by simp only [PySem.Str.length_append]; omega), ?_⟩⟩
    refine ⟨_, rfl, line_of (by simp only [PySem.Str.length_append]; omega), .ref b, rfl, b, dx, _, rfl, e, bf_no (NoF.mk' (by decide +kernel)), .str z, rfl, b, _, z, i, gv, rfl, hb, nz, ej, eg, fun H1 s1 => ?_⟩
    refine ⟨gv, rfl, fgv.1, g60, fun H2 s2' => .inl ⟨_, rfl, line_of (by omega), _, rfl, line_of (by simp only [PySem.Str.length_append]; omega), ?_⟩⟩
    have s2 := s1.trans s2'
    refine ⟨_, rfl, line_of (by simp only [PySem.Str.length_append]; omega), .ref b, rfl, b, dx, _, rfl, s2 _ _ e, bf_no (NoF.mk' (by decide +kernel)), .str z, rfl, b, _, z, i, f', rfl, book_same hb s2, nz, ej, ef, fun H3 s3' => ?_⟩
    refine ⟨f', rfl, ff.1, f60, fun H4 s4' => .inl ⟨_, rfl, line_of (by omega), _, rfl, line_of (by simp only [PySem.Str.length_append]; omega), ?_⟩⟩
    have s4 := s2.trans (s3'.trans s4')
    rw [frow_per]
    refine ⟨by show 1 ≤ sizeLine; exact line_of (by decide), fun R nR => ?_⟩
    have s5 := s4.trans (same_upd (o := .lst [V.str (S (rowL (.per z gv f')))]) nR)
    have hR5 : upd H4 R (.lst [V.str (S (rowL (.per z gv f')))]) R = some (.lst [V.str (S (rowL (.per z gv f')))]) := upd_same
    have nRH := s4.free nR
    generalize upd H4 R (.lst [V.str (S (rowL (.per z gv f')))]) = H5 at s5 hR5
    refine ⟨.ref R, rfl, .ref b, rfl, b, dx, _, rfl, s5 _ _ e, bf_no (NoF.mk' (by decide +kernel)), .str z, rfl, b, _, z, i, l', f', rfl, book_same hb s5, nz, ej, el, ef, by omega, fun r xs H6 s6' nr hr6 hd6 => ?_⟩
    have s6 := s5.trans s6'
    have hd6 : DtAll K H6 xs (notesD l') := hd6
    have hR6 := s6' _ _ hR5
    refine ⟨r, rfl, ⟨_, .inl (.inl hr6)⟩, fun E0 nE0 => ?_⟩
    have lx : xs.length = l'.length := by
      rw [hd6.len]
      unfold notesD
      rw [List.length_map]
    refine lc_it (walk_list (K := K) (a := r) (xs := xs)) (fun k H' => Same H6 H' ∧ H' E0 = some (.lst (((l'.take k).map fun n => S (rowL (.note n.1 n.2))).map V.str))) ⟨same_upd nE0, upd_same⟩ (fun k H' _ hP => hP.1.seq (.inl (.inl hr6)))
      (fun k x H7' H7 hk hP hY => ?_) (fun H7 hP => ?_)
    · obtain ⟨rfl, hx⟩ := hY
      obtain ⟨hkl, dn⟩ := (DtAll.same hP.1 _ hd6).notes_get hx
      obtain ⟨na, rfl, qn⟩ := note_inv dn
      obtain ⟨hy, fn, _⟩ := okb (.note l'[k].1 l'[k].2) (by rw [eb]; exact List.mem_cons_of_mem _ (List.mem_map.mpr ⟨l'[k], List.getElem_mem hkl, rfl⟩))
      have ly : (l'[k].1).length ≤ 60 := (name_len (word_of_name (nz.nm _ hy))).2
      have lfn : (S (figL l'[k].2)).length ≤ 70 := by rw [S_len]; exact fig_len fn
      have n60 : l'[k].2 < 10 ^ 60 := Int.lt_of_le_of_lt (nl _ (List.getElem_mem hkl)).2.2 (by decide)
      refine ⟨na, _, rfl, qn, rfl, _, _, rfl, _, _, rfl, rfl, rfl, _, rfl, line_of (by simp only [PySem.Str.length_append]; omega), _, rfl, .inl ⟨_, rfl, line_of (by omega), _, rfl, line_of (by simp only [PySem.Str.length_append]; omega), ?_⟩⟩
      refine ⟨_, rfl, line_of (by simp only [PySem.Str.length_append]; omega), _, rfl, _, rfl, fn.1, n60, fun H8 s8 => .inl ⟨_, rfl, line_of (by omega), _, rfl, line_of (by simp only [PySem.Str.length_append]; omega), ?_⟩⟩
      rw [frow_note]
      refine ⟨_, s8 _ _ hP.2, ?_, fun c o ec => ?_, ?_⟩
      · rw [List.length_map, List.length_map, List.length_take]
        exact small1000 (by omega)
      · rw [upd_ne (ne_of_none ec nE0)]
        exact s8 _ _ (hP.1 c o ec)
      · rw [upd_same, take_succ hkl, List.map_append, List.map_append]
        rfl
    obtain ⟨s7, hE7⟩ := hP
    rw [lx, List.take_length] at hE7
    have hR7 := s7 _ _ hR6
    refine ⟨R, E0, _, _, rfl, rfl, hR7, hE7, ?_, fun p np => ?_⟩
    · rw [List.length_map, List.length_map]
      show 1 + l'.length ≤ sizeLine
      exact line_of (by omega)
    · have s8 := s6.trans s7
      refine q p _ (s8.trans (same_upd np)) (s8.free np) ?_
      have e9 : (l'.map fun n => BRow.note n.1 n.2).map (fun r => S (rowL r)) = l'.map fun n => S (rowL (.note n.1 n.2)) := List.map_map
      rw [upd_same, eb, List.map_cons, List.map_cons, e9]
      rfl
/-! ### book_text -/
abbrev sBtx : Stmt := topS 34
abbrev nBtx : List Str := ["book", "rows", "who", "row"]
theorem scBtx : FnScope nBtx ["book"] (defScope sBtx) := ⟨rfl, rfl, rfl, by decide +kernel, rfl, by decide +kernel, by decide +kernel⟩
def spBtx (K : PySem.W.Frag) (C : Addr) : Sp := fun vs H Q _ => ∃ (b : Addr) (D : Md) (zs : List Str), vs = [.ref b] ∧ BookAt K C H b (bkOf zs D) ∧ Gs zs D ∧ Gb D ∧ SmD D ∧ ∀ H', Same H H' → Q (.str (S (textL (rowsOf zs D)))) H'
theorem ok_btx {f f1 f2 C : Addr} {fd fd1 fd2 : FuncData} (F : Fun K "book_text" "book_text" sBtx f fd) (T : ClsF K C) (PR : Has P w K mg base 5 "person_rows" ["book", "who"] (spPrs K C) f1 fd1) (PS' : HasM P w K mg base C 1 "persons" ["self"] (spPersons K C) f2 fd2) :
    FnOk P w K mg base CX0 6 f fd ["book"] (spBtx K C) := by
  refine F.ok scBtx (fun vs H Q E h => ?_) (fun cdv A outer s H vs Q E hr h => ?_)
  · obtain ⟨_, _, _, rfl, _⟩ := h
    rfl
  · obtain ⟨b, D, zs, rfl, hb, g, gb, sm, q⟩ := h
    have hr1 := hr.mono (show 1 ≤ 5 by decide)
    refine ⟨_, pss_cons (ps_setLc2 (i := 1) (own := [("who", 2), ("row", 3)]) (vs1 := [3]) (g := gName 2) (g1 := gName 3) (tt := tYes) (tt1 := tYes) (te := tVar 3) (wi1 := iList K (tCall (spPrs K C) [] E0 (tCons (tVar 0) (tCons (tVar 2) tNil)))) rfl scBtx.nd rfl rfl (sw_true rfl rfl rfl (by decide +kernel))
        (pi_list (pe_meth0 (pv 0) T.cl PS'.m PS'.ok hr1 PS'.b .nil pass0)) (blkOk_by (N := nBtx) (sc := defScope sBtx) (own := [("who", 2), ("row", 3)]) (by decide +kernel)) (by decide) (fun _ _ _ _ _ => pg_name (i := 2) scBtx.nd rfl (.inl rfl) (hf := .inr rfl)) (fun _ _ _ _ _ => pts_nil)
        (fun _ _ _ _ _ => pi_list (pe_call PR.ok hr (by rfl) PR.g PR.kp PR.b .nil pass0 (pa_cons (pv 0) (pa_cons (pv 2) pa_nil)))) (fun _ _ _ _ _ => pg_name (i := 3) scBtx.nd rfl (.inl rfl) (hf := .inr rfl)) (fun _ _ _ _ _ => pts_nil) (fun _ _ _ _ _ => pv 3))
      (pss_one (ps_ret (pe_join pe_str (pe_lc (own := [("row", 3)]) (g := gName 3) (tt := tYes) rfl scBtx.nd (pi_list (pv 1)) (blkOk_by (N := nBtx) (sc := defScope sBtx) (own := [("row", 3)]) (by decide +kernel))
          (fun _ _ _ _ _ => pg_name (i := 3) scBtx.nd rfl (.inl rfl) (hf := .inr rfl)) (fun _ _ _ _ _ => pts_nil) (fun _ _ _ _ _ => pe_op op_add_str (pv 3) pe_str))))), ?_⟩
    have nz := g.nz
    have n12 := nz.n1
    have rg := rows_good g gb
    have l0 : ("" : Str).length = 0 := by decide +kernel
    have l10 : ("\n" : Str).length = 1 := by decide +kernel
    obtain ⟨dx, tn, on, wg, ws, wd, e, _⟩ := hb.ex
    refine ⟨.ref b, rfl, b, dx, _, rfl, e, bf_no (NoF.mk' (by decide +kernel)), b, _, rfl, hb, fun pl npl => ?_⟩
    have sp := same_upd (o := .lst (zs.map V.str)) npl
    have hpl : upd H pl (.lst ((bkOf zs D).names.map V.str)) pl = some (.lst (zs.map V.str)) := upd_same
    have sp : Same H (upd H pl (.lst ((bkOf zs D).names.map V.str))) := sp
    generalize upd H pl (.lst ((bkOf zs D).names.map V.str)) = H1 at sp hpl
    refine ⟨pl, rfl, ⟨_, .inl (.inl hpl)⟩, fun R nR => ?_⟩
    have lrn : ∀ i, i ≤ zs.length → (rowsN zs D i).length ≤ 72 := fun i hi => by
      obtain ⟨_, _, h3, _⟩ := rowsN_facts g.lg g.lf g.ln i hi
      have h4 := g.my
      have h5 : ((D.notes.take i).map List.length).sum ≤ (D.notes.map List.length).sum := by
        conv => rhs; rw [← List.take_append_drop i D.notes, List.map_append, List.sum_append]
        omega
      omega
    refine out_it (walk_list (K := K) (a := pl) (xs := zs.map V.str)) (fun i H' => Same H1 H' ∧ H' R = some (.lst (((rowsN zs D i).map fun r => S (rowL r)).map V.str))) ⟨same_upd nR, upd_same⟩ (fun i H' _ hP => hP.1.seq (.inl (.inl hpl)))
      (fun i x H2' H2 hi hP hY => ?_) (fun H2 hP => ?_)
    · obtain ⟨rfl, hx⟩ := hY
      rw [List.length_map] at hi
      obtain ⟨s2, hR2⟩ := hP
      have ej : zs[i]? = some zs[i] := List.getElem?_eq_getElem hi
      have ex : x = .str zs[i] := by
        rw [List.getElem?_map, ej] at hx
        exact (Option.some.inj hx).symm
      subst ex
      refine ⟨rfl, ?_⟩
      refine ⟨.ref b, rfl, _, rfl, b, D, zs, _, i, rfl, book_same hb (sp.trans s2), g, gb, sm, ej, fun r H3 s3 nr hr3 => ?_⟩
      refine ⟨r, rfl, ⟨_, .inl (.inl hr3)⟩, ?_⟩
      have rR : r ≠ R := (ne_of_none hR2 nr).symm
      have b1 := lrn (i + 1) (by omega)
      rw [rowsN_succ, List.length_append] at b1
      generalize hblk : (blockAt zs D i).map (fun r => S (rowL r)) = bl at hr3
      have lbl : bl.length = (blockAt zs D i).length := by rw [← hblk, List.length_map]
      refine out_it (walk_list (K := K) (a := r) (xs := bl.map V.str)) (fun j H' => Same H1 H' ∧ H' r = some (.lst (bl.map V.str)) ∧ H' R = some (.lst ((((rowsN zs D i).map fun r => S (rowL r)) ++ bl.take j).map V.str))) ⟨s2.trans s3, hr3, by rw [List.take_zero, List.append_nil]; exact s3 _ _ hR2⟩ (fun j H' _ hP => .inl (.inl hP.2.1))
        (fun j y H4' H4 hj hP hY => ?_) (fun H4 hP => ?_)
      · obtain ⟨rfl, hy⟩ := hY
        obtain ⟨s4, hr4, hR4⟩ := hP
        rw [List.length_map] at hj
        have ey : y = .str bl[j] := by
          rw [List.getElem?_map, List.getElem?_eq_getElem hj] at hy
          exact (Option.some.inj hy).symm
        subst ey
        refine ⟨rfl, _, rfl, _, hR4, ?_, fun c o ec => ?_, ?_, ?_⟩
        · rw [List.length_map, List.length_append, List.length_map, List.length_take]
          exact small1000 (by omega)
        · rw [upd_ne (ne_of_none ec nR)]
          exact s4 c o ec
        · rw [upd_ne rR]
          exact hr4
        · rw [upd_same, take_succ hj, ← List.append_assoc]
          simp only [List.map_append]
          rfl
      · obtain ⟨s4, hr4, hR4⟩ := hP
        rw [List.length_map, List.take_length] at hR4
        refine ⟨s4, ?_⟩
        rw [hR4, rowsN_succ]
        simp only [List.map_append]
        rw [hblk]
    · obtain ⟨s2, hR2⟩ := hP
      rw [List.length_map] at hR2
      have hR2 : H2 R = some (.lst (((rowsOf zs D).map fun r => S (rowL r)).map V.str)) := hR2
      have l72 := rg.len
      have okr : ∀ r ∈ rowsOf zs D, r.Ok := fun r hr => (rg.ok r hr).ok fun z hz => word_of_name (nz.nm z hz)
      generalize rowsOf zs D = rs at hR2 l72 okr q
      refine ⟨⟨_, rfl⟩, .ref R, rfl, R, rfl, ⟨_, .inl (.inl hR2)⟩, fun E0 nE0 => ?_⟩
      refine lc_it (walk_list (K := K) (a := R) (xs := (rs.map fun r => S (rowL r)).map V.str)) (fun k H' => Same H2 H' ∧ H' E0 = some (.lst (((rs.take k).map fun r => S (rowL r) ++ "\n").map V.str))) ⟨same_upd nE0, upd_same⟩ (fun k H' _ hP => hP.1.seq (.inl (.inl hR2)))
        (fun k x H3' H3 hk hP hY => ?_) (fun H3 hP => ?_)
      · obtain ⟨rfl, hx⟩ := hY
        rw [List.length_map, List.length_map] at hk
        have ex : x = .str (S (rowL rs[k])) := by
          rw [List.getElem?_map, List.getElem?_map, List.getElem?_eq_getElem hk] at hx
          exact (Option.some.inj hx).symm
        subst ex
        have lr := rowL_len (okr _ (List.getElem_mem hk))
        have ls : (S (rowL rs[k])).length = (rowL rs[k]).length := S_len _
        refine ⟨rfl, _, rfl, _, "\n", rfl, rfl, line_of (by omega), _, hP.2, ?_, fun c o ec => ?_, ?_⟩
        · rw [List.length_map, List.length_map, List.length_take]
          exact small1000 (by omega)
        · rw [upd_ne (ne_of_none ec nE0)]
          exact hP.1 c o ec
        · rw [upd_same, take_succ hk, List.map_append, List.map_append]
          rfl
      obtain ⟨s3, hE3⟩ := hP
      rw [List.length_map, List.length_map, List.take_length] at hE3
      refine ⟨"", E0, rs.map fun r => S (rowL r) ++ "\n", rfl, rfl, .inl (.inl (.inl hE3)), ?_, ?_⟩
      · have h1 := sum_le (f := fun x : Str => x.length) (k := 261) (l := rs.map fun r => S (rowL r) ++ "\n") (fun x hx => by
          obtain ⟨r, hr, rfl⟩ := List.mem_map.mp hx
          have lr := rowL_len (okr r hr)
          have ls : (S (rowL r)).length = (rowL r).length := S_len _
          have a1 : (S (rowL r) ++ ("\n" : Str)).length = (S (rowL r)).length + ("\n" : Str).length := PySem.Str.length_append ..
          show (S (rowL r) ++ ("\n" : Str)).length ≤ 261
          omega)
        rw [List.length_map] at h1
        rw [l0]
        omega
      · rw [text_of]
        exact q H3 (sp.trans (s2.trans s3))
end
end Rc

namespace Rc
open PySem PySem.Spec PyProof.Rows L2 RZ
open SX (S split_S join_S num_S int_S S_len S_cat)
/-! ### a book made by puts and gifts, person by person -/
def midN (N : List (List (Str × Int))) (i k : Nat) : List (List (Str × Int)) := N.take i ++ ((N.getD i []).take k :: List.replicate (N.length - (i + 1)) [])
theorem mid_zero {N : List (List (Str × Int))} {i : Nat} (hi : i < N.length) : midN N i 0 = N.take i ++ List.replicate (N.length - i) [] := by
  unfold midN
  rw [List.take_zero, show N.length - i = (N.length - (i + 1)) + 1 by omega, List.replicate_succ]
theorem mid_full {N : List (List (Str × Int))} {i : Nat} {l : List (Str × Int)} (e : N[i]? = some l) : midN N i l.length = N.take (i + 1) ++ List.replicate (N.length - (i + 1)) [] := by
  unfold midN
  rw [getD_of e, List.take_length, List.take_add_one, e, List.append_assoc]
  rfl
theorem mid_at {N : List (List (Str × Int))} {i k : Nat} {l : List (Str × Int)} (e : N[i]? = some l) : (midN N i k)[i]? = some (l.take k) := by
  have hi := (List.getElem?_eq_some_iff.mp e).1
  have hl : (N.take i).length = i := by rw [List.length_take]; omega
  unfold midN
  rw [getD_of e, List.getElem?_append_right (by omega), hl, Nat.sub_self]
  rfl
theorem mid_len {N : List (List (Str × Int))} {i k : Nat} (hi : i < N.length) : (midN N i k).length = N.length := by
  unfold midN
  rw [List.length_append, List.length_take, List.length_cons, List.length_replicate]
  omega
theorem mid_put {N : List (List (Str × Int))} {i k : Nat} {l : List (Str × Int)} (e : N[i]? = some l) (hk : k < l.length) : (midN N i k).set i ((midN N i k).getD i [] ++ [l[k]]) = midN N i (k + 1) := by
  have hi := (List.getElem?_eq_some_iff.mp e).1
  have hl : (N.take i).length = i := by rw [List.length_take]; omega
  rw [getD_of (mid_at e), ← take_succ hk]
  unfold midN
  rw [getD_of e, List.set_append_right _ _ (by omega), hl, Nat.sub_self, List.set_cons_zero]
theorem sums0 (n : Nat) : ((List.replicate n ([] : List (Str × Int))).map List.length).sum = 0 := by
  induction n with
  | zero => rfl
  | succ n ih =>
    rw [List.replicate_succ, List.map_cons, List.sum_cons, ih]
    rfl
theorem mid_sum {N : List (List (Str × Int))} {i k : Nat} {l : List (Str × Int)} (e : N[i]? = some l) (hk : k ≤ l.length) : ((midN N i k).map List.length).sum = ((N.take i).map List.length).sum + k := by
  unfold midN
  rw [getD_of e, List.map_append, List.sum_append, List.map_cons, List.sum_cons, sums0, List.length_take]
  omega
theorem sum_take {N : List (List (Str × Int))} {i : Nat} {l : List (Str × Int)} (e : N[i]? = some l) : ((N.take i).map List.length).sum + l.length ≤ (N.map List.length).sum := by
  have h : (N.map List.length).sum = ((N.take (i + 1)).map List.length).sum + ((N.drop (i + 1)).map List.length).sum := by
    conv => lhs; rw [← List.take_append_drop (i + 1) N, List.map_append, List.sum_append]
  rw [h, List.take_add_one, e, List.map_append, List.sum_append]
  show _ ≤ _ + (l.length + 0) + _
  omega
def partG (G : List Int) (i : Nat) : List Int := G.take i ++ List.replicate (G.length - i) 0
theorem part_len {G : List Int} {i : Nat} (hi : i ≤ G.length) : (partG G i).length = G.length := by
  unfold partG
  rw [List.length_append, List.length_take, List.length_replicate]
  omega
theorem part_give {G : List Int} {i : Nat} {g : Int} (e : G[i]? = some g) : (partG G i).set i ((partG G i).getD i 0 + g) = partG G (i + 1) := by
  obtain ⟨hi, ei⟩ := List.getElem?_eq_some_iff.mp e
  unfold partG
  rw [get_mid hi, Int.zero_add, set_mid hi ei]
theorem part_skip {G : List Int} {i : Nat} (e : G[i]? = some 0) : partG G i = partG G (i + 1) := by
  obtain ⟨hi, ei⟩ := List.getElem?_eq_some_iff.mp e
  unfold partG
  rw [List.take_add_one, e, List.append_assoc, show G.length - i = (G.length - (i + 1)) + 1 by omega, List.replicate_succ]
  rfl
/-- the book on the way: of person i, k notes are put -/
def wayB (zs : List Str) (D : Md) (i k : Nat) : Md := ⟨partG D.given i, zeros zs.length, midN D.notes i k⟩
def wayD (zs : List Str) (D : Md) (i : Nat) : Md := ⟨partG D.given i, zeros zs.length, D.notes.take i ++ List.replicate (D.notes.length - i) []⟩
theorem way_start {zs : List Str} {D : Md} (lg : D.given.length = zs.length) (ln : D.notes.length = zs.length) : newMd zs.length = wayD zs D 0 := by
  unfold wayD newMd partG
  rw [lg, ln]
  rfl
theorem way_end {zs : List Str} {D : Md} (lg : D.given.length = zs.length) (ln : D.notes.length = zs.length) : wayD zs D zs.length = { D with fallen := zeros zs.length } := by
  unfold wayD partG
  rw [lg, ln, Nat.sub_self, ← lg, List.take_length, lg, ← ln, List.take_length]
  show (⟨D.given ++ [], _, D.notes ++ []⟩ : Md) = _
  rw [List.append_nil, List.append_nil, ln]
theorem way_into {zs : List Str} {D : Md} {i : Nat} (hi : i < D.notes.length) : wayD zs D i = wayB zs D i 0 := by
  unfold wayD wayB
  rw [mid_zero hi]
theorem way_put {zs : List Str} {D : Md} {i k : Nat} {l : List (Str × Int)} (e : D.notes[i]? = some l) (hk : k < l.length) : putM (bkOf zs (wayB zs D i k)) i l[k].1 l[k].2 = bkOf zs (wayB zs D i (k + 1)) := by
  show ({ names := zs, gifts := _, stacks := (midN D.notes i k).set i ((midN D.notes i k).getD i [] ++ [l[k]]), drops := _ } : Bk) = _
  rw [mid_put e hk]
  rfl
theorem way_give {zs : List Str} {D : Md} {i : Nat} {l : List (Str × Int)} {g : Int} (e : D.notes[i]? = some l) (eg : D.given[i]? = some g) : giveM (bkOf zs (wayB zs D i l.length)) i g = bkOf zs (wayD zs D (i + 1)) := by
  show ({ names := zs, gifts := (partG D.given i).set i ((partG D.given i).getD i 0 + g), stacks := midN D.notes i l.length, drops := _ } : Bk) = _
  rw [part_give eg, mid_full e]
  rfl
theorem way_skip {zs : List Str} {D : Md} {i : Nat} {l : List (Str × Int)} (e : D.notes[i]? = some l) (eg : D.given[i]? = some 0) : wayB zs D i l.length = wayD zs D (i + 1) := by
  unfold wayB wayD
  rw [part_skip eg, mid_full e]
theorem way_ok {zs : List Str} {D : Md} (g : Gx zs D) {i k : Nat} {l : List (Str × Int)} (e : D.notes[i]? = some l) (hk : k ≤ l.length) : (bkOf zs (wayB zs D i k)).Ok := by
  have hi := (List.getElem?_eq_some_iff.mp e).1
  have ln := g.ln
  have lg := g.lg
  refine ⟨g.nz.n0, g.nz.n1, g.nz.nd, g.nz.nm, ?_, ?_, ?_, ?_⟩
  · show (partG D.given i).length = zs.length
    rw [part_len (by omega), lg]
  · show (midN D.notes i k).length = zs.length
    rw [mid_len hi, ln]
  · show (zeros zs.length).length = zs.length
    exact List.length_replicate
  · show ((midN D.notes i k).map List.length).sum ≤ 60
    rw [mid_sum e hk]
    have := sum_take e
    have := g.my
    omega
theorem way_room {zs : List Str} {D : Md} (g : Gx zs D) {i k : Nat} {l : List (Str × Int)} (e : D.notes[i]? = some l) (hk : k < l.length) : manyM (bkOf zs (wayB zs D i k)) < 60 := by
  show ((midN D.notes i k).map List.length).sum < 60
  rw [mid_sum e (Nat.le_of_lt hk)]
  have := sum_take e
  have := g.my
  omega
/-! ### what is let fall -/
theorem Gx.right {zs : List Str} {D : Md} (g : Gx zs D) (c : CovD zs D) : RightM (bkOf zs { D with fallen := zeros zs.length }) (zs.zip D.fallen) := by
  have h := (g.good.mpr c).rt
  obtain ⟨e1, e2, e3, _⟩ := g.end
  rw [e1, e2, e3] at h
  exact h
theorem Gx.ok0 {zs : List Str} {D : Md} (g : Gx zs D) : (bkOf zs { D with fallen := zeros zs.length }).Ok :=
  ⟨g.nz.n0, g.nz.n1, g.nz.nd, g.nz.nm, g.lg, g.ln, List.length_replicate, g.my⟩
theorem moreK_zip25 : ∀ (zs : List Str) (G : List Int), moreK (zs.zip G) = dct zs (G.map V.int)
  | [], _ => rfl
  | _ :: _, [] => rfl
  | z :: zs, x :: G => by
    show (Sum.inr z, V.int x) :: moreK (zs.zip G) = (Sum.inr z, V.int x) :: dct zs (G.map V.int)
    rw [moreK_zip25 zs G]
/-! ### two more gifts -/
def lateD (D : Md) (j : Nat) : Md := { D with given := (D.given.set j (D.given.getD j 0 + 5)).set 0 ((D.given.set j (D.given.getD j 0 + 5)).getD 0 0 + 3) }
theorem gx_give {zs : List Str} {D : Md} {j : Nat} {n b : Int} (g : Gx zs D) (hj : j < zs.length) (n0 : 0 ≤ n) (hb : ∀ x ∈ D.given, x ≤ b) (h1 : b + n ≤ 100 * 10 ^ 58) : Gx zs { D with given := D.given.set j (D.given.getD j 0 + n) } ∧ ∀ x ∈ D.given.set j (D.given.getD j 0 + n), x ≤ b + n := by
  have hj' : j < D.given.length := by rw [g.lg]; exact hj
  have ej : D.given[j]? = some D.given[j] := List.getElem?_eq_getElem hj'
  have b0 := hb _ (List.getElem_mem hj')
  have g0 := (g.gv _ (List.getElem_mem hj')).1
  have hx : ∀ x ∈ D.given.set j (D.given.getD j 0 + n), 0 ≤ x ∧ x ≤ b + n := fun x hx => by
    rcases List.mem_or_eq_of_mem_set hx with hx | rfl
    · have h1 := (g.gv x hx).1
      have h2 := hb x hx
      omega
    · rw [getD_of ej]
      omega
  exact ⟨⟨g.nz, g.nt, fun x h => ⟨(hx x h).1, Int.le_trans (hx x h).2 h1⟩, g.fl, g.my, by show (D.given.set _ _).length = _; rw [List.length_set]; exact g.lg, g.lf, g.ln⟩, fun x h => (hx x h).2⟩
/-- more cash does not harm -/
theorem cov_give {zs : List Str} {D : Md} {j : Nat} {n : Int} (c : CovD zs D) (hj : j < D.given.length) (n0 : 0 ≤ n) : CovD zs { D with given := D.given.set j (D.given.getD j 0 + n) } := by
  refine ⟨c.1, fun k z ez => ?_⟩
  have h := c.2 k z ez
  rw [cash_eq] at h ⊢
  have h : 0 ≤ D.given.getD k 0 - D.fallen.getD k 0 + sumsD D z := h
  show 0 ≤ (D.given.set j (D.given.getD j 0 + n)).getD k 0 - D.fallen.getD k 0 + sumsD D z
  have e : (D.given.set j (D.given.getD j 0 + n)).getD k 0 = D.given.getD k 0 + (if j = k then n else 0) := by
    by_cases hk : j = k
    · subst hk
      rw [if_pos rfl, getD_of (List.getElem?_set_self hj)]
    · rw [if_neg hk, List.getD_eq_getElem?_getD, List.getElem?_set_ne hk, Int.add_zero, ← List.getD_eq_getElem?_getD]
  rw [e]
  split <;> omega
theorem late_ne {D : Md} {j : Nat} (hj : j < D.given.length) : (lateD D j).given ≠ D.given := fun e => by
  have h : ((D.given.set j (D.given.getD j 0 + 5)).set 0 ((D.given.set j (D.given.getD j 0 + 5)).getD 0 0 + 3))[0]? = D.given[0]? := congrArg (fun l : List Int => l[0]?) e
  have l0 : 0 < (D.given.set j (D.given.getD j 0 + 5)).length := by rw [List.length_set]; omega
  rw [List.getElem?_set_self l0] at h
  have h0 : D.given[0]? = some D.given[0] := List.getElem?_eq_getElem (by omega)
  rw [h0] at h
  have h := Option.some.inj h
  by_cases hk : j = 0
  · subst hk
    rw [getD_of (List.getElem?_set_self hj), getD_of h0] at h
    omega
  · have e0 : (D.given.set j (D.given.getD j 0 + 5)).getD 0 0 = D.given[0] := getD_of (by rw [List.getElem?_set_ne hk]; exact h0)
    rw [e0] at h
    omega
theorem text_ne {zs : List Str} {D E : Md} (g : Gx zs D) (g' : Gx zs E) (h : D.given ≠ E.given) : S (textL (rowsOf zs D)) ≠ S (textL (rowsOf zs E)) := fun e => by
  have er := textL_inj g.ok.1 g'.ok.1 e
  have f := fold_all g.nz.nd g.lg g.lf g.ln (fun x hx => (g.gv x hx).1)
  have f' := fold_all g'.nz.nd g'.lg g'.lf g'.ln (fun x hx => (g'.gv x hx).1)
  have h1 : ({ D with fallen := zeros zs.length } : Md) = { E with fallen := zeros zs.length } := by rw [← f.1, ← f'.1, er]
  exact h (Md.mk.inj h1).1
end Rc

namespace Rc
open PySem PySem.Spec PyProof.Rows L2 RZ
open SX (S split_S join_S num_S int_S S_len S_cat)
section
variable {P : Program} {w : World} {K : PySem.W.Frag} {mg : Str → Option Value} {base : Heap}
/-! ### _law_text_right -/
abbrev sLTr : Stmt := topS 62
abbrev nLTr : List Str := ["_law_model_here", "_law_text_here", "_law_told", "_law_other", "_law_made", "_law_who", "_law_to", "_law_amount_here", "_law_later"]
theorem scLTr : FnScope nLTr ["_law_model_here"] (defScope sLTr) := ⟨rfl, rfl, rfl, by decide +kernel, rfl, by decide +kernel, by decide +kernel⟩
def spLTr (K : PySem.W.Frag) : Sp := fun vs H Q _ => ∃ (a : MdA) (D : Md) (zs : List Str), vs = [.ref a.m] ∧ ModelAt K H zs a D ∧ Gx zs D ∧ (∀ g ∈ D.given, g ≤ 20 * 10 ^ 58) ∧ ∀ H', Same H H' → Q (.bl true) H'
set_option maxHeartbeats 4000000 in
theorem ok_ltr {f f1 f2 f3 f4 f5 f6 f7 f8 f9 fI C : Addr} {fd fd1 fd2 fd3 fd4 fd5 fd6 fd7 fd8 fd9 fdI : FuncData} (F : Fun K "_law_text_right" "_law_text_right" sLTr f fd) (B : Blt mg) (B2 : Blt2 mg) (B3 : Blt3 mg) (T : ClsF K C) (TE : ClsE K C) (gC : mg "Book" = some (.ref C)) (TX : Has P w K mg base 1 "_law_text" ["_law_model_here"] (spLTx K) f1 fd1)
    (RD : Has P w K mg base 10 "_law_read" ["_law_text_here"] (spLRd K C) f2 fd2) (CO : Has P w K mg base 3 "_law_is_covered" ["_law_model_here"] (spLCo K) f3 fd3) (AL : HasG P w K mg base 6 "_law_alike" ["_law_model_here", "_law_book"] (spLAl K C) f4 fd4)
    (BT : Has P w K mg base 6 "book_text" ["book"] (spBtx K C) f5 fd5) (PU : HasM P w K mg base C 6 "put" ["self", "who", "to", "amount"] (spPut K C) f6 fd6) (GV : HasM P w K mg base C 6 "give" ["self", "who", "amount"] (spGive K C) f7 fd7)
    (LF : HasM P w K mg base C 7 "let_fall" ["self", "more"] (spLetT K C) f8 fd8) (EQ : HasM P w K mg base C 2 "__eq__" ["self", "other"] (spEqB K C) f9 fd9)
    (M : Mk K C fI) (GI : FnOk P w K mg base CX0 3 fI fdI ["self", "persons"] (spInit K C)) (bI : Binds K fdI ["self", "persons"] []) : FnG P w K mg base CX0 11 f fd ["_law_model_here"] (spLTr K) := by
  refine okG0 F scLTr (fun vs H Q E h => ?_) (fun cdv Ar outer s H vs Q E0 hr hg h => ?_)
  · obtain ⟨_, _, _, rfl, _⟩ := h
    rfl
  · obtain ⟨a, D, zs, rfl, hM, g, g20, q⟩ := h
    have hu := hu_of hr
    have hr1 := hr.mono (show 1 ≤ 10 by decide)
    have hr2 := hr.mono (show 2 ≤ 10 by decide)
    have hr3 := hr.mono (show 3 ≤ 10 by decide)
    have hr4 := hr.mono (show 4 ≤ 10 by decide)
    have hr6 := hr.mono (show 6 ≤ 10 by decide)
    have hr7 := hr.mono (show 7 ≤ 10 by decide)
    refine ⟨_, (pss_cons (ps_set (i := 1) scLTr.nd rfl (.inl rfl) (pe_call TX.ok hr1 (by rfl) TX.g TX.kp TX.b .nil pass0 (pa_cons (pv 0) pa_nil))) (pss_cons (ps_set (i := 2) scLTr.nd rfl (.inl rfl) (pe_call RD.ok hr (by rfl) RD.g RD.kp RD.b .nil pass0 (pa_cons (pv 1) pa_nil))) (pss_cons (ps_if (pt_not (pt_val (pe_call CO.ok hr3 (by rfl) CO.g CO.kp CO.b .nil pass0 (pa_cons (pv 0) pa_nil)))) (pss_one (ps_ret (pe_cmpR op_eq (pe_callB (call_repr hr hg) (by rfl) B2.repr (by decide +kernel) (pa_cons (pv 2) pa_nil)) pe_str (nomark _)))) pss_nil) (pss_cons (ps_if (PW.pt (pw_or (pt_not (pt_val (pe_callB call_isi (by rfl) B.isi (by decide +kernel) (pa_cons (pv 2) (pa_cons (pe_glob (v := .ref C) (by rfl) gC rfl) pa_nil))))) (pw_or (pt_not (pt_val (pe_callG AL.ok hr6 hg (by rfl) AL.g AL.kp AL.b .nil pass0 (pa_cons (pv 0) (pa_cons (pv 2) pa_nil))))) (pw_or1 (pt_cmpR op_ne (pe_call BT.ok hr6 (by rfl) BT.g BT.kp BT.b .nil pass0 (pa_cons (pv 2) pa_nil)) (pv 1) (nomark _)))))) (pss_one (ps_ret pe_bl)) pss_nil) (pss_cons (ps_set (i := 3) scLTr.nd rfl (.inl rfl) (pe_call RD.ok hr (by rfl) RD.g RD.kp RD.b .nil pass0 (pa_cons (pv 1) pa_nil))) (pss_cons (ps_set (i := 4) scLTr.nd rfl (.inl rfl) (pe_make M GI hr4 (by rfl) gC bI .nil pass0 (pa_cons (pe_callTy (call_listS rfl) (by rfl) B3.list (by decide +kernel) (pa_cons (pe_dget hu (pv 0) pe_str (fun _ _ => rfl)) pa_nil)) pa_nil))) (pss_cons (ps_for PassesOwn.never rfl (pi_list (pe_dget hu (pv 0) pe_str (fun _ _ => rfl))) (pg_name (i := 5) scLTr.nd rfl (.inl rfl)) (pss_cons (ps_for PassesOwn.never rfl (pi_list (pe_dget hu (pe_dget hu (pv 0) pe_str (fun _ _ => rfl)) (pv 5) (fun _ _ => rfl))) (pg_tup rfl (pgs_cons (pg_name (i := 6) scLTr.nd rfl (.inl rfl)) (pgs_cons (pg_name (i := 7) scLTr.nd rfl (.inl rfl)) pgs_nil))) (pss_one (ps_set (i := 4) scLTr.nd rfl (.inl rfl) (pe_meth (pv 4) T.cl PU.m PU.ok hr6 PU.b .nil pass0 (pa_cons (pv 5) (pa_cons (pv 6) (pa_cons (pv 7) pa_nil))))))) (pss_one (ps_if (pt_cmpR op_gt (pe_dget hu (pe_dget hu (pv 0) pe_str (fun _ _ => rfl)) (pv 5) (fun _ _ => rfl)) pe_int (nomark _)) (pss_one (ps_set (i := 4) scLTr.nd rfl (.inl rfl) (pe_meth (pv 4) T.cl GV.m GV.ok hr6 GV.b .nil pass0 (pa_cons (pv 5) (pa_cons (pe_dget hu (pe_dget hu (pv 0) pe_str (fun _ _ => rfl)) (pv 5) (fun _ _ => rfl)) pa_nil))))) pss_nil)))) (pss_cons (ps_set (i := 4) scLTr.nd rfl (.inl rfl) (pe_meth (pv 4) T.cl LF.m LF.ok hr7 LF.b .nil pass0 (pa_cons (pe_callTy call_dictD (by rfl) B3.dict (by decide +kernel) (pa_cons (pe_dget hu (pv 0) pe_str (fun _ _ => rfl)) pa_nil)) pa_nil))) (pss_cons (ps_if (PW.pt (pw_or (pt_not (pt_cmpR (op_eqB1 rfl EQ.ok EQ.b EQ.m hr2) (pv 4) (pv 2) (nomark _))) (pw_or (pt_not (pt_cmpR (op_eqB1 rfl EQ.ok EQ.b EQ.m hr2) (pv 2) (pv 4) (nomark _))) (pw_or1 (pt_cmpR op_ne (pe_call BT.ok hr6 (by rfl) BT.g BT.kp BT.b .nil pass0 (pa_cons (pv 4) pa_nil)) (pv 1) (nomark _)))))) (pss_one (ps_ret pe_bl)) pss_nil) (pss_cons (ps_set (i := 5) scLTr.nd rfl (.inl rfl) (pe_ix ix_list (pe_dget hu (pv 0) pe_str (fun _ _ => rfl)) (pe_un un_neg pe_int) (fun _ _ => rfl))) (pss_cons (ps_set (i := 8) scLTr.nd rfl (.inl rfl) (pe_meth (pe_meth (pv 2) T.cl GV.m GV.ok hr6 GV.b .nil pass0 (pa_cons (pv 5) (pa_cons pe_int pa_nil))) T.cl GV.m GV.ok hr6 GV.b .nil pass0 (pa_cons (pe_ix ix_list (pe_dget hu (pv 0) pe_str (fun _ _ => rfl)) pe_int (fun _ _ => rfl)) (pa_cons pe_int pa_nil)))) (pss_one (ps_ret (pe_and (pe_cmpR (op_eqB1 rfl EQ.ok EQ.b EQ.m hr2) (pv 3) (pv 2) (nomark _)) (pe_and (pe_callG AL.ok hr6 hg (by rfl) AL.g AL.kp AL.b .nil pass0 (pa_cons (pv 0) (pa_cons (pv 2) pa_nil))) (pe_and (pe_cmpR op_ne (pe_call BT.ok hr6 (by rfl) BT.g BT.kp BT.b .nil pass0 (pa_cons (pv 8) pa_nil)) (pv 1) (nomark _)) (pe_one (pe_cmpR op_eq (pe_call BT.ok hr6 (by rfl) BT.g BT.kp BT.b .nil pass0 (pa_cons (pv 2) pa_nil)) (pv 1) (nomark _))))))))))))))))))), ?_⟩
    have nz := g.nz
    have n12 := nz.n1
    have n0 := nz.n0
    have lz : (zs.map V.str).length = zs.length := List.length_map ..
    have hX : ∃ X, X = S (textL (rowsOf zs D)) := ⟨_, rfl⟩
    obtain ⟨X, eX⟩ := hX
    refine ⟨.ref a.m, rfl, a, D, zs, rfl, hM, g, fun H1 s1 => ?_⟩
    rw [← eX]
    refine ⟨.str X, rfl, rowsOf zs D, by rw [eX]; rfl, g.ok.1, g.ok.2, fun gr b H2 s2 nb hb => ?_, fun ng H2 s2 => ?_⟩
    case refine_2 =>
      have s12 := s1.trans s2
      refine ⟨.ref a.m, rfl, a, D, zs, rfl, model_same hM s12, g, fun c H3 s3 hc => ⟨_, rfl, ?_⟩⟩
      have ec : c = false := by
        cases c with
        | false => rfl
        | true => exact absurd (g.good.mpr (hc.mp rfl)) ng
      subst ec
      have nt := nice_int (big_of (i := 0) (by decide) (by decide))
      refine iteT ⟨.int 0, rfl, .int 0, .int 0, rfl, .int 0, nt.sh, .inl nt.nd, by decide, nice_fits nt (by decide), rfl, ?_⟩
      rw [decide_eq_true (show V.str (PyData.int 0).shown = V.str "0" by decide +kernel)]
      exact q H3 (s12.trans s3)
    obtain ⟨e1, e2, e3, e4⟩ := g.end
    have hb : BookAt K C H2 b (bkOf zs D) := by rw [← e4]; exact hb
    have cov : CovD zs D := g.good.mp gr
    obtain ⟨gs, gb⟩ := g.gs cov
    have sm : SmD D := fun x hx => Int.lt_of_le_of_lt (g20 x hx) (by decide)
    have s12 := s1.trans s2
    refine ⟨.ref a.m, rfl, a, D, zs, rfl, model_same hM s12, g, fun c H3 s3 hc => ⟨_, rfl, ?_⟩⟩
    obtain rfl : c = true := hc.mpr cov
    refine iteF ?_
    have hb3 := book_same hb s3
    have s13 := s12.trans s3
    have kt : PySem.W.kitOne K (.ref C) (.ref C) = some true := by
      unfold PySem.W.kitOne
      rw [if_pos (by simp)]
    obtain ⟨dx2, tn2, on2, wg2, ws2, wd2, ee2, _⟩ := hb3.ex
    refine ⟨.ref b, rfl, .ref b, .ref C, .ref C, .ref C, true, rfl, .own C, .base (.ins ee2 T.cl TE.ha TE.hn TE.htk TE.hm), kt, _, rfl, iteF ?_⟩
    refine ⟨.ref a.m, rfl, .ref b, rfl, a, D, zs, b, rfl, model_same hM s13, hb3, gs, gb, fun H4 s4 => ⟨_, rfl, iteF ?_⟩⟩
    have hb4 := book_same hb3 s4
    refine ⟨.ref b, rfl, b, D, zs, rfl, hb4, gs, gb, sm, fun H5 s5 => ?_⟩
    rw [← eX]
    refine ⟨.str X, rfl, rfl, _, rfl, ?_⟩
    rw [decide_eq_true rfl]
    refine iteF ?_
    have hb5 := book_same hb4 s5
    have s15 := s13.trans (s4.trans s5)
    refine ⟨.str X, rfl, rowsOf zs D, by rw [eX]; rfl, g.ok.1, g.ok.2, fun _ o H6 s6 no ho => ?_, fun ng => absurd gr ng⟩
    have ho : BookAt K C H6 o (bkOf zs D) := by rw [← e4]; exact ho
    have hb6 := book_same hb5 s6
    have s16 := s15.trans s6
    have hM6 := model_same hM s16
    -- made
    refine ⟨.ref a.m, rfl, a.m, .ref a.lo, rfl, hM6.g0, a.lo, _, rfl, .inl (.inl (.inl hM6.ho)), fun l2 nl2 => ?_⟩
    have s7 := same_upd (o := .lst (zs.map V.str)) nl2
    have hl2 : upd H6 l2 (.lst (zs.map V.str)) l2 = some (.lst (zs.map V.str)) := upd_same
    generalize upd H6 l2 (.lst (zs.map V.str)) = H7 at s7 hl2
    refine fun x dy nx ndy nxy => ?_
    have s8 : Same H7 (upd (upd H7 dy (.own x)) x (.ins C dy [])) := fun c o e => by
      rw [upd_ne (ne_of_none e nx), upd_ne (ne_of_none e ndy)]
      exact e
    refine ⟨x, dy, l2, zs, rfl, upd_same, s8 _ _ hl2, nz, fun H9 b9 bk => ⟨rfl, ?_⟩⟩
    have s79 : Same H7 H9 := fun c o e => b9 c o (ne_of_none e nx) (s8 c o e)
    have bk : BookAt K C H9 x (bkOf zs (newMd zs.length)) := bk
    rw [way_start (D := D) g.lg g.ln] at bk
    have s69 := s7.trans s79
    have s19 := s16.trans s69
    have hM9 := model_same hM6 s69
    have hb9 := book_same hb6 s69
    have ho9 := book_same ho s69
    refine ⟨.ref a.m, rfl, a.m, .ref a.lo, rfl, hM9.g0, a.lo, rfl, ⟨_, .inl (.inl hM9.ho)⟩, ?_⟩
    refine for_it (walk_list (K := K) (a := a.lo) (xs := zs.map V.str)) (fun i σ H' => ∃ m y5 y6 y7, σ = [some (.ref a.m), some (.str X), some (.ref b), some (.ref o), some (.ref m), y5, y6, y7, none] ∧ Same H9 H' ∧ BookAt K C H' m (bkOf zs (wayD zs D i)))
      ⟨x, _, _, _, rfl, Same.refl _, bk⟩ (fun i σ H' _ hP => ?_) (fun i xx σ H10' H10 hi hP hY => ?_) (fun σ H10 hP => ?_)
    · obtain ⟨_, _, _, _, _, s10, _⟩ := hP
      exact .inl (.inl (s10 _ _ hM9.ho))
    · obtain ⟨rfl, hx⟩ := hY
      obtain ⟨m, y5, y6, y7, rfl, s10, hm⟩ := hP
      rw [lz] at hi
      have ej : zs[i]? = some zs[i] := List.getElem?_eq_getElem hi
      have ex : xx = .str zs[i] := by
        rw [List.getElem?_map, ej] at hx
        exact (Option.some.inj hx).symm
      subst ex
      generalize zs[i] = z at ej
      have hM10 := model_same hM9 s10
      obtain ⟨gv, f', l, r, xs, eg, ef, el, er, hr0, dr0⟩ := hM10.at_ ej
      have hin : i < D.notes.length := by rw [g.ln]; exact hi
      have lx : xs.length = l.length := by
        rw [dr0.len]
        unfold notesD
        rw [List.length_map]
      have gv0 := (g.gv gv (List.mem_of_getElem? eg)).1
      rw [way_into hin] at hm
      refine ⟨.ref a.m, rfl, a.m, .ref a.dn, rfl, hM10.g3, .str z, rfl, a.dn, .ref r, rfl, hM10.gn ej er, r, rfl, ⟨_, .inl (.inl hr0)⟩, ?_⟩
      refine for_it (walk_list (K := K) (a := r) (xs := xs)) (fun k σ H' => ∃ m y6 y7, σ = [some (.ref a.m), some (.str X), some (.ref b), some (.ref o), some (.ref m), some (.str z), y6, y7, none] ∧ Same H10 H' ∧ BookAt K C H' m (bkOf zs (wayB zs D i k)))
        ⟨m, _, _, rfl, Same.refl _, hm⟩ (fun k σ H' _ hP => ?_) (fun k xy σ H11' H11 hk hP hY => ?_) (fun σ H11 hP => ?_)
      · obtain ⟨_, _, _, _, s11, _⟩ := hP
        exact .inl (.inl (s11 _ _ hr0))
      · obtain ⟨rfl, hx⟩ := hY
        obtain ⟨m, y6, y7, rfl, s11, hm⟩ := hP
        obtain ⟨hkl, dn⟩ := (DtAll.same s11 _ dr0).notes_get hx
        obtain ⟨na, rfl, qn⟩ := note_inv dn
        obtain ⟨nz1, nz2, nz3⟩ := g.nt l (List.mem_of_getElem? el) _ (List.getElem_mem hkl)
        obtain ⟨dx, tn, on, wg, ws, wd, e, _⟩ := hm.ex
        refine ⟨na, _, rfl, qn, rfl, _, _, rfl, _, _, rfl, rfl, ?_⟩
        refine ⟨.ref m, rfl, m, dx, _, rfl, e, bf_no (NoF.mk' (by decide +kernel)), .str z, rfl, _, rfl, _, rfl, m, _, z, _, i, zs.idxOf l[k].1, l[k].2, rfl, hm, way_ok g el (Nat.le_of_lt hkl), ej, idx_get nz1, nz2, way_room g el hkl, fun m2 H12 s12' nm2 hm2 => ?_⟩
        rw [way_put el hkl] at hm2
        exact ⟨m2, _, _, rfl, s11.trans s12', hm2⟩
      · obtain ⟨m, y6, y7, rfl, s11, hm⟩ := hP
        rw [lx] at hm
        have hM11 := model_same hM10 s11
        refine ⟨.ref a.m, rfl, a.m, .ref a.dg, rfl, hM11.g1, .str z, rfl, a.dg, .int gv, rfl, hM11.gg ej eg, _, _, rfl, rfl, _, rfl, ?_⟩
        by_cases c : gv > 0
        · rw [decide_eq_true c]
          obtain ⟨dx, tn, on, wg, ws, wd, e, _⟩ := hm.ex
          refine iteT ⟨.ref m, rfl, m, dx, _, rfl, e, bf_no (NoF.mk' (by decide +kernel)), .str z, rfl, .ref a.m, rfl, a.m, .ref a.dg, rfl, hM11.g1, .str z, rfl, a.dg, .int gv, rfl, hM11.gg ej eg, m, _, z, i, gv, rfl, hm, way_ok g el (Nat.le_refl _), ej, by omega, fun m2 H12 s12' nm2 hm2 => ?_⟩
          rw [way_give el eg] at hm2
          exact ⟨m2, _, _, _, rfl, s10.trans (s11.trans s12'), hm2⟩
        · rw [decide_eq_false c]
          obtain rfl : gv = 0 := by omega
          rw [way_skip el eg] at hm
          exact iteF ⟨m, _, _, _, rfl, s10.trans s11, hm⟩
    obtain ⟨m, y5, y6, y7, rfl, s10, hm⟩ := hP
    rw [lz, way_end g.lg g.ln] at hm
    have s110 := s19.trans s10
    have hM10 := model_same hM9 s10
    have hb10 := book_same hb9 s10
    have ho10 := book_same ho9 s10
    obtain ⟨dx, tn, on, wg, ws, wd, e, _⟩ := hm.ex
    refine ⟨.ref m, rfl, m, dx, _, rfl, e, bf_no (NoF.mk' (by decide +kernel)), .ref a.m, rfl, a.m, .ref a.df, rfl, hM10.g2, a.df, _, rfl, .inl hM10.hf, fun dd ndd => ?_⟩
    have s11 := same_upd (o := .dK (dct zs (D.fallen.map V.int))) ndd
    have hdd : upd H10 dd (.dK (dct zs (D.fallen.map V.int))) dd = some (.dK (dct zs (D.fallen.map V.int))) := upd_same
    generalize upd H10 dd (.dK (dct zs (D.fallen.map V.int))) = H11 at s11 hdd
    have bk := g.back
    refine ⟨m, dd, _, zs.zip D.fallen, rfl, book_same hm s11, g.ok0, by rw [moreK_zip25]; exact hdd, g.right cov, fun j z ez => by rw [bk]; exact cov.2 j z ez, fun m2 H12 s12' nm2 hm2 => ?_⟩
    rw [bk] at hm2
    have s1012 := s11.trans s12'
    have hM12 := model_same hM10 s1012
    have hb12 := book_same hb10 s1012
    have ho12 := book_same ho10 s1012
    have s112 := s110.trans s1012
    refine ⟨.ref m2, rfl, .ref b, rfl, m2, b, _, rfl, rfl, hm2, hb12, gs.key, fun H13 s13' => ⟨_, rfl, iteF ?_⟩⟩
    have hm13 := book_same hm2 s13'
    have hb13 := book_same hb12 s13'
    refine ⟨.ref b, rfl, .ref m2, rfl, b, m2, _, rfl, rfl, hb13, hm13, gs.key, fun H14 s14 => ⟨_, rfl, iteF ?_⟩⟩
    have hm14 := book_same hm13 s14
    have hb14 := book_same hb13 s14
    refine ⟨.ref m2, rfl, m2, D, zs, rfl, hm14, gs, gb, sm, fun H15 s15' => ?_⟩
    rw [← eX]
    refine ⟨.str X, rfl, rfl, _, rfl, ?_⟩
    rw [decide_eq_true rfl]
    refine iteF ?_
    have s1215 := s13'.trans (s14.trans s15')
    have s115 := s112.trans s1215
    have hM15 := model_same hM12 s1215
    have hb15 := book_same hb12 s1215
    have ho15 := book_same ho12 s1215
    have hlt : zs.length - 1 < zs.length := by omega
    have ezl : zs[zs.length - 1]? = some zs[zs.length - 1] := List.getElem?_eq_getElem hlt
    have ez0 : zs[0]? = some zs[0] := List.getElem?_eq_getElem n0
    have es : zs.map V.str = (zs.take (zs.length - 1)).map V.str ++ [V.str zs[zs.length - 1]] := by
      conv => lhs; rw [show zs = zs.take (zs.length - 1 + 1) by rw [Nat.sub_add_cancel n0, List.take_length], take_succ hlt, List.map_append]
      rfl
    refine ⟨.ref a.m, rfl, a.m, .ref a.lo, rfl, hM15.g0, _, rfl, a.lo, _, -1, .str zs[zs.length - 1], rfl, rfl, .inl (.inl hM15.ho), by rw [es]; exact atI_last _ _, ?_⟩
    obtain ⟨dx5, tn5, on5, wg5, ws5, wd5, e5, _⟩ := hb15.ex
    have g25 : ∀ x ∈ D.given, x ≤ 20 * 10 ^ 58 := g20
    obtain ⟨gA, bA⟩ := gx_give g hlt (show (0 : Int) ≤ 5 by decide) g25 (by decide)
    have lgl : zs.length - 1 < D.given.length := by rw [g.lg]; exact hlt
    have cA := cov_give (n := 5) cov lgl (by decide)
    obtain ⟨gB, bB⟩ := gx_give gA n0 (show (0 : Int) ≤ 3 by decide) bA (by decide)
    have cB := cov_give (n := 3) cA (j := 0) (by show 0 < (D.given.set _ _).length; rw [List.length_set, g.lg]; exact n0) (by decide)
    obtain ⟨gsB, gbB⟩ := gB.gs cB
    have smB : SmD (lateD D (zs.length - 1)) := fun x hx => Int.lt_of_le_of_lt (bB x hx) (by decide)
    have okA := (gA.gs cA).1.ok
    refine ⟨.ref b, rfl, b, dx5, _, rfl, e5, bf_no (NoF.mk' (by decide +kernel)), .str zs[zs.length - 1], rfl, b, _, _, zs.length - 1, 5, rfl, hb15, gs.ok, ezl, by decide, fun t1 H16 s16' nt1 ht1 => ?_⟩
    obtain ⟨dx6, tn6, on6, wg6, ws6, wd6, e6, _⟩ := ht1.ex
    have hM16 := model_same hM15 s16'
    refine ⟨t1, dx6, _, rfl, e6, bf_no (NoF.mk' (by decide +kernel)), .ref a.m, rfl, a.m, .ref a.lo, rfl, hM16.g0, a.lo, _, 0, .str zs[0], rfl, rfl, .inl (.inl hM16.ho), atI_nat (j := 0) (map_get ez0), t1, _, zs[0], 0, 3, rfl, ht1, okA, ez0, by decide, fun t2 H17 s17 nt2 ht2 => ?_⟩
    have ht2 : BookAt K C H17 t2 (bkOf zs (lateD D (zs.length - 1))) := ht2
    have s1517 := s16'.trans s17
    have hM17 := model_same hM15 s1517
    have hb17 := book_same hb15 s1517
    have ho17 := book_same ho15 s1517
    have s117 := s115.trans s1517
    refine ⟨.ref o, rfl, .ref b, rfl, o, b, _, rfl, rfl, ho17, hb17, gs.key, fun H18 s18 => ⟨_, rfl, iteT ?_⟩⟩
    have hM18 := model_same hM17 s18
    have hb18 := book_same hb17 s18
    have ht18 := book_same ht2 s18
    refine ⟨.ref a.m, rfl, .ref b, rfl, a, D, zs, b, rfl, hM18, hb18, gs, gb, fun H19 s19' => ⟨_, rfl, iteT ?_⟩⟩
    have hb19 := book_same hb18 s19'
    have ht19 := book_same ht18 s19'
    refine ⟨.ref t2, rfl, t2, _, zs, rfl, ht19, gsB, gbB, smB, fun H20 s20 => ?_⟩
    have hb20 := book_same hb19 s20
    have gB' : Gx zs (lateD D (zs.length - 1)) := gB
    have ne := text_ne g gB' (fun e => late_ne lgl e.symm)
    rw [← eX] at ne
    refine ⟨.str X, rfl, rfl, _, rfl, ?_⟩
    rw [decide_eq_false (fun e => ne (V.str.inj e).symm)]
    refine iteT ⟨.ref b, rfl, b, D, zs, rfl, hb20, gs, gb, sm, fun H21 s21 => ?_⟩
    rw [← eX]
    refine ⟨.str X, rfl, rfl, ?_⟩
    rw [decide_eq_true rfl]
    exact q H21 (s117.trans (s18.trans (s19'.trans (s20.trans s21))))
end
end Rc

namespace Rc
open PySem PySem.Spec PyProof.Rows L2 RZ
/-! ### what stands in a round of the law -/
theorem MdA.hasF25 (a : MdA) : a.Has a.df := .inr (.inr (.inr (.inl rfl)))
structure S25 (K : PySem.W.Frag) (H1 H : Hp) (zs : List Str) (p nl : Addr) (a : MdA) (D : Md) : Prop where
  hp : Pot H p
  hM : ModelAt K H zs a D
  hn : H nl = some (.lst (zs.map V.str))
  s : Same H1 H
  np : H1 p = none
  na : ∀ c, a.Has c → H1 c = none
  nap : ¬ a.Has p
  nlp : nl ≠ p
  nla : ¬ a.Has nl
section
variable {K : PySem.W.Frag} {H1 H H' : Hp} {zs : List Str} {p nl : Addr} {a : MdA} {D E : Md}
theorem S25.mv (x : S25 K H1 H zs p nl a D) (k : ∀ c o, c ≠ p → ¬ a.Has c → H c = some o → H' c = some o) (hp : Pot H' p) (hM : ModelAt K H' zs a E) : S25 K H1 H' zs p nl a E :=
  ⟨hp, hM, k _ _ x.nlp x.nla x.hn, fun c o e => k c o (ne_of_none e x.np) (fun h => by rw [x.na c h] at e; cases e) (x.s c o e), x.np, x.na, x.nap, x.nlp, x.nla⟩
theorem S25.same (x : S25 K H1 H zs p nl a D) (s : Same H H') : S25 K H1 H' zs p nl a D := x.mv (fun c o _ _ e => s c o e) (x.hp.same s) (model_same x.hM s)
theorem S25.but (x : S25 K H1 H zs p nl a D) (b : But p H H') (hp : Pot H' p) : S25 K H1 H' zs p nl a D := x.mv (fun c o n _ e => b c o n e) hp (model_but x.hM b x.hp x.nap)
theorem S25.but2 (x : S25 K H1 H zs p nl a D) (b : But2 p a.df H H') (hp : Pot H' p) (hM : ModelAt K H' zs a E) : S25 K H1 H' zs p nl a E := x.mv (fun c o n n2 e => b c o n (fun z => n2 (z ▸ a.hasF25)) e) hp hM
theorem S25.butF (x : S25 K H1 H zs p nl a D) (b : But a.df H H') (hM : ModelAt K H' zs a E) : S25 K H1 H' zs p nl a E :=
  x.mv (fun c o _ n2 e => b c o (fun z => n2 (z ▸ a.hasF25)) e) (x.hp.but b (fun z => x.nap (z ▸ a.hasF25))) hM
theorem gd_gx {k : Nat} (h : Gd zs D k) (nz : NamesOk zs) (lg : D.given.length = zs.length) (ln : D.notes.length = zs.length) (hk : k ≤ 20) : Gx zs D ∧ ∀ g ∈ D.given, g ≤ 20 * 10 ^ 58 := by
  have kk : (k : Int) * 10 ^ 58 ≤ 20 * 10 ^ 58 := Int.mul_le_mul_of_nonneg_right (by omega) (by decide)
  have k2 : (20 : Int) * 10 ^ 58 ≤ 100 * 10 ^ 58 := by decide
  refine ⟨⟨nz, h.nt, fun g hg => ⟨(h.gv g hg).1, Int.le_trans (h.gv g hg).2 (Int.le_trans kk k2)⟩, fun f hf => ?_, Nat.le_trans h.my h.k1, lg, ?_, ln⟩, fun g hg => Int.le_trans (h.gv g hg).2 kk⟩
  · rw [h.zf] at hf
    unfold zeros at hf
    rw [List.eq_of_mem_replicate hf]
    exact ⟨by decide, by decide⟩
  · rw [h.zf]
    exact List.length_replicate
/-- one more fallen than all notes -/
def overD (zs : List Str) (D : Md) (l : List (Str × Int)) : Md := { D with fallen := (zeros zs.length).set 0 (wholeN l + 1) }
theorem over_gx {l : List (Str × Int)} (g : Gx zs D) (el : D.notes[0]? = some l) : Gx zs (overD zs D l) := by
  have w := g.wholeB (List.mem_of_getElem? el)
  refine ⟨g.nz, g.nt, g.gv, fun f hf => ?_, g.my, g.lg, ?_, g.ln⟩
  · rcases List.mem_or_eq_of_mem_set hf with h | rfl
    · unfold zeros at h
      rw [List.eq_of_mem_replicate h]
      exact ⟨by decide, by decide⟩
    · have : (60 : Int) * 10 ^ 58 + 1 ≤ 6000 * 10 ^ 58 := by decide
      exact ⟨by omega, by omega⟩
  · show ((zeros zs.length).set 0 _).length = _
    rw [List.length_set]
    exact List.length_replicate
theorem over_bad {l : List (Str × Int)} (g : Gx zs D) (el : D.notes[0]? = some l) : ¬ GoodRows (rowsOf zs (overD zs D l)) := fun h => by
  have c := (over_gx g el).good.mp h
  have hl : 0 < (zeros zs.length).length := by
    unfold zeros
    rw [List.length_replicate]
    exact g.nz.n0
  have := c.1 0 l (wholeN l + 1) el (by show ((zeros zs.length).set 0 _)[0]? = _; exact List.getElem?_set_self hl)
  omega
theorem crowd_len (zs : List Str) (m : Nat) (hn : 0 < zs.length) : (crowdN zs m zs.length).length = zs.length + m := by
  have ln : (crowdD zs m).notes.length = zs.length := by
    show ((List.range zs.length).map _).length = _
    rw [List.length_map, List.length_range]
  have lz : (zeros zs.length).length = zs.length := by
    unfold zeros
    exact List.length_replicate
  obtain ⟨_, _, h3, _⟩ := rowsN_facts (D := crowdD zs m) lz lz ln zs.length (Nat.le_refl _)
  rw [crowd_rows]
  unfold rowsOf
  rw [h3, show (crowdD zs m).notes.take zs.length = (crowdD zs m).notes by rw [← ln, List.take_length]]
  rw [crowd_notes zs m hn]
/-- another dict of what has fallen -/
theorem model_newF {d : Addr} {G : List Int} (hM : ModelAt K H zs a D) (n0 : 1 ≤ zs.length) (k : ∀ c o, c ≠ a.m → H c = some o → H' c = some o) (hm : H' a.m = some (.dK (dct keysM [.ref a.lo, .ref a.dg, .ref d, .ref a.dn]))) (hd : H' d = some (.dK (dct zs (G.map V.int)))) (nd : H d = none) (lG : G.length = zs.length) :
    ModelAt K H' zs { a with df := d } { D with fallen := G } := by
  have ne : ∀ {c : Addr} {o : HO}, H c = some o → c ≠ d := fun {c o} e z => by
    rw [z, nd] at e
    cases e
  have lne : ∀ {c : Addr} {ys : List V}, H c = some (.lst ys) → c ≠ a.m := fun {c ys} e z => by
    rw [z, hM.hm] at e
    cases e
  have kt : KT H H' := fun c o e t => k c o (fun z => by
    rw [z, hM.hm] at e
    cases e
    exact t) e
  refine ⟨hm, k _ _ (lne hM.ho) hM.ho, k _ _ hM.ogm hM.hg, hd, k _ _ hM.omn.symm hM.hn, fun i r l e1 e2 => ?_, hM.nd, hM.olo, ne hM.hg, hM.ogn, hM.ogm, hM.omn, hM.zn, hM.lg, lG, hM.ln, hM.lr⟩
  obtain ⟨xs, e3, d3⟩ := hM.rows i r l e1 e2
  exact ⟨xs, k _ _ (lne e3) e3, DtAll.keepT kt _ (tup_notes l) d3⟩
theorem S25.newF {d : Addr} {G : List Int} (x : S25 K H1 H zs p nl a D) (n0 : 1 ≤ zs.length) (k : ∀ c o, c ≠ a.m → H c = some o → H' c = some o) (hm : H' a.m = some (.dK (dct keysM [.ref a.lo, .ref a.dg, .ref d, .ref a.dn]))) (hd : H' d = some (.dK (dct zs (G.map V.int)))) (nd : H d = none) (lG : G.length = zs.length) :
    S25 K H1 H' zs p nl { a with df := d } { D with fallen := G } := by
  have hnd : ∀ {c : Addr} {o : HO}, H c = some o → c ≠ d := fun {c o} e z => by
    rw [z, nd] at e
    cases e
  have hm0 : a.Has a.m := .inl rfl
  have old : ∀ c, MdA.Has { a with df := d } c → c = d ∨ a.Has c := fun c h => by
    rcases h with h | h | h | h | h | h
    · exact .inr (.inl h)
    · exact .inr (.inr (.inl h))
    · exact .inr (.inr (.inr (.inl h)))
    · exact .inl h
    · exact .inr (.inr (.inr (.inr (.inr (.inl h)))))
    · exact .inr (.inr (.inr (.inr (.inr (.inr h)))))
  have pm : p ≠ a.m := fun z => x.nap (z ▸ hm0)
  have hp' : Pot H' p := by
    obtain ⟨u, v, e, r⟩ := x.hp
    exact ⟨u, v, k _ _ pm e, r⟩
  have hpd : p ≠ d := by
    obtain ⟨u, v, e, r⟩ := x.hp
    exact hnd e
  refine ⟨hp', model_newF x.hM n0 k hm hd nd lG, k _ _ (fun z => x.nla (z ▸ hm0)) x.hn, fun c o e => k c o (fun z => ?_) (x.s c o e), x.np, fun c h => ?_, fun h => ?_, x.nlp, fun h => ?_⟩
  · have := x.na c (z ▸ hm0)
    rw [e] at this
    cases this
  · rcases old c h with rfl | h
    · exact x.s.free nd
    · exact x.na c h
  · rcases old p h with h | h
    · exact hpd h
    · exact x.nap h
  · rcases old nl h with h | h
    · exact hnd x.hn h
    · exact x.nla h
end
end Rc

namespace Rc
open PySem PySem.Spec PyProof.Rows L2 RZ
open SX (S split_S join_S num_S int_S S_len S_cat)
section
variable {P : Program} {w : World} {K : PySem.W.Frag} {mg : Str → Option Value} {base : Heap}
/-! ### law -/
abbrev sLaw : Stmt := topS 63
abbrev nLaw : List Str := ["_law_script", "_law_k", "_law_pot_here", "_law_size", "_law_names_here", "_law_model_here", "_law_deed", "_law_turn", "_law_spoilt_here", "_law_who", "_law_name_here", "_law_told"]
theorem scLaw : FnScope nLaw ["_law_script"] (defScope sLaw) := ⟨rfl, rfl, rfl, by decide +kernel, rfl, by decide +kernel, by decide +kernel⟩
def spLaw (K : PySem.W.Frag) : Sp := fun vs H Q _ => ∃ (a : Addr) (ns : List Int), vs = [.ref a] ∧ SqL K H a (ns.map V.int) ∧ ns.length ≤ 63 ∧ ∀ H', Q (.bl true) H'
set_option maxHeartbeats 4000000 in
theorem ok_law {f fP fT f1 f2 f3 f4 f5 f6 f7 f8 f9 f10 f11 f12 f13 C : Addr} {fd fdP fdT fd1 fd2 fd3 fd4 fd5 fd6 fd7 fd8 fd9 fd10 fd11 fd12 fd13 : FuncData} (F : Fun K "law" "law" sLaw f fd) (B : Blt mg) (B2 : Blt2 mg) (B3 : Blt3 mg) (T : ClsF K C) (TE : ClsE K C) (gC : mg "Book" = some (.ref C)) (LP : Has P w K mg base 3 "_law_pot" ["_law_script", "_law_k"] (spPot K) fP fdP) (TK : HasTake P w K mg base fT fdT)
    (LN : Has P w K mg base 3 "_law_names" ["_law_pot_here", "_law_many"] spLNms f1 fd1) (MD : Has P w K mg base 1 "_law_model" ["_law_names_here"] (spLMd K) f2 fd2) (DS : Has P w K mg base 3 "_law_deeds" ["_law_pot_here", "_law_names_here", "_law_many", "_law_size"] (spLDs K) f3 fd3) (DN : Has P w K mg base 1 "_law_done" ["_law_model_here", "_law_deed"] (spLDn K) f4 fd4)
    (FA : Has P w K mg base 3 "_law_fallen" ["_law_pot_here", "_law_model_here"] (spLFa K) f5 fd5) (SS : Has P w K mg base 3 "_law_settled_some" ["_law_model_here"] (spLSs K) f6 fd6) (RT : HasG P w K mg base 11 "_law_text_right" ["_law_model_here"] (spLTr K) f7 fd7)
    (TX : Has P w K mg base 1 "_law_text" ["_law_model_here"] (spLTx K) f8 fd8) (SO : Has P w K mg base 2 "_law_spoilt" ["_law_pot_here", "_law_model_here", "_law_text_here"] (spLSo25 K) f9 fd9) (RD : Has P w K mg base 10 "_law_read" ["_law_text_here"] (spLRd K C) f10 fd10)
    (WH : Has P w K mg base 1 "_law_whole" ["_law_model_here", "_law_who"] (spLWh K) f11 fd11) (CR : Has P w K mg base 1 "_law_crowded" ["_law_model_here", "_law_many"] (spLCr K) f12 fd12) (BT : Has P w K mg base 6 "book_text" ["book"] (spBtx K C) f13 fd13) : FnG P w K mg base CX0 12 f fd ["_law_script"] (spLaw K) := by
  refine okG0 F scLaw (fun vs H Q E h => ?_) (fun cdv Ar outer s H vs Q E0 hr hg h => ?_)
  · obtain ⟨a, d, rfl, _⟩ := h
    rfl
  · obtain ⟨a0, ns, rfl, hS, hlen, q⟩ := h
    have hu := hu_of hr
    have hr1 := hr.mono (show 1 ≤ 11 by decide)
    have hr2 := hr.mono (show 2 ≤ 11 by decide)
    have hr3 := hr.mono (show 3 ≤ 11 by decide)
    have hr6 := hr.mono (show 6 ≤ 11 by decide)
    have hr10 := hr.mono (show 10 ≤ 11 by decide)
    refine ⟨_, (pss_cons (ps_for PassesOwn.never rfl (pi_range1 (by rfl) B2.range (pa_cons (pe_callB (call_max2 rfl) (by rfl) B2.max (by decide +kernel) (pa_cons pe_int (pa_cons (pe_callB (call_min2 rfl) (by rfl) B2.min (by decide +kernel) (pa_cons (pe_callB call_len_seq (by rfl) B.len PySem.boot_len (pa_cons (pv 0) pa_nil)) (pa_cons pe_int pa_nil))) pa_nil))) pa_nil)) (pg_name (i := 1) scLaw.nd rfl (.inl rfl)) (pss_cons (ps_set (i := 2) scLaw.nd rfl (.inl rfl) (pe_call LP.ok hr3 (by rfl) LP.g LP.kp LP.b .nil pass0 (pa_cons (pv 0) (pa_cons (pv 1) pa_nil)))) (pss_cons (ps_set (i := 3) scLaw.nd rfl (.inl rfl) (pe_call TK.ok hr1 (by rfl) TK.g TK.kp TK.b .nil pass0 (pa_cons (pv 2) (pa_cons pe_int pa_nil)))) (pss_cons (ps_set (i := 4) scLaw.nd rfl (.inl rfl) (pe_call LN.ok hr3 (by rfl) LN.g LN.kp LN.b .nil pass0 (pa_cons (pv 2) (pa_cons (pe_op op_add pe_int (pe_call TK.ok hr1 (by rfl) TK.g TK.kp TK.b .nil pass0 (pa_cons (pv 2) (pa_cons pe_int pa_nil)))) pa_nil)))) (pss_cons (ps_set (i := 5) scLaw.nd rfl (.inl rfl) (pe_call MD.ok hr1 (by rfl) MD.g MD.kp MD.b .nil pass0 (pa_cons (pv 4) pa_nil))) (pss_cons (ps_for PassesOwn.never rfl (pi_list (pe_call DS.ok hr3 (by rfl) DS.g DS.kp DS.b .nil pass0 (pa_cons (pv 2) (pa_cons (pv 4) (pa_cons (pe_call TK.ok hr1 (by rfl) TK.g TK.kp TK.b .nil pass0 (pa_cons (pv 2) (pa_cons pe_int pa_nil))) (pa_cons (pv 3) pa_nil)))))) (pg_name (i := 6) scLaw.nd rfl (.inl rfl)) (pss_one (ps_expr (pe_call DN.ok hr1 (by rfl) DN.g DN.kp DN.b .nil pass0 (pa_cons (pv 5) (pa_cons (pv 6) pa_nil)))))) (pss_cons (ps_for PassesOwn.never rfl (pi_range1 (by rfl) B2.range (pa_cons pe_int pa_nil)) (pg_name (i := 7) scLaw.nd rfl (.inl rfl)) (pss_cons (ps_expr (pe_call FA.ok hr3 (by rfl) FA.g FA.kp FA.b .nil pass0 (pa_cons (pv 2) (pa_cons (pv 5) pa_nil)))) (C8.pss_cut (ps_if (pt_cmpR op_eq (pe_call TK.ok hr1 (by rfl) TK.g TK.kp TK.b .nil pass0 (pa_cons (pv 2) (pa_cons pe_int pa_nil))) pe_int (nomark _)) (pss_one (ps_expr (pe_call SS.ok hr3 (by rfl) SS.g SS.kp SS.b .nil pass0 (pa_cons (pv 5) pa_nil)))) pss_nil) (pss_cons (ps_if (pt_not (pt_val (pe_callG RT.ok hr hg (by rfl) RT.g RT.kp RT.b .nil pass0 (pa_cons (pv 5) pa_nil)))) (pss_one (ps_ret pe_bl)) pss_nil) (pss_cons (ps_set (i := 8) scLaw.nd rfl (.inl rfl) (pe_call SO.ok hr2 (by rfl) SO.g SO.kp SO.b .nil pass0 (pa_cons (pv 2) (pa_cons (pv 5) (pa_cons (pe_call TX.ok hr1 (by rfl) TX.g TX.kp TX.b .nil pass0 (pa_cons (pv 5) pa_nil)) pa_nil))))) (pss_one (ps_if (PW.pt (pw_and (pt_cmpR op_notN (pv 8) pe_non (nomark _)) (pw_and1 (pt_cmpR op_ne (pe_callB (call_repr hr hg) (by rfl) B2.repr (by decide +kernel) (pa_cons (pe_call RD.ok hr10 (by rfl) RD.g RD.kp RD.b .nil pass0 (pa_cons (pv 8) pa_nil)) pa_nil)) pe_str (nomark _))))) (pss_one (ps_ret pe_bl)) pss_nil))))))) (pss_cons (ps_set (i := 9) scLaw.nd rfl (.inl rfl) (pe_ix ix_list (pv 4) pe_int (fun _ _ => rfl))) (pss_cons (ps_dput hu (pv 5) pe_str (pe_callTy (call_dictP rfl) (by rfl) B3.dict (by decide +kernel) (pa_cons (pe_lc (own := [("_law_name_here", 10)]) (g := gName 10) (tt := tYes) rfl scLaw.nd (pi_list (pv 4)) (blkOk_by (N := nLaw) (sc := defScope sLaw) (own := [("_law_name_here", 10)]) (by decide +kernel)) (fun _ _ _ _ _ => pg_name (i := 10) scLaw.nd rfl (.inl rfl) (hf := .inr rfl)) (fun _ _ _ _ _ => pts_nil) (fun _ _ _ _ _ => pe_tup (pa_cons (pv 10) (pa_cons pe_int pa_nil)))) pa_nil)) rfl) (pss_cons (ps_dput hu (pe_dget hu (pv 5) pe_str (fun _ _ => rfl)) (pv 9) (pe_op op_add (pe_call WH.ok hr1 (by rfl) WH.g WH.kp WH.b .nil pass0 (pa_cons (pv 5) (pa_cons (pv 9) pa_nil))) pe_int) rfl) (pss_cons (ps_if (PW.pt (pw_or (pt_cmpR op_ne (pe_callB (call_repr hr hg) (by rfl) B2.repr (by decide +kernel) (pa_cons (pe_call RD.ok hr10 (by rfl) RD.g RD.kp RD.b .nil pass0 (pa_cons (pe_call TX.ok hr1 (by rfl) TX.g TX.kp TX.b .nil pass0 (pa_cons (pv 5) pa_nil)) pa_nil)) pa_nil)) pe_str (nomark _)) (pw_or1 (pt_cmpR op_ne (pe_callB (call_repr hr hg) (by rfl) B2.repr (by decide +kernel) (pa_cons (pe_call RD.ok hr10 (by rfl) RD.g RD.kp RD.b .nil pass0 (pa_cons (pe_call CR.ok hr1 (by rfl) CR.g CR.kp CR.b .nil pass0 (pa_cons (pv 5) (pa_cons pe_int pa_nil))) pa_nil)) pa_nil)) pe_str (nomark _))))) (pss_one (ps_ret pe_bl)) pss_nil) (pss_cons (ps_set (i := 11) scLaw.nd rfl (.inl rfl) (pe_call RD.ok hr10 (by rfl) RD.g RD.kp RD.b .nil pass0 (pa_cons (pe_call CR.ok hr1 (by rfl) CR.g CR.kp CR.b .nil pass0 (pa_cons (pv 5) (pa_cons pe_int pa_nil))) pa_nil))) (pss_one (ps_if (PW.pt (pw_or (pt_not (pt_val (pe_callB call_isi (by rfl) B.isi (by decide +kernel) (pa_cons (pv 11) (pa_cons (pe_glob (v := .ref C) (by rfl) gC rfl) pa_nil))))) (pw_or1 (pt_cmpR op_ne (pe_call BT.ok hr6 (by rfl) BT.g BT.kp BT.b .nil pass0 (pa_cons (pv 11) pa_nil)) (pe_call CR.ok hr1 (by rfl) CR.g CR.kp CR.b .nil pass0 (pa_cons (pv 5) (pa_cons pe_int pa_nil))) (nomark _))))) (pss_one (ps_ret pe_bl)) pss_nil)))))))))))))) (pss_one (ps_ret pe_bl))), ?_⟩
    refine ⟨.ref a0, rfl, a0, _, rfl, .inl hS, _, _, rfl, _, _, rfl, ?_⟩
    have nb : ∃ n : Nat, n ≤ 63 ∧ (if (if (3 : Int) < ((ns.map V.int).length : Int) then (3 : Int) else ((ns.map V.int).length : Int)) > 1 then (if (3 : Int) < ((ns.map V.int).length : Int) then (3 : Int) else ((ns.map V.int).length : Int)) else 1) = (n : Int) := by
      rw [List.length_map]
      refine ⟨(if (if (3 : Int) < (ns.length : Int) then (3 : Int) else (ns.length : Int)) > 1 then (if (3 : Int) < (ns.length : Int) then (3 : Int) else (ns.length : Int)) else 1).toNat, ?_, ?_⟩ <;> (split <;> split <;> omega)
    obtain ⟨n, hn, en⟩ := nb
    refine ⟨_, congrArg (fun z => [V.int z]) en, by omega, by omega, ?_⟩
    refine for_it walk_range (fun i σ H' => ∃ y1 y2 y3 y4 y5 y6 y7 y8 y9 y11, σ = [some (.ref a0), y1, y2, y3, y4, y5, y6, y7, y8, y9, none, y11] ∧ Same H H') ⟨_, _, _, _, _, _, _, _, _, _, rfl, Same.refl _⟩ (fun _ _ _ _ _ => trivial) (fun i x σ H1' H1 hi hP hY => ?_) (fun σ H1 hP => q _)
    obtain ⟨rfl, rfl⟩ := hY
    obtain ⟨y1, y2, y3, y4, y5, y6, y7, y8, y9, y11, rfl, s1⟩ := hP
    have hi' : i < n := by simpa using hi
    refine ⟨.ref a0, rfl, .int (0 + i), rfl, a0, ns, _, rfl, s1.seq hS, by omega, by omega, fun p o np hp => ?_⟩
    have sG1 := same_upd (o := o) np
    generalize upd H1 p o = G1 at hp sG1
    refine ⟨.ref p, rfl, p, 2, rfl, hp, litM _ (by decide) (by decide), fun sz G2 sz0 sz1 hp2 bt2 => ?_⟩
    have hsz : sz = 0 ∨ sz = 1 := by omega
    -- names
    refine ⟨.ref p, rfl, .ref p, rfl, p, 6, rfl, hp2, litM _ (by decide) (by decide), fun t6 G3 t60 t61 hp3 bt3 => ⟨_, _, rfl, rfl, p, (1 + t6).toNat, congrArg (fun z => [V.ref p, V.int z]) (by rw [Int.toNat_of_nonneg (by omega)]), hp3, by omega, fun nl zs G4 nnl nlp hnl lzs nd nm hp4 bt4 => ?_⟩⟩
    have nz : NamesOk zs := ⟨by omega, by omega, nd, nm⟩
    have n0 := nz.n0
    have z6 : zs.length ≤ 6 := by omega
    have s14 : Same H1 G4 := fun c o e => by
      have n1 := ne_of_none e np
      exact bt4 _ _ n1 (bt3 _ _ n1 (bt2 _ _ n1 (sG1 _ _ e)))
    -- the model
    refine ⟨.ref nl, rfl, nl, zs, rfl, hnl, nd, by omega, fun a G5 s5 na hM => ?_⟩
    have nap : ¬ a.Has p := fun h => by
      obtain ⟨px, py, pe, _⟩ := hp4
      have := na p h
      rw [pe] at this
      cases this
    have nla : ¬ a.Has nl := fun h => by
      have := na nl h
      rw [hnl] at this
      cases this
    have na1 : ∀ c, a.Has c → H1 c = none := fun c hc => s14.free (na c hc)
    have x5 : S25 K H1 G5 zs p nl a (newMd zs.length) := ⟨hp4.same s5, hM, s5 _ _ hnl, s14.trans s5, np, na1, nap, nlp, nla⟩
    clear bt2 bt3 bt4 s14 sG1 hp hp2 hp3 hp4 hnl hM s5 na
    -- deeds
    refine ⟨.ref p, rfl, .ref nl, rfl, .ref p, rfl, p, 16, rfl, x5.hp, litM _ (by decide) (by decide), fun m0 G6 m00 m01 hp6 bt6 => ⟨.int sz, rfl, p, nl, zs, m0.toNat, sz, congrArg (fun z => [V.ref p, V.ref nl, V.int z, V.int sz]) (by rw [Int.toNat_of_nonneg m00]), hsz, hp6, nlp, bt6 _ _ nlp x5.hn, n0, by omega, by omega, fun dl xs ds G7 ndl dlp hdl dd lds ods hp7 bt7 => ?_⟩⟩
    have x6 := x5.but bt6 hp6
    have x7 := x6.but bt7 hp7
    have nfdl : ¬ a.Foot dl := x6.hM.nofoot ndl
    have lx : xs.length = ds.length := by
      rw [dd.len]
      unfold deedsD
      rw [List.length_map]
    refine ⟨dl, rfl, ⟨_, .inl (.inl hdl)⟩, ?_⟩
    refine for_it (walk_list (K := K) (a := dl) (xs := xs)) (fun j σ H' => ∃ z6, σ = [some (.ref a0), some (.int (0 + i)), some (.ref p), some (.int sz), some (.ref nl), some (.ref a.m), z6, y7, y8, y9, none, y11] ∧ ButF a G7 H' ∧ ModelAt K H' zs a (mdAt zs (ds.take j)))
      ⟨_, rfl, fun _ _ _ e => e, x7.hM⟩ (fun j σ H' _ hP => ?_) (fun j y σ H8' H8 hj hP hY => ?_) (fun σ H8 hP => ?_)
    · obtain ⟨_, _, bf, _⟩ := hP
      exact .inl (.inl (bf _ _ nfdl hdl))
    · obtain ⟨rfl, hx⟩ := hY
      obtain ⟨z6, rfl, bf8, hM8⟩ := hP
      have hid : j < ds.length := by omega
      have okd := ods _ (List.getElem_mem hid)
      obtain ⟨v', gx, dx0⟩ := dd.get (n := j) (d := deedD ds[j]) (map_get (List.getElem?_eq_getElem hid))
      rw [hx] at gx
      cases gx
      have dx8 : Dt K H8 y (deedD ds[j]) := Dt.keepT (bf8.kt x7.hM) _ (tup_deed _) dx0
      have gdi := md_at_good (zs := zs) (ds := ds.take j) (fun d hd => ods d (List.mem_of_mem_take hd)) (by rw [List.length_take]; omega)
      refine ⟨.ref a.m, rfl, y, rfl, a, _, zs, y, ds[j], rfl, hM8, dx8, okd, by omega, gdi.rows, fun H9 bf9 hM9 => ?_⟩
      have eDn : mdAt zs (ds.take (j + 1)) = doneD zs (mdAt zs (ds.take j)) ds[j] := by
        unfold mdAt
        rw [take_succ hid, List.foldl_append]
        rfl
      rw [eDn]
      exact ⟨_, rfl, fun b o n e => bf9 b o n (bf8 b o n e), hM9⟩
    obtain ⟨z6', rfl, bf8, hM8⟩ := hP
    rw [lx, List.take_length] at hM8
    have gd := md_at_good (zs := zs) (ds := ds) ods (by omega)
    obtain ⟨g, g20⟩ := gd_gx gd nz hM8.lg hM8.ln (by omega)
    have hp8 : Pot H8 p := by
      obtain ⟨px, py, pe, pr⟩ := x7.hp
      exact ⟨px, py, bf8 _ _ (fun h => nap h.has) pe, pr⟩
    have x8 : S25 K H1 H8 zs p nl a (mdAt zs ds) := x7.mv (fun c o _ n2 e => bf8 c o (fun h => n2 h.has) e) hp8 hM8
    generalize mdAt zs ds = D at x8 g g20
    clear x5 x6 x7 bf8 hM8 hp8 gd dd hdl bt6 bt7 hp6 hp7 nfdl lx
    -- three turns
    refine ⟨3, rfl, by decide, by decide, ?_⟩
    have mk0 : ∀ F G : List Int, ({ { D with fallen := F } with fallen := G } : Md) = { D with fallen := G } := fun _ _ => rfl
    refine for_it walk_range (fun j σ H' => ∃ F w7 w8, σ = [some (.ref a0), some (.int (0 + i)), some (.ref p), some (.int sz), some (.ref nl), some (.ref a.m), z6', w7, w8, y9, none, y11] ∧ S25 K H1 H' zs p nl a { D with fallen := F } ∧ Gx zs { D with fallen := F })
      ⟨D.fallen, _, _, rfl, x8, g⟩ (fun _ _ _ _ _ => trivial) (fun j x σ H9' H9 hj hP hY => ?_) (fun σ H9 hP => ?_)
    · obtain ⟨rfl, rfl⟩ := hY
      obtain ⟨F, w7, w8, rfl, x9, g9⟩ := hP
      refine ⟨.ref p, rfl, .ref a.m, rfl, p, a, _, zs, rfl, x9.hp, x9.hM, nap, g9, fun F' H10 hp10 b10 hM10 g10 => ?_⟩
      have x10 : S25 K H1 H10 zs p nl a { D with fallen := F' } := x9.but2 b10 hp10 hM10
      have g10 : Gx zs { D with fallen := F' } := g10
      refine ⟨fun σ' H' => ∃ F, σ' = [some (.ref a0), some (.int (0 + i)), some (.ref p), some (.int sz), some (.ref nl), some (.ref a.m), z6', some (.int (0 + j)), w8, y9, none, y11] ∧ S25 K H1 H' zs p nl a { D with fallen := F } ∧ Gx zs { D with fallen := F }, ?_, ?_⟩
      · refine ⟨.ref p, rfl, p, 2, rfl, x10.hp, litM _ (by decide) (by decide), fun t G11 t0 t1 hp11 bt11 => ?_⟩
        have x11 := x10.but bt11 hp11
        refine ⟨rfl, _, rfl, ite2 (fun c => ?_) (fun c => ⟨_, rfl, x11, g10⟩)⟩
        exact ⟨.ref a.m, rfl, a, _, zs, rfl, x11.hM, g10, fun F2 H12 b12 hM12 g12 => ⟨F2, rfl, x11.butF b12 hM12, g12⟩⟩
      · rintro σ2 H11 ⟨F2, rfl, x11, g11⟩
        refine ⟨.ref a.m, rfl, a, _, zs, rfl, x11.hM, g11, g20, fun H12 s12 => ⟨_, rfl, iteF ?_⟩⟩
        have x12 := x11.same s12
        refine ⟨.ref p, rfl, .ref a.m, rfl, .ref a.m, rfl, a, _, zs, rfl, x12.hM, g11, fun H13 s13 => ?_⟩
        have x13 := x12.same s13
        have l72 := g11.rows.len
        refine ⟨p, a, _, zs, rowsOf zs { D with fallen := F2 }, rfl, x13.hp, x13.hM, nap, nz, z6, g11.end.1, g11.ok.1, by omega, fun H14 hp14 bt14 => ?_, fun rows2 H14 hp14 bt14 ok2 l2 bad => ?_⟩
        · have x14 := x13.but bt14 hp14
          refine ⟨.non, rfl, rfl, _, rfl, ?_⟩
          rw [decide_eq_true rfl]
          exact iteF ⟨F2, _, _, rfl, x14, g11⟩
        · have x14 := x13.but bt14 hp14
          refine ⟨.str (S (textL rows2)), rfl, rfl, _, rfl, ?_⟩
          rw [decide_eq_false (fun c => by cases c)]
          have nt := nice_int (big_of (i := 0) (by decide) (by decide))
          refine iteT ⟨.str (S (textL rows2)), rfl, rows2, rfl, ok2, l2, fun gr => absurd gr bad, fun _ H15 s15 => ?_⟩
          refine ⟨.int 0, .int 0, rfl, .int 0, nt.sh, .inl nt.nd, by decide, nice_fits nt (by decide), rfl, _, rfl, ?_⟩
          rw [decide_eq_true (show V.str (PyData.int 0).shown = V.str "0" by decide +kernel)]
          exact iteF ⟨F2, _, _, rfl, x14.same s15, g11⟩
    obtain ⟨F, w7, w8, rfl, x9, g9⟩ := hP
    have e0 : zs[0]? = some zs[0] := List.getElem?_eq_getElem (by omega)
    generalize hz0 : zs[0] = z0 at e0
    refine ⟨.ref nl, rfl, nl, _, 0, .str z0, rfl, rfl, .inl (.inl x9.hn), atI_nat (j := 0) (map_get e0), ?_⟩
    generalize hDF : ({ D with fallen := F } : Md) = DF at x9 g9
    -- all that has fallen, anew
    have lenz : (zs.map V.str).length = zs.length := List.length_map ..
    have lenZ : ∀ i, ((zeros i).map V.int).length = i := fun i => by
      unfold zeros
      rw [List.length_map, List.length_replicate]
    refine ⟨.ref nl, rfl, nl, rfl, ⟨_, .inl (.inl x9.hn)⟩, fun D1 nD1 => ?_⟩
    refine lc_it (walk_list (K := K) (a := nl) (xs := zs.map V.str)) (fun i' H' => Same H9 H' ∧ ∃ ps, H' D1 = some (.lst (List.map V.ref ps)) ∧ PairsAt K H' ps (dct (zs.take i') ((zeros i').map V.int))) ⟨same_upd nD1, [], upd_same, .nil⟩ (fun i' H' _ hP => hP.1.seq (.inl (.inl x9.hn)))
      (fun i' x H10' H10 hi2 hP hY => ?_) (fun H10 hP => ?_)
    · obtain ⟨rfl, hx⟩ := hY
      rw [lenz] at hi2
      obtain ⟨sm, ps, hD, hpp⟩ := hP
      have ex : x = .str zs[i'] := by
        rw [List.getElem?_map, List.getElem?_eq_getElem hi2] at hx
        exact (Option.some.inj hx).symm
      subst ex
      refine ⟨rfl, _, rfl, by show 2 ≤ sizeLine; decide, fun t nt => ⟨_, by rw [upd_ne (ne_of_none hD nt)]; exact hD, ?_, ?_⟩⟩
      · rw [List.length_map, Paired.len hpp]
        unfold dct
        rw [List.length_map, List.length_zip]
        exact small1000 (by rw [List.length_take]; omega)
      · obtain ⟨a1, a2, a3, _⟩ := pairs_step (z := zs[i']) (v := .int 0) nD1 sm hD hpp (by rw [lenZ, List.length_take]; omega) nt
        refine ⟨a1, ps ++ [t], a2, ?_⟩
        rw [take_succ hi2, show (zeros (i' + 1)).map V.int = (zeros i').map V.int ++ [.int 0] by unfold zeros; rw [List.replicate_succ', List.map_append]; rfl]
        exact a3
    obtain ⟨s10, ps1, hD1, hp1⟩ := hP
    rw [lenz, List.take_length] at hp1
    have x10 := x9.same s10
    refine ⟨D1, ps1, _, rfl, .inl (.inl hD1), hp1, fun d2 nd2 => ?_⟩
    rw [merge_new nd]
    have s11 := same_upd (o := .dK (dct zs ((zeros zs.length).map V.int))) nd2
    have hd2 : upd H10 d2 (.dK (dct zs ((zeros zs.length).map V.int))) d2 = some (.dK (dct zs ((zeros zs.length).map V.int))) := upd_same
    generalize upd H10 d2 (.dK (dct zs ((zeros zs.length).map V.int))) = H11 at s11 hd2
    have hm11 := s11 _ _ x10.hM.hm
    have d2m : d2 ≠ a.m := (ne_of_none x10.hM.hm nd2).symm
    refine ⟨.ref a.m, rfl, a.m, _, rfl, DPut.k (k := Sum.inr "fallen") hm11 (by show 4 < _; decide), ?_⟩
    have e4 : putK a.main (Sum.inr "fallen" : Key) (.ref d2) = dct keysM [.ref a.lo, .ref a.dg, .ref d2, .ref a.dn] := dct_put (j := 2) keysM_nd rfl (by show 2 < 4; decide)
    rw [e4]
    have x12 : S25 K H1 (upd H11 a.m (.dK (dct keysM [.ref a.lo, .ref a.dg, .ref d2, .ref a.dn]))) zs p nl { a with df := d2 } { DF with fallen := zeros zs.length } :=
      x10.newF n0 (fun c o n e => by rw [upd_ne n]; exact s11 _ _ e) upd_same (by rw [upd_ne d2m]; exact hd2) nd2 List.length_replicate
    generalize upd H11 a.m (.dK (dct keysM [.ref a.lo, .ref a.dg, .ref d2, .ref a.dn])) = H12 at x12
    have am : MdA.m { a with df := d2 } = a.m := rfl
    have adf : MdA.df { a with df := d2 } = d2 := rfl
    generalize ({ a with df := d2 } : MdA) = a' at x12 am adf
    rw [← am]
    obtain ⟨gv, f', l0, r, xs0, eg, ef, el, er, hr0, dr0⟩ := x12.hM.at_ e0
    have el : DF.notes[0]? = some l0 := el
    have ef : (zeros zs.length)[0]? = some f' := ef
    have ll0 := g9.rowsOk l0 (List.mem_of_getElem? el)
    refine ⟨.ref a'.m, rfl, .str z0, rfl, a', _, zs, z0, 0, l0, rfl, x12.hM, e0, el, ll0, fun H13 s13 => ?_⟩
    have x13 := x12.same s13
    refine ⟨_, _, rfl, rfl, .ref a'.m, rfl, a'.m, .ref a'.df, rfl, x13.hM.g2, .str z0, rfl, a'.df, _, rfl, DPut.k (k := Sum.inr z0) x13.hM.hf (by rw [dct_len (by rw [List.length_map, x13.hM.lf])]; exact small1000 (by omega)), ?_⟩
    have lzz : 0 < (zeros zs.length).length := (List.getElem?_eq_some_iff.mp ef).1
    rw [dct_put x13.hM.zn e0 (by rw [List.length_map]; exact lzz), map_set V.int]
    have x14 : S25 K H1 (upd H13 a'.df (.dK (dct zs (((zeros zs.length).set 0 (wholeN l0 + 1)).map V.int)))) zs p nl a' (overD zs DF l0) := x13.butF (fun c o n e => by rw [upd_ne n]; exact e) (x13.hM.setF n0 _)
    generalize upd H13 a'.df (.dK (dct zs (((zeros zs.length).set 0 (wholeN l0 + 1)).map V.int))) = H14 at x14
    have nt := nice_int (big_of (i := 0) (by decide) (by decide))
    have n61 := crowd_bad nz
    obtain ⟨ok61, len61⟩ := crowd_ok (m := 61) nz zs.length (Nat.le_refl _)
    obtain ⟨ok60, len60⟩ := crowd_ok (m := 60) nz zs.length (Nat.le_refl _)
    obtain ⟨good60, read60⟩ := crowd_good nz
    have gx60 := crowd_gx nz (m := 60) (Nat.le_refl _)
    obtain ⟨gs60, gb60⟩ := gx60.gs (crowd_cov nz (Nat.le_refl _))
    have sm60 : SmD (crowdD zs 60) := fun x hx => by
      have hx : x ∈ zeros zs.length := hx
      unfold zeros at hx
      rw [List.eq_of_mem_replicate hx]
      decide
    have oc61 : (crowdN zs 61 zs.length).length ≤ 200 := by rw [crowd_len zs 61 n0]; omega
    have oc60 : (crowdN zs 60 zs.length).length ≤ 200 := by rw [crowd_len zs 60 n0]; omega
    refine ⟨.ref a'.m, rfl, a', _, zs, rfl, x14.hM, over_gx g9 el, fun H15 s15 => ⟨rowsOf zs (overD zs DF l0), rfl, (over_gx g9 el).ok.1, (over_gx g9 el).ok.2, fun gr => absurd gr (over_bad g9 el), fun _ H16 s16 => ?_⟩⟩
    refine ⟨.int 0, .int 0, rfl, .int 0, nt.sh, .inl nt.nd, by decide, nice_fits nt (by decide), rfl, _, rfl, ?_⟩
    rw [decide_eq_true (show V.str (PyData.int 0).shown = V.str "0" by decide +kernel)]
    have x16 := (x14.same s15).same s16
    refine iteF ⟨.ref a'.m, rfl, a', _, zs, 61, rfl, x16.hM, nz, by decide, fun H17 s17 => ⟨crowdN zs 61 zs.length, rfl, ok61, oc61, fun gr => absurd gr n61, fun _ H18 s18 => ?_⟩⟩
    refine ⟨.int 0, .int 0, rfl, .int 0, nt.sh, .inl nt.nd, by decide, nice_fits nt (by decide), rfl, _, rfl, ?_⟩
    rw [decide_eq_true (show V.str (PyData.int 0).shown = V.str "0" by decide +kernel)]
    have x18 := (x16.same s17).same s18
    refine iteF ⟨.ref a'.m, rfl, a', _, zs, 60, rfl, x18.hM, nz, by decide, fun H19 s19 => ⟨crowdN zs 60 zs.length, rfl, ok60, oc60, fun _ b H20 s20 nb hb => ?_, fun ng => absurd good60 ng⟩⟩
    rw [read60] at hb
    have x20 := (x18.same s19).same s20
    have kt : PySem.W.kitOne K (.ref C) (.ref C) = some true := by
      unfold PySem.W.kitOne
      rw [if_pos (by simp)]
    obtain ⟨dx2, tn2, on2, wg2, ws2, wd2, ee2, _⟩ := hb.ex
    refine ⟨.ref b, rfl, .ref b, .ref C, .ref C, .ref C, true, rfl, .own C, .base (.ins ee2 T.cl TE.ha TE.hn TE.htk TE.hm), kt, _, rfl, iteF ?_⟩
    refine ⟨.ref b, rfl, b, _, zs, rfl, hb, gs60, gb60, sm60, fun H21 s21 => ⟨.ref a'.m, rfl, a', _, zs, 60, rfl, (x20.same s21).hM, nz, by decide, fun H22 s22 => ?_⟩⟩
    rw [crowd_rows]
    refine ⟨rfl, _, rfl, ?_⟩
    rw [decide_eq_true rfl]
    exact iteF ⟨_, _, _, _, _, _, _, _, _, _, rfl, s1.trans ((x20.same s21).same s22).s⟩
end
end Rc

namespace Rc
open PySem PySem.Spec PyProof.Rows L2
theorem all1 {p : Str → Prop} {a : Str} (h : p a) : ∀ f ∈ [a], p f := fun f hf => by rw [List.mem_singleton.mp hf]; exact h
theorem all2 {p : Str → Prop} {a b : Str} (h : p a) (h' : p b) : ∀ f ∈ [a, b], p f := fun f hf => by
  rcases List.mem_cons.mp hf with e | e
  · rw [e]; exact h
  · rw [List.mem_singleton.mp e]; exact h'
/-- the top's facts of an own exception class -/
theorem mkCx {P : Program} {K : PySem.W.Frag} {h : Heap} {mg : Str → Option Value} {nm : Str} {st : Stmt} {fs : List Str} {B newId initId : String} {bmB : List Value} {C : Addr} (X : K.In h) (G : h.Ns mainGlobals mg)
    {fI : Addr} {oc : Value} {od : Option Addr} {qual : Str} {doc pm : Value} {an : Option Addr} {cda : Addr} {ct : Value} {cc : Addr} {osl : Array (Option Value)} {cl : Value} {cld : Option Addr} {csl : Array (Option Value)} {ccl : Value} {cdd : Option Addr} {vs : Array Value} {ccs : Array (Option Value)} {file : Str} {tf : Tok}
    (a : PySem.W.nsIn K mainGlobals nm = some (some (.ref C))) (a1 : PySem.W.excInitIn K C bmB newId = true) (a2 : PySem.W.excOver K C bmB = true) (a3 : PySem.W.hasDictIn K C = true)
    (a4 : PySem.W.findIn K (.ref C) "__setattr__" = some (some (.builtin "object.__setattr__"))) (a5 : PySem.W.findIn K (.ref C) "__getattribute__" = some (some (.builtin "BaseException.__getattribute__"))) (a6 : PySem.W.findIn K (.ref C) "__getattr__" = some none)
    (a7 : ∀ f ∈ fs, PySem.W.findIn K (.ref C) f = some none) (a8 : PySem.W.keepIn K (.ref C) = true) (a9 : PySem.W.subIn K (.ref C) (.type "BaseException") = some true) (b1 : PySem.W.typeIn K (.ref C) = some (.type "type")) (b2 : PySem.W.subIn K (.ref C) (.type B) = some true)
    (b3 : PySem.W.mroIn K C (.ref C) = some true) (b4 : PySem.W.nsIn K cStatics "thirdparty.any" = some none) (b5 : PySem.W.ks_superIn K C C "__init__" = some (some (.builtin initId))) (b6 : PySem.W.nsIn K mainGlobals "super" = some none) (b7 : (P.main.scope.names.lookup ("super" : Str)).isSome = false)
    (i1 : PySem.W.findIn K (.ref C) "__init__" = some (some (.ref fI))) (i2 : PySem.W.typeIn K (.ref fI) = some (.type "function"))
    (i3 : K.lookup fI = some ⟨oc, od, .func (PySem.W.ksFn "__init__" qual (defArgs st) (defBody st) (defScope st) .none .none doc pm an (.ref cda) ct cc), osl⟩) (i4 : PySem.W.codeIn K (.ref cda) qual = true)
    (i5 : K.lookup cc = some ⟨cl, cld, .cell (some (.ref C)), csl⟩) (i6 : K.lookup cda = some ⟨ccl, cdd, .fields vs, ccs⟩) (i7 : vs[2]? = some (.str file tf)) (i8 : ((P.main.file : Str) == file) = true) : EX.Cx' P K mg nm st fs B newId initId bmB C :=
  ⟨PySem.W.mg_of X G a, a1, a2, a3, a4, a5, a6, a7, a8, a9, b1, b2, b3, b4, b5, PySem.W.mg_none_of X G b6, b7, fI, oc, od, qual, doc, pm, an, cda, ct, cc, osl, i1, i2, i3, i4, ⟨_, _, _, i5⟩, _, _, _, _, _, _, i6, i7, i8⟩
end Rc

namespace Rc
open PySem PySem.Spec PyProof.Rows L2 RZ
theorem mkClsE {K : PySem.W.Frag} {C : Addr} (a : PySem.W.findIn K (.ref C) "__class__" = some (some (.builtin "object.__class__"))) (n : PySem.W.specialIn K (.builtin "object.__class__") "__get__" = some (some (.builtin "getset_descriptor.__get__")))
    (t : PySem.W.takesIn K (.builtin "object.__class__") = some true) (m : PySem.W.mroIn K C (.type "object") = some true) (e : PySem.W.findIn K (.ref C) "__ne__" = some (some (.builtin "object.__ne__"))) : ClsE K C := ⟨a, n, t, m, e⟩
end Rc

namespace Rc
open PySem PySem.Spec PyProof.Rows L2 RZ
/-- the classes of what a text is refused with -/
structure E25 (P : Program) (K : PySem.W.Frag) (mg : Str → Option Value) (Z : Bx) (T CA CV : Addr) : Prop where
  B : ClsNoB P K mg Z.B
  N : ClsN P K mg Z.X.N
  A : ClsP K mg "NoAmount" Z.X.A CA
  F : ClsFu P K mg Z.X.F
  V : ClsP K mg "NoVector" Z.V CV
  S : ClsHV P K mg Z.S
  nT : ClsNoT P K mg T
  six : B6 K mg Z
  t : T25 K mg T
theorem mkE25 {P : Program} {K : PySem.W.Frag} {mg : Str → Option Value} {xB xN xA xF xV xS xT CA CV : Addr} (pB : ClsNoB P K mg xB) (pN : ClsN P K mg xN) (pA : ClsP K mg "NoAmount" xA CA) (pF : ClsFu P K mg xF) (pV : ClsP K mg "NoVector" xV CV) (pS : ClsHV P K mg xS) (pT : ClsNoT P K mg xT)
    (s00 : PySem.W.subIn K (.ref xB) (.ref xB) = some true)
    (s01 : PySem.W.subIn K (.ref xB) (.ref xN) = some false)
    (s02 : PySem.W.subIn K (.ref xB) (.ref xA) = some false)
    (s03 : PySem.W.subIn K (.ref xB) (.ref xF) = some false)
    (s04 : PySem.W.subIn K (.ref xB) (.ref xV) = some false)
    (s05 : PySem.W.subIn K (.ref xB) (.ref xS) = some false)
    (s10 : PySem.W.subIn K (.ref xN) (.ref xB) = some false)
    (s11 : PySem.W.subIn K (.ref xN) (.ref xN) = some true)
    (s12 : PySem.W.subIn K (.ref xN) (.ref xA) = some false)
    (s13 : PySem.W.subIn K (.ref xN) (.ref xF) = some false)
    (s14 : PySem.W.subIn K (.ref xN) (.ref xV) = some false)
    (s15 : PySem.W.subIn K (.ref xN) (.ref xS) = some false)
    (s20 : PySem.W.subIn K (.ref xA) (.ref xB) = some false)
    (s21 : PySem.W.subIn K (.ref xA) (.ref xN) = some false)
    (s22 : PySem.W.subIn K (.ref xA) (.ref xA) = some true)
    (s23 : PySem.W.subIn K (.ref xA) (.ref xF) = some false)
    (s24 : PySem.W.subIn K (.ref xA) (.ref xV) = some false)
    (s25 : PySem.W.subIn K (.ref xA) (.ref xS) = some false)
    (s30 : PySem.W.subIn K (.ref xF) (.ref xB) = some false)
    (s31 : PySem.W.subIn K (.ref xF) (.ref xN) = some false)
    (s32 : PySem.W.subIn K (.ref xF) (.ref xA) = some false)
    (s33 : PySem.W.subIn K (.ref xF) (.ref xF) = some true)
    (s34 : PySem.W.subIn K (.ref xF) (.ref xV) = some false)
    (s35 : PySem.W.subIn K (.ref xF) (.ref xS) = some false)
    (s40 : PySem.W.subIn K (.ref xV) (.ref xB) = some false)
    (s41 : PySem.W.subIn K (.ref xV) (.ref xN) = some false)
    (s42 : PySem.W.subIn K (.ref xV) (.ref xA) = some false)
    (s43 : PySem.W.subIn K (.ref xV) (.ref xF) = some false)
    (s44 : PySem.W.subIn K (.ref xV) (.ref xV) = some true)
    (s45 : PySem.W.subIn K (.ref xV) (.ref xS) = some false)
    (s50 : PySem.W.subIn K (.ref xS) (.ref xB) = some false)
    (s51 : PySem.W.subIn K (.ref xS) (.ref xN) = some false)
    (s52 : PySem.W.subIn K (.ref xS) (.ref xA) = some false)
    (s53 : PySem.W.subIn K (.ref xS) (.ref xF) = some false)
    (s54 : PySem.W.subIn K (.ref xS) (.ref xV) = some false)
    (s55 : PySem.W.subIn K (.ref xS) (.ref xS) = some true)
    (sTT : PySem.W.subIn K (.ref xT) (.ref xT) = some true)
    (rw : PySem.W.findIn K (.ref xT) "row" = some none) : ∃ (Z : Bx) (T CA CV : Addr), E25 P K mg Z T CA CV := by
  refine ⟨⟨⟨xN, xN, xA, xN, xN, xF⟩, xB, xV, xS⟩, xT, CA, CV, pB, pN, pA, pF, pV, pS, pT, ⟨pB.gC, pN.gC, pA.gP, pF.gC, pV.gP, pS.gC, fun c hc => ?_⟩, ⟨pT.gC, ⟨pT.ga, pT.gg, pT.exC, pT.hd⟩, rw, PySem.W.exm_ref pT.exC pT.hd pT.tyC sTT⟩⟩
  simp only [Bx.six, List.mem_cons, List.not_mem_nil, or_false] at hc
  rcases hc with rfl | rfl | rfl | rfl | rfl | rfl
  · exact (any_hit (PySem.W.exm_ref pB.exC pB.hd pB.tyC s00) (any_miss (PySem.W.exm_ref pN.exC pN.hd pN.tyC s01) (any_miss (PySem.W.exm_ref pA.bP pA.hd pA.tP s02) (any_miss (PySem.W.exm_ref pF.exC pF.hd pF.tyC s03) (any_miss (PySem.W.exm_ref pV.bP pV.hd pV.tP s04) (any_one (PySem.W.exm_ref pS.exC pS.hd pS.tyC s05)))))))
  · exact (any_miss (PySem.W.exm_ref pB.exC pB.hd pB.tyC s10) (any_hit (PySem.W.exm_ref pN.exC pN.hd pN.tyC s11) (any_miss (PySem.W.exm_ref pA.bP pA.hd pA.tP s12) (any_miss (PySem.W.exm_ref pF.exC pF.hd pF.tyC s13) (any_miss (PySem.W.exm_ref pV.bP pV.hd pV.tP s14) (any_one (PySem.W.exm_ref pS.exC pS.hd pS.tyC s15)))))))
  · exact (any_miss (PySem.W.exm_ref pB.exC pB.hd pB.tyC s20) (any_miss (PySem.W.exm_ref pN.exC pN.hd pN.tyC s21) (any_hit (PySem.W.exm_ref pA.bP pA.hd pA.tP s22) (any_miss (PySem.W.exm_ref pF.exC pF.hd pF.tyC s23) (any_miss (PySem.W.exm_ref pV.bP pV.hd pV.tP s24) (any_one (PySem.W.exm_ref pS.exC pS.hd pS.tyC s25)))))))
  · exact (any_miss (PySem.W.exm_ref pB.exC pB.hd pB.tyC s30) (any_miss (PySem.W.exm_ref pN.exC pN.hd pN.tyC s31) (any_miss (PySem.W.exm_ref pA.bP pA.hd pA.tP s32) (any_hit (PySem.W.exm_ref pF.exC pF.hd pF.tyC s33) (any_miss (PySem.W.exm_ref pV.bP pV.hd pV.tP s34) (any_one (PySem.W.exm_ref pS.exC pS.hd pS.tyC s35)))))))
  · exact (any_miss (PySem.W.exm_ref pB.exC pB.hd pB.tyC s40) (any_miss (PySem.W.exm_ref pN.exC pN.hd pN.tyC s41) (any_miss (PySem.W.exm_ref pA.bP pA.hd pA.tP s42) (any_miss (PySem.W.exm_ref pF.exC pF.hd pF.tyC s43) (any_hit (PySem.W.exm_ref pV.bP pV.hd pV.tP s44) (any_one (PySem.W.exm_ref pS.exC pS.hd pS.tyC s45)))))))
  · exact (any_miss (PySem.W.exm_ref pB.exC pB.hd pB.tyC s50) (any_miss (PySem.W.exm_ref pN.exC pN.hd pN.tyC s51) (any_miss (PySem.W.exm_ref pA.bP pA.hd pA.tP s52) (any_miss (PySem.W.exm_ref pF.exC pF.hd pF.tyC s53) (any_miss (PySem.W.exm_ref pV.bP pV.hd pV.tP s54) (any_one (PySem.W.exm_ref pS.exC pS.hd pS.tyC s55)))))))
end Rc

namespace Rc
open PySem PySem.Spec PyProof.Rows L2
/-- a def of the text, by its name -/
def DefOf {K : PySem.W.Frag} {h : Heap} (_ : K.In h) (mg : Str → Option Value) (nm : Str) (st : Stmt) : Prop := ∃ f fd, Fun K nm nm st f fd ∧ mg nm = some (.ref f)
theorem mkDef {K : PySem.W.Frag} {h : Heap} {mg : Str → Option Value} (X : K.In h) (G : h.Ns mainGlobals mg) {nm : Str} {st : Stmt} {f : Addr} {oc : Value} {od an : Option Addr} {osl : Array (Option Value)} {kV doc pm cdv ct : Value}
    (a : PySem.W.nsIn K mainGlobals nm = some (some (.ref f)))
    (l : K.lookup f = some ⟨oc, od, .func (PySem.W.fnOf nm nm (defArgs st) (defBody st) (defScope st) .none kV doc pm an cdv ct), osl⟩)
    (c : PySem.W.codeIn K cdv nm = true) (k : PySem.W.keepIn K (.ref f) = true) : DefOf X mg nm st := ⟨f, _, fun_mk l c k, PySem.W.mg_of X G a⟩
/-- a method of the class C -/
def MethOf (K : PySem.W.Frag) (C : Addr) (nm qual : Str) (st : Stmt) : Prop := ∃ f fd, Fun K nm qual st f fd ∧ Meth K C nm f
theorem mkMeth {K : PySem.W.Frag} {C : Addr} {nm qual : Str} {st : Stmt} {f : Addr} {oc : Value} {od an : Option Addr} {osl : Array (Option Value)} {kV doc pm cdv ct : Value}
    (a : PySem.W.findIn K (.ref C) nm = some (some (.ref f))) (i : PySem.W.isFn K (.ref f) = true)
    (l : K.lookup f = some ⟨oc, od, .func (PySem.W.fnOf nm qual (defArgs st) (defBody st) (defScope st) .none kV doc pm an cdv ct), osl⟩)
    (c : PySem.W.codeIn K cdv qual = true) (k : PySem.W.keepIn K (.ref f) = true) : MethOf K C nm qual st := ⟨f, _, fun_mk l c k, a, i, k⟩
structure TopB (K : PySem.W.Frag) (mg : Str → Option Value) (C : Addr) : Prop where
  T : ClsF K C
  g : mg "Book" = some (.ref C)
  makes : PySem.W.makesIn K C = true
  kp : PySem.W.keepIn K (.ref C) = true
theorem mkTop {K : PySem.W.Frag} {h : Heap} {mg : Str → Option Value} {C : Addr} (X : K.In h) (G : h.Ns mainGlobals mg) (a : PySem.W.nsIn K mainGlobals "Book" = some (some (.ref C)))
    (pg : PySem.W.plainGet K C Str.empty = true) (hd : PySem.W.hasDictIn K C = true) (po : PySem.W.plainOver K C = true) (sa : PySem.W.findIn K (.ref C) "__setattr__" = some (some (.builtin "object.__setattr__"))) (mk : PySem.W.makesIn K C = true) (kc : PySem.W.keepIn K (.ref C) = true)
    (n1 : PySem.W.findIn K (.ref C) "names" = some none) (n2 : PySem.W.findIn K (.ref C) "gifts" = some none) (n3 : PySem.W.findIn K (.ref C) "stacks" = some none) (n4 : PySem.W.findIn K (.ref C) "drops" = some none) : TopB K mg C :=
  ⟨⟨⟨pg, hd, po, sa⟩, n1, n2, n3, n4⟩, PySem.W.mg_of X G a, mk, kc⟩
def ConOf (mg : Str → Option Value) (nm : Str) (v : V) : Prop := ∃ u, mg nm = some u ∧ RelV v u
theorem con_of {K : PySem.W.Frag} {h : Heap} {mg : Str → Option Value} (X : K.In h) (G : h.Ns mainGlobals mg) {nm : Str} {v : V} {u : Value} (a : PySem.W.nsIn K mainGlobals nm = some (some u)) (r : RelV v u) : ConOf mg nm v := ⟨u, PySem.W.mg_of X G a, r⟩
section
variable {K : PySem.W.Frag} {nm q x y z u4 : Str} {st : Stmt} {f : Addr} {fd : FuncData}
theorem bind1 (F : Fun K nm q st f fd)
    (h : ∀ (kV doc pm : Value) (an : Option Addr) (cdv ct v : Value), bindArgs (PySem.W.fnOf nm q (defArgs st) (defBody st) (defScope st) .none kV doc pm an cdv ct) ⟨[v], []⟩ = pure [(x, v)]) : Binds K fd [x] [] :=
  F.binds (ps := [x]) fun kV doc pm an cdv ct us hl => match us, hl with | [v], _ => h kV doc pm an cdv ct v
theorem bind2 (F : Fun K nm q st f fd)
    (h : ∀ (kV doc pm : Value) (an : Option Addr) (cdv ct u v : Value), bindArgs (PySem.W.fnOf nm q (defArgs st) (defBody st) (defScope st) .none kV doc pm an cdv ct) ⟨[u, v], []⟩ = pure [(x, u), (y, v)]) : Binds K fd [x, y] [] :=
  F.binds (ps := [x, y]) fun kV doc pm an cdv ct us hl => match us, hl with | [u, v], _ => h kV doc pm an cdv ct u v
theorem bind3 (F : Fun K nm q st f fd)
    (h : ∀ (kV doc pm : Value) (an : Option Addr) (cdv ct u v w : Value), bindArgs (PySem.W.fnOf nm q (defArgs st) (defBody st) (defScope st) .none kV doc pm an cdv ct) ⟨[u, v, w], []⟩ = pure [(x, u), (y, v), (z, w)]) : Binds K fd [x, y, z] [] :=
  F.binds (ps := [x, y, z]) fun kV doc pm an cdv ct us hl => match us, hl with | [u, v, w], _ => h kV doc pm an cdv ct u v w
theorem bind4 (F : Fun K nm q st f fd)
    (h : ∀ (kV doc pm : Value) (an : Option Addr) (cdv ct u v w t : Value), bindArgs (PySem.W.fnOf nm q (defArgs st) (defBody st) (defScope st) .none kV doc pm an cdv ct) ⟨[u, v, w, t], []⟩ = pure [(x, u), (y, v), (z, w), (u4, t)]) : Binds K fd [x, y, z, u4] [] :=
  F.binds (ps := [x, y, z, u4]) fun kV doc pm an cdv ct us hl => match us, hl with | [u, v, w, t], _ => h kV doc pm an cdv ct u v w t
end
section
variable {P : Program} {w : World} {K : PySem.W.Frag} {mg : Str → Option Value} {base : Heap} {C f : Addr} {fd : FuncData} {k : Nat} {nm : Str} {ps : List Str} {sp : Sp} {st : Stmt}
end
end Rc

namespace Rc
open PySem PySem.Spec PyProof.Rows L2
set_option maxHeartbeats 0 in
theorem all_mk {l : PySem.W.OpenLaw} {w : World} {K : PySem.W.Frag} {h : Heap} {mg : Str → Option Value} {fa C : Addr} (X : K.In h)
    (hfa : mg "law" = some (.ref fa))
    (TC : TopB K mg C)
    (d_is_name : DefOf X mg "is_name" (topS 12))
    (d_is_whole : DefOf X mg "is_whole" (topS 13))
    (d_is_amount : DefOf X mg "is_amount" (topS 14))
    (d_check_persons : DefOf X mg "check_persons" (topS 18))
    (d_check_amount : DefOf X mg "check_amount" (topS 19))
    (d_split_notes : DefOf X mg "split_notes" (topS 20))
    (d_with_changed : DefOf X mg "with_changed" (topS 21))
    (d_is_word : DefOf X mg "is_word" (topS 27))
    (d_is_number : DefOf X mg "is_number" (topS 28))
    (d_number_of : DefOf X mg "number_of" (topS 29))
    (d_is_person_row : DefOf X mg "is_person_row" (topS 35))
    (d_is_note_row : DefOf X mg "is_note_row" (topS 36))
    (d_split_rows : DefOf X mg "split_rows" (topS 37))
    (d_book_of_rows : DefOf X mg "book_of_rows" (topS 38))
    (d_read_book : DefOf X mg "read_book" (topS 39))
    (d_figures_of : DefOf X mg "figures_of" (topS 30))
    (d_person_rows : DefOf X mg "person_rows" (topS 33))
    (d_book_text : DefOf X mg "book_text" (topS 34))
    (d_l_pot : DefOf X mg "_law_pot" (topS 41))
    (d_l_take : DefOf X mg "_law_take" (topS 42))
    (d_l_name : DefOf X mg "_law_name" (topS 43))
    (d_l_names : DefOf X mg "_law_names" (topS 44))
    (d_l_among : DefOf X mg "_law_among" (topS 45))
    (d_l_amount : DefOf X mg "_law_amount" (topS 46))
    (d_l_model : DefOf X mg "_law_model" (topS 47))
    (d_l_parted : DefOf X mg "_law_parted" (topS 48))
    (d_l_left : DefOf X mg "_law_left" (topS 49))
    (d_l_cash : DefOf X mg "_law_cash" (topS 50))
    (d_l_deeds : DefOf X mg "_law_deeds" (topS 51))
    (d_l_done : DefOf X mg "_law_done" (topS 52))
    (d_l_alike : DefOf X mg "_law_alike" (topS 53))
    (d_l_whole : DefOf X mg "_law_whole" (topS 54))
    (d_l_fallen : DefOf X mg "_law_fallen" (topS 55))
    (d_l_settled_some : DefOf X mg "_law_settled_some" (topS 56))
    (d_l_text : DefOf X mg "_law_text" (topS 57))
    (d_l_spoilt : DefOf X mg "_law_spoilt" (topS 58))
    (d_l_crowded : DefOf X mg "_law_crowded" (topS 59))
    (d_l_is_covered : DefOf X mg "_law_is_covered" (topS 60))
    (d_l_read : DefOf X mg "_law_read" (topS 61))
    (d_l_text_right : DefOf X mg "_law_text_right" (topS 62))
    (d_law : DefOf X mg "law" (topS 63))
    (m_init : MethOf K C "__init__" "Book.__init__" (inBook 0))
    (m_with_these : MethOf K C "with_these" "Book.with_these" (inBook 1))
    (m_has : MethOf K C "has" "Book.has" (inBook 4))
    (m_place_of : MethOf K C "place_of" "Book.place_of" (inBook 2))
    (m_persons : MethOf K C "persons" "Book.persons" (inBook 3))
    (m_given : MethOf K C "given" "Book.given" (inBook 5))
    (m_fallen : MethOf K C "fallen" "Book.fallen" (inBook 6))
    (m_notes : MethOf K C "notes" "Book.notes" (inBook 7))
    (m_pile : MethOf K C "pile" "Book.pile" (inBook 8))
    (m_fallen_to : MethOf K C "fallen_to" "Book.fallen_to" (inBook 10))
    (m_cash : MethOf K C "cash" "Book.cash" (inBook 11))
    (m_put : MethOf K C "put" "Book.put" (inBook 12))
    (m_give : MethOf K C "give" "Book.give" (inBook 13))
    (m_key : MethOf K C "key" "Book.key" (inBook 16))
    (m_whole_of : MethOf K C "whole_of" "Book.whole_of" (inBook 9))
    (m_may_fall : MethOf K C "may_fall" "Book.may_fall" (inBook 14))
    (m_let_fall : MethOf K C "let_fall" "Book.let_fall" (inBook 15))
    (m_eq : MethOf K C "__eq__" "Book.__eq__" (inBook 18))
    (c_LETTERS : ConOf mg "LETTERS" (.str "abcdefghijklmnopqrstuvwxyz"))
    (c_LONGEST : ConOf mg "LONGEST" (.int 8))
    (c_MOST : ConOf mg "MOST" (.int 60))
    (c_MOST_PERSONS : ConOf mg "MOST_PERSONS" (.int 12))
    (c_FIGURES : ConOf mg "FIGURES" (.str "0123456789"))
    (c_WIDTH : ConOf mg "WIDTH" (.int 60))
    (c_PIECE : ConOf mg "PIECE" (.int (10 ^ 60)))
    (c_PERSON : ConOf mg "PERSON" (.str "person"))
    (B : Blt mg)
    (B2 : Blt2 mg)
    (B3 : Blt3 mg)
    (xEr : ∃ (Z : Bx) (T CA CV : Addr), E25 l.prog K mg Z T CA CV)
    (gAny : mg "any" = none)
    (TE : ClsE K C) :
    ∃ fd : FuncData, (∀ (s : Shared) (v : Value), BindsTo s fd ⟨[v], []⟩ [("_law_script", v)]) ∧ ∀ base : Heap, K.In base → base.Ns mainGlobals mg → FnG l.prog w K mg base CX0 12 fa fd ["_law_script"] (spLaw K) := by
  obtain ⟨f_is_name, fd_is_name, F_is_name, g_is_name⟩ := d_is_name
  obtain ⟨f_is_whole, fd_is_whole, F_is_whole, g_is_whole⟩ := d_is_whole
  obtain ⟨f_is_amount, fd_is_amount, F_is_amount, g_is_amount⟩ := d_is_amount
  obtain ⟨f_check_persons, fd_check_persons, F_check_persons, g_check_persons⟩ := d_check_persons
  obtain ⟨f_check_amount, fd_check_amount, F_check_amount, g_check_amount⟩ := d_check_amount
  obtain ⟨f_split_notes, fd_split_notes, F_split_notes, g_split_notes⟩ := d_split_notes
  obtain ⟨f_with_changed, fd_with_changed, F_with_changed, g_with_changed⟩ := d_with_changed
  obtain ⟨f_is_word, fd_is_word, F_is_word, g_is_word⟩ := d_is_word
  obtain ⟨f_is_number, fd_is_number, F_is_number, g_is_number⟩ := d_is_number
  obtain ⟨f_number_of, fd_number_of, F_number_of, g_number_of⟩ := d_number_of
  obtain ⟨f_is_person_row, fd_is_person_row, F_is_person_row, g_is_person_row⟩ := d_is_person_row
  obtain ⟨f_is_note_row, fd_is_note_row, F_is_note_row, g_is_note_row⟩ := d_is_note_row
  obtain ⟨f_split_rows, fd_split_rows, F_split_rows, g_split_rows⟩ := d_split_rows
  obtain ⟨f_book_of_rows, fd_book_of_rows, F_book_of_rows, g_book_of_rows⟩ := d_book_of_rows
  obtain ⟨f_read_book, fd_read_book, F_read_book, g_read_book⟩ := d_read_book
  obtain ⟨f_figures_of, fd_figures_of, F_figures_of, g_figures_of⟩ := d_figures_of
  obtain ⟨f_person_rows, fd_person_rows, F_person_rows, g_person_rows⟩ := d_person_rows
  obtain ⟨f_book_text, fd_book_text, F_book_text, g_book_text⟩ := d_book_text
  obtain ⟨f_l_pot, fd_l_pot, F_l_pot, g_l_pot⟩ := d_l_pot
  obtain ⟨f_l_take, fd_l_take, F_l_take, g_l_take⟩ := d_l_take
  obtain ⟨f_l_name, fd_l_name, F_l_name, g_l_name⟩ := d_l_name
  obtain ⟨f_l_names, fd_l_names, F_l_names, g_l_names⟩ := d_l_names
  obtain ⟨f_l_among, fd_l_among, F_l_among, g_l_among⟩ := d_l_among
  obtain ⟨f_l_amount, fd_l_amount, F_l_amount, g_l_amount⟩ := d_l_amount
  obtain ⟨f_l_model, fd_l_model, F_l_model, g_l_model⟩ := d_l_model
  obtain ⟨f_l_parted, fd_l_parted, F_l_parted, g_l_parted⟩ := d_l_parted
  obtain ⟨f_l_left, fd_l_left, F_l_left, g_l_left⟩ := d_l_left
  obtain ⟨f_l_cash, fd_l_cash, F_l_cash, g_l_cash⟩ := d_l_cash
  obtain ⟨f_l_deeds, fd_l_deeds, F_l_deeds, g_l_deeds⟩ := d_l_deeds
  obtain ⟨f_l_done, fd_l_done, F_l_done, g_l_done⟩ := d_l_done
  obtain ⟨f_l_alike, fd_l_alike, F_l_alike, g_l_alike⟩ := d_l_alike
  obtain ⟨f_l_whole, fd_l_whole, F_l_whole, g_l_whole⟩ := d_l_whole
  obtain ⟨f_l_fallen, fd_l_fallen, F_l_fallen, g_l_fallen⟩ := d_l_fallen
  obtain ⟨f_l_settled_some, fd_l_settled_some, F_l_settled_some, g_l_settled_some⟩ := d_l_settled_some
  obtain ⟨f_l_text, fd_l_text, F_l_text, g_l_text⟩ := d_l_text
  obtain ⟨f_l_spoilt, fd_l_spoilt, F_l_spoilt, g_l_spoilt⟩ := d_l_spoilt
  obtain ⟨f_l_crowded, fd_l_crowded, F_l_crowded, g_l_crowded⟩ := d_l_crowded
  obtain ⟨f_l_is_covered, fd_l_is_covered, F_l_is_covered, g_l_is_covered⟩ := d_l_is_covered
  obtain ⟨f_l_read, fd_l_read, F_l_read, g_l_read⟩ := d_l_read
  obtain ⟨f_l_text_right, fd_l_text_right, F_l_text_right, g_l_text_right⟩ := d_l_text_right
  obtain ⟨f_law, fd_law, F_law, g_law⟩ := d_law
  obtain ⟨f_init, fd_init, F_init, M_init⟩ := m_init
  obtain ⟨f_with_these, fd_with_these, F_with_these, M_with_these⟩ := m_with_these
  obtain ⟨f_has, fd_has, F_has, M_has⟩ := m_has
  obtain ⟨f_place_of, fd_place_of, F_place_of, M_place_of⟩ := m_place_of
  obtain ⟨f_persons, fd_persons, F_persons, M_persons⟩ := m_persons
  obtain ⟨f_given, fd_given, F_given, M_given⟩ := m_given
  obtain ⟨f_fallen, fd_fallen, F_fallen, M_fallen⟩ := m_fallen
  obtain ⟨f_notes, fd_notes, F_notes, M_notes⟩ := m_notes
  obtain ⟨f_pile, fd_pile, F_pile, M_pile⟩ := m_pile
  obtain ⟨f_fallen_to, fd_fallen_to, F_fallen_to, M_fallen_to⟩ := m_fallen_to
  obtain ⟨f_cash, fd_cash, F_cash, M_cash⟩ := m_cash
  obtain ⟨f_put, fd_put, F_put, M_put⟩ := m_put
  obtain ⟨f_give, fd_give, F_give, M_give⟩ := m_give
  obtain ⟨f_key, fd_key, F_key, M_key⟩ := m_key
  obtain ⟨f_whole_of, fd_whole_of, F_whole_of, M_whole_of⟩ := m_whole_of
  obtain ⟨f_may_fall, fd_may_fall, F_may_fall, M_may_fall⟩ := m_may_fall
  obtain ⟨f_let_fall, fd_let_fall, F_let_fall, M_let_fall⟩ := m_let_fall
  obtain ⟨f_eq, fd_eq, F_eq, M_eq⟩ := m_eq
  obtain ⟨u_LETTERS, g_LETTERS, t_LETTERS, rfl⟩ := c_LETTERS
  obtain ⟨u_LONGEST, g_LONGEST, t_LONGEST, rfl⟩ := c_LONGEST
  obtain ⟨u_MOST, g_MOST, t_MOST, rfl⟩ := c_MOST
  obtain ⟨u_MOST_PERSONS, g_MOST_PERSONS, t_MOST_PERSONS, rfl⟩ := c_MOST_PERSONS
  obtain ⟨u_FIGURES, g_FIGURES, t_FIGURES, rfl⟩ := c_FIGURES
  obtain ⟨u_WIDTH, g_WIDTH, t_WIDTH, rfl⟩ := c_WIDTH
  obtain ⟨u_PIECE, g_PIECE, t_PIECE, rfl⟩ := c_PIECE
  obtain ⟨u_PERSON, g_PERSON, t_PERSON, rfl⟩ := c_PERSON
  obtain ⟨EZ, CT, CA, CV, ER⟩ := xEr
  have e := hfa.symm.trans g_law
  cases e
  refine ⟨fd_law, fun s v => ?_, fun base _ _ => ?_⟩
  · obtain ⟨oc, od, kV, doc, pm, an, cdv, ct, osl, rfl, lk, hcd⟩ := F_law.ex
    exact .of_eq rfl
  · have T := TC.T
    have NM : Has l.prog w K mg base 1 "is_name" ["thing"] (spBool K nameD) f_is_name fd_is_name := ⟨ok_name F_is_name B ⟨t_LETTERS, g_LETTERS⟩ ⟨t_LONGEST, g_LONGEST⟩, g_is_name, F_is_name.kp, (bind1 F_is_name fun _ _ _ _ _ _ _ => rfl)⟩
    have WH : Has l.prog w K mg base 1 "is_whole" ["thing"] (spBool K wholeD) f_is_whole fd_is_whole := ⟨ok_whole F_is_whole B, g_is_whole, F_is_whole.kp, (bind1 F_is_whole fun _ _ _ _ _ _ _ => rfl)⟩
    have AMT : Has l.prog w K mg base 2 "is_amount" ["thing"] (spBool K amountD) f_is_amount fd_is_amount := ⟨ok_amount F_is_amount F_is_whole (bind1 F_is_whole fun _ _ _ _ _ _ _ => rfl) g_is_whole B, g_is_amount, F_is_amount.kp, (bind1 F_is_amount fun _ _ _ _ _ _ _ => rfl)⟩
    have CKP : Has l.prog w K mg base 2 "check_persons" ["persons"] (spCheckP K) f_check_persons fd_check_persons := ⟨ok_checkP F_check_persons B B3 ⟨t_MOST_PERSONS, g_MOST_PERSONS⟩ NM, g_check_persons, F_check_persons.kp, (bind1 F_check_persons fun _ _ _ _ _ _ _ => rfl)⟩
    have CKA : Has l.prog w K mg base 3 "check_amount" ["amount"] (spCheckA K) f_check_amount fd_check_amount := ⟨ok_checkA F_check_amount AMT, g_check_amount, F_check_amount.kp, (bind1 F_check_amount fun _ _ _ _ _ _ _ => rfl)⟩
    have CHG : Has l.prog w K mg base 1 "with_changed" ["row", "place", "thing"] (spChg K) f_with_changed fd_with_changed := ⟨ok_chg F_with_changed, g_with_changed, F_with_changed.kp, (bind3 F_with_changed fun _ _ _ _ _ _ _ _ _ => rfl)⟩
    have SPL : Has l.prog w K mg base 1 "split_notes" ["notes", "fallen"] (spSplit K) f_split_notes fd_split_notes := ⟨ok_split F_split_notes B2, g_split_notes, F_split_notes.kp, (bind2 F_split_notes fun _ _ _ _ _ _ _ _ => rfl)⟩
    have GI : FnOk l.prog w K mg base CX0 3 f_init fd_init ["self", "persons"] (spInit K C) := ok_init F_init T B B3 CKP
    have bI : Binds K fd_init ["self", "persons"] [] := (bind2 F_init fun _ _ _ _ _ _ _ _ => rfl)
    have MK : Mk K C f_init := ⟨TC.makes, M_init.at_, M_init.fn, TC.kp⟩
    have WT : HasM l.prog w K mg base C 5 "with_these" ["self", "gifts", "stacks", "drops"] (spWith K C) f_with_these fd_with_these := ⟨ok_with F_with_these T B3 MK TC.g GI bI, M_with_these, (bind4 F_with_these fun _ _ _ _ _ _ _ _ _ _ => rfl)⟩
    have HS : HasM l.prog w K mg base C 2 "has" ["self", "who"] (spHas K C) f_has fd_has := ⟨ok_has F_has T NM, M_has, (bind2 F_has fun _ _ _ _ _ _ _ _ => rfl)⟩
    have PL : HasM l.prog w K mg base C 3 "place_of" ["self", "who"] (spPlace K C) f_place_of fd_place_of := ⟨ok_place F_place_of T HS, M_place_of, (bind2 F_place_of fun _ _ _ _ _ _ _ _ => rfl)⟩
    have PS : HasM l.prog w K mg base C 1 "persons" ["self"] (spPersons K C) f_persons fd_persons := ⟨ok_persons F_persons T B3, M_persons, (bind1 F_persons fun _ _ _ _ _ _ _ => rfl)⟩
    have GV : HasM l.prog w K mg base C 4 "given" ["self", "who"] (spNum K C Bk.gifts) f_given fd_given := ⟨ok_given F_given T PL, M_given, (bind2 F_given fun _ _ _ _ _ _ _ _ => rfl)⟩
    have FL : HasM l.prog w K mg base C 4 "fallen" ["self", "who"] (spNum K C Bk.drops) f_fallen fd_fallen := ⟨ok_fallen F_fallen T PL, M_fallen, (bind2 F_fallen fun _ _ _ _ _ _ _ _ => rfl)⟩
    have NT : HasM l.prog w K mg base C 4 "notes" ["self", "who"] (spRow K C fun l _ => l) f_notes fd_notes := ⟨ok_notes F_notes T B3 PL, M_notes, (bind2 F_notes fun _ _ _ _ _ _ _ _ => rfl)⟩
    have PI : HasM l.prog w K mg base C 5 "pile" ["self", "who"] (spRow K C leftN) f_pile fd_pile := ⟨ok_pile F_pile T SPL NT FL, M_pile, (bind2 F_pile fun _ _ _ _ _ _ _ _ => rfl)⟩
    have FT : HasM l.prog w K mg base C 4 "fallen_to" ["self", "who"] (spCalc K C fun M _ z => fallTo M z) f_fallen_to fd_fallen_to := ⟨ok_fallTo F_fallen_to T B3 PL SPL, M_fallen_to, (bind2 F_fallen_to fun _ _ _ _ _ _ _ _ => rfl)⟩
    have CS : HasM l.prog w K mg base C 5 "cash" ["self", "who"] (spCalc K C cashM) f_cash fd_cash := ⟨ok_cash F_cash T GV FT FL, M_cash, (bind2 F_cash fun _ _ _ _ _ _ _ _ => rfl)⟩
    have PU : HasM l.prog w K mg base C 6 "put" ["self", "who", "to", "amount"] (spPut K C) f_put fd_put := ⟨ok_put F_put T B B3 ⟨t_MOST, g_MOST⟩ PL CKA CHG WT, M_put, (bind4 F_put fun _ _ _ _ _ _ _ _ _ _ => rfl)⟩
    have GE : HasM l.prog w K mg base C 6 "give" ["self", "who", "amount"] (spGive K C) f_give fd_give := ⟨ok_give F_give T PL CKA CHG WT, M_give, (bind3 F_give fun _ _ _ _ _ _ _ _ _ => rfl)⟩
    have KY : HasM l.prog w K mg base C 1 "key" ["self"] (spKey K C) f_key fd_key := ⟨ok_key F_key T, M_key, (bind1 F_key fun _ _ _ _ _ _ _ => rfl)⟩
    have WO : HasM l.prog w K mg base C 5 "whole_of" ["self", "who"] (spCalc K C fun M j _ => wholeN (M.stacks.getD j [])) f_whole_of fd_whole_of := ⟨ok_whOf F_whole_of T B3 NT, M_whole_of, (bind2 F_whole_of fun _ _ _ _ _ _ _ _ => rfl)⟩
    have MF : HasM l.prog w K mg base C 6 "may_fall" ["self", "more"] (spMayT l.prog w K C) f_may_fall fd_may_fall := ⟨ok_mayT F_may_fall T B B3 HS WH FL WO, M_may_fall, (bind2 F_may_fall fun _ _ _ _ _ _ _ _ => rfl)⟩
    have LFT : HasM l.prog w K mg base C 7 "let_fall" ["self", "more"] (spLetT K C) f_let_fall fd_let_fall := ⟨ok_letT F_let_fall T B3 MF FL WT CS, M_let_fall, (bind2 F_let_fall fun _ _ _ _ _ _ _ _ => rfl)⟩
    have LFX : HasMXN l.prog w K mg base C 7 "let_fall" ["self", "more"] (spLetX l.prog w K C EZ.V EZ.S) f_let_fall fd_let_fall := ⟨no_letT F_let_fall T B3 ER.V ER.S MF FL WT CS, M_let_fall, (bind2 F_let_fall fun _ _ _ _ _ _ _ _ => rfl)⟩
    have LFO : HasMXN l.prog w K mg base C 7 "let_fall" ["self", "more"] (spLetB l.prog w K C EZ.V EZ.S) f_let_fall fd_let_fall := ⟨fnOr (FnOk.upN LFT.ok) LFX.ok, M_let_fall, (bind2 F_let_fall fun _ _ _ _ _ _ _ _ => rfl)⟩
    have PLN : HasMXN l.prog w K mg base C 3 "place_of" ["self", "who"] (spNo K C EZ.X.N) f_place_of fd_place_of := ⟨no_place F_place_of T ER.N HS, M_place_of, (bind2 F_place_of fun _ _ _ _ _ _ _ _ => rfl)⟩
    have CAN : HasXN l.prog w K mg base 3 "check_amount" ["amount"] (spCAX K EZ.X.A) f_check_amount fd_check_amount := ⟨no_checkA F_check_amount ER.A AMT, g_check_amount, F_check_amount.kp, (bind1 F_check_amount fun _ _ _ _ _ _ _ => rfl)⟩
    have PUR : HasMXN l.prog w K mg base C 6 "put" ["self", "who", "to", "amount"] (spPuR K C EZ.X) f_put fd_put := ⟨no_puR F_put T B B3 ⟨t_MOST, g_MOST⟩ ER.F PL PLN.ok CKA CAN.ok, M_put, (bind4 F_put fun _ _ _ _ _ _ _ _ _ _ => rfl)⟩
    have PUT : HasMXN l.prog w K mg base C 6 "put" ["self", "who", "to", "amount"] (spPuT K C EZ.X) f_put fd_put := ⟨fnOr (FnOk.upN PU.ok) PUR.ok, M_put, (bind4 F_put fun _ _ _ _ _ _ _ _ _ _ => rfl)⟩
    have CKX : HasXN l.prog w K mg base 2 "check_persons" ["persons"] (spCkX K EZ.B) f_check_persons fd_check_persons := ⟨no_checkP F_check_persons B B3 ER.B ⟨t_MOST_PERSONS, g_MOST_PERSONS⟩ NM, g_check_persons, F_check_persons.kp, (bind1 F_check_persons fun _ _ _ _ _ _ _ => rfl)⟩
    have GIX : FnOk l.prog w K mg base (L2N.CX l.prog w) 3 f_init fd_init ["self", "persons"] (spInX K EZ.B) := no_init (C := C) F_init CKX
    have GIO : FnOk l.prog w K mg base (L2N.CX l.prog w) 3 f_init fd_init ["self", "persons"] (spInT K C EZ.B) := fnOr (FnOk.upN GI) GIX
    have TK : HasTake l.prog w K mg base f_l_take fd_l_take := ⟨ok_take F_l_take B2, g_l_take, F_l_take.kp, (bind2 F_l_take fun _ _ _ _ _ _ _ _ => rfl)⟩
    have AM : HasAmong l.prog w K mg base f_l_among fd_l_among := ⟨ok_among F_l_among B TK, g_l_among, F_l_among.kp, (bind2 F_l_among fun _ _ _ _ _ _ _ _ => rfl)⟩
    have LP : Has l.prog w K mg base 3 "_law_pot" ["_law_script", "_law_k"] (spPot K) f_l_pot fd_l_pot := ⟨ok_pot F_l_pot B B2, g_l_pot, F_l_pot.kp, (bind2 F_l_pot fun _ _ _ _ _ _ _ _ => rfl)⟩
    have LNM : Has l.prog w K mg base 2 "_law_name" ["_law_pot_here", "_law_used"] spLNm f_l_name fd_l_name := ⟨ok_lnm F_l_name B B2 TK, g_l_name, F_l_name.kp, (bind2 F_l_name fun _ _ _ _ _ _ _ _ => rfl)⟩
    have LNS : Has l.prog w K mg base 3 "_law_names" ["_law_pot_here", "_law_many"] spLNms f_l_names fd_l_names := ⟨ok_lnms F_l_names B2 LNM, g_l_names, F_l_names.kp, (bind2 F_l_names fun _ _ _ _ _ _ _ _ => rfl)⟩
    have LAM : Has l.prog w K mg base 2 "_law_amount" ["_law_pot_here", "_law_size"] spLAm f_l_amount fd_l_amount := ⟨ok_lam F_l_amount TK, g_l_amount, F_l_amount.kp, (bind2 F_l_amount fun _ _ _ _ _ _ _ _ => rfl)⟩
    have LMD : Has l.prog w K mg base 1 "_law_model" ["_law_names_here"] (spLMd K) f_l_model fd_l_model := ⟨ok_lmd F_l_model B3, g_l_model, F_l_model.kp, (bind1 F_l_model fun _ _ _ _ _ _ _ => rfl)⟩
    have LPT : Has l.prog w K mg base 1 "_law_parted" ["_law_model_here", "_law_who"] (spLPt K) f_l_parted fd_l_parted := ⟨ok_lpt F_l_parted B B2, g_l_parted, F_l_parted.kp, (bind2 F_l_parted fun _ _ _ _ _ _ _ _ => rfl)⟩
    have LLF : Has l.prog w K mg base 2 "_law_left" ["_law_model_here", "_law_who"] (spLLf K) f_l_left fd_l_left := ⟨ok_llf F_l_left LPT, g_l_left, F_l_left.kp, (bind2 F_l_left fun _ _ _ _ _ _ _ _ => rfl)⟩
    have WD : Has l.prog w K mg base 1 "is_word" ["text"] (spTrue fun z => wordT z = true) f_is_word fd_is_word := ⟨ok_word F_is_word B ⟨t_LETTERS, g_LETTERS⟩, g_is_word, F_is_word.kp, (bind1 F_is_word fun _ _ _ _ _ _ _ => rfl)⟩
    have NB : Has l.prog w K mg base 1 "is_number" ["text"] (spTrue fun z => ∃ n, FigOk n ∧ z = SX.S (figL n)) f_is_number fd_is_number := ⟨ok_numb F_is_number B ⟨t_FIGURES, g_FIGURES⟩, g_is_number, F_is_number.kp, (bind1 F_is_number fun _ _ _ _ _ _ _ => rfl)⟩
    have NOF : Has l.prog w K mg base 1 "number_of" ["figures"] spNof f_number_of fd_number_of := ⟨ok_nof F_number_of B B2 ⟨t_WIDTH, g_WIDTH⟩ ⟨t_PIECE, g_PIECE⟩, g_number_of, F_number_of.kp, (bind1 F_number_of fun _ _ _ _ _ _ _ => rfl)⟩
    have PRW : Has l.prog w K mg base 2 "is_person_row" ["words"] (spIsR (fun _ => True) isPer) f_is_person_row fd_is_person_row := ⟨ok_prw F_is_person_row B ⟨t_PERSON, g_PERSON⟩ WD NB, g_is_person_row, F_is_person_row.kp, (bind1 F_is_person_row fun _ _ _ _ _ _ _ => rfl)⟩
    have NRW : Has l.prog w K mg base 2 "is_note_row" ["words"] (spIsR (fun r => isPer r = false) fun _ => true) f_is_note_row fd_is_note_row := ⟨ok_nrw F_is_note_row B WD NB, g_is_note_row, F_is_note_row.kp, (bind1 F_is_note_row fun _ _ _ _ _ _ _ => rfl)⟩
    have SPR : Has l.prog w K mg base 3 "split_rows" ["text"] spSpr f_split_rows fd_split_rows := ⟨ok_spr F_split_rows B3.enumerate PRW NRW, g_split_rows, F_split_rows.kp, (bind1 F_split_rows fun _ _ _ _ _ _ _ => rfl)⟩
    have BOR : HasXN l.prog w K mg base 8 "book_of_rows" ["rows"] (spBorT K C EZ) f_book_of_rows fd_book_of_rows := ⟨ok_borT F_book_of_rows T MK TC.g GIO bI PRW NOF GE PUT LFO, g_book_of_rows, F_book_of_rows.kp, (bind1 F_book_of_rows fun _ _ _ _ _ _ _ => rfl)⟩
    have RDB : HasX l.prog w K mg base 9 "read_book" ["text"] (spRdbT K C CT) f_read_book fd_read_book := ⟨ok_rdbT F_read_book B ER.nT ER.six SPR BOR, g_read_book, F_read_book.kp, (bind1 F_read_book fun _ _ _ _ _ _ _ => rfl)⟩
    have EQB : HasM l.prog w K mg base C 2 "__eq__" ["self", "other"] (spEqB K C) f_eq fd_eq := ⟨ok_eqB F_eq T TE B TC.g KY, M_eq, (bind2 F_eq fun _ _ _ _ _ _ _ _ => rfl)⟩
    have FOF : Has l.prog w K mg base 1 "figures_of" ["number"] spFof f_figures_of fd_figures_of := ⟨ok_fof F_figures_of B ⟨t_PIECE, g_PIECE⟩, g_figures_of, F_figures_of.kp, (bind1 F_figures_of fun _ _ _ _ _ _ _ => rfl)⟩
    have PRS : Has l.prog w K mg base 5 "person_rows" ["book", "who"] (spPrs K C) f_person_rows fd_person_rows := ⟨ok_prs F_person_rows T ⟨t_PERSON, g_PERSON⟩ FOF GV FL NT, g_person_rows, F_person_rows.kp, (bind2 F_person_rows fun _ _ _ _ _ _ _ _ => rfl)⟩
    have BTX : Has l.prog w K mg base 6 "book_text" ["book"] (spBtx K C) f_book_text fd_book_text := ⟨ok_btx F_book_text T PRS PS, g_book_text, F_book_text.kp, (bind1 F_book_text fun _ _ _ _ _ _ _ => rfl)⟩
    have LCS : Has l.prog w K mg base 2 "_law_cash" ["_law_model_here", "_law_who"] (spLCs K) f_l_cash fd_l_cash := ⟨ok_lcs F_l_cash B3 LPT, g_l_cash, F_l_cash.kp, (bind2 F_l_cash fun _ _ _ _ _ _ _ _ => rfl)⟩
    have LDS : Has l.prog w K mg base 3 "_law_deeds" ["_law_pot_here", "_law_names_here", "_law_many", "_law_size"] (spLDs K) f_l_deeds fd_l_deeds := ⟨ok_lds F_l_deeds B2 TK AM LAM, g_l_deeds, F_l_deeds.kp, (bind4 F_l_deeds fun _ _ _ _ _ _ _ _ _ _ => rfl)⟩
    have LDN : Has l.prog w K mg base 1 "_law_done" ["_law_model_here", "_law_deed"] (spLDn K) f_l_done fd_l_done := ⟨ok_ldn F_l_done, g_l_done, F_l_done.kp, (bind2 F_l_done fun _ _ _ _ _ _ _ _ => rfl)⟩
    have LAL : HasG l.prog w K mg base 6 "_law_alike" ["_law_model_here", "_law_book"] (spLAl K C) f_l_alike fd_l_alike := ⟨ok_lal F_l_alike T B2 PS GV FL CS NT PI LCS LLF, g_l_alike, F_l_alike.kp, (bind2 F_l_alike fun _ _ _ _ _ _ _ _ => rfl)⟩
    have LWH : Has l.prog w K mg base 1 "_law_whole" ["_law_model_here", "_law_who"] (spLWh K) f_l_whole fd_l_whole := ⟨ok_lwh F_l_whole B3, g_l_whole, F_l_whole.kp, (bind2 F_l_whole fun _ _ _ _ _ _ _ _ => rfl)⟩
    have LFA : Has l.prog w K mg base 3 "_law_fallen" ["_law_pot_here", "_law_model_here"] (spLFa K) f_l_fallen fd_l_fallen := ⟨ok_lfa F_l_fallen B2 TK AM, g_l_fallen, F_l_fallen.kp, (bind2 F_l_fallen fun _ _ _ _ _ _ _ _ => rfl)⟩
    have LSS : Has l.prog w K mg base 3 "_law_settled_some" ["_law_model_here"] (spLSs K) f_l_settled_some fd_l_settled_some := ⟨ok_lss F_l_settled_some B2 LCS, g_l_settled_some, F_l_settled_some.kp, (bind1 F_l_settled_some fun _ _ _ _ _ _ _ => rfl)⟩
    have LTX : Has l.prog w K mg base 1 "_law_text" ["_law_model_here"] (spLTx K) f_l_text fd_l_text := ⟨ok_ltx F_l_text B, g_l_text, F_l_text.kp, (bind1 F_l_text fun _ _ _ _ _ _ _ => rfl)⟩
    have LSO : Has l.prog w K mg base 2 "_law_spoilt" ["_law_pot_here", "_law_model_here", "_law_text_here"] (spLSo25 K) f_l_spoilt fd_l_spoilt := ⟨ok_lso25 F_l_spoilt TK, g_l_spoilt, F_l_spoilt.kp, (bind3 F_l_spoilt fun _ _ _ _ _ _ _ _ _ => rfl)⟩
    have LCR : Has l.prog w K mg base 1 "_law_crowded" ["_law_model_here", "_law_many"] (spLCr K) f_l_crowded fd_l_crowded := ⟨ok_lcr F_l_crowded B B3, g_l_crowded, F_l_crowded.kp, (bind2 F_l_crowded fun _ _ _ _ _ _ _ _ => rfl)⟩
    have LCO : Has l.prog w K mg base 3 "_law_is_covered" ["_law_model_here"] (spLCo K) f_l_is_covered fd_l_is_covered := ⟨ok_lco F_l_is_covered B gAny LWH LCS, g_l_is_covered, F_l_is_covered.kp, (bind1 F_l_is_covered fun _ _ _ _ _ _ _ => rfl)⟩
    have LRD : Has l.prog w K mg base 10 "_law_read" ["_law_text_here"] (spLRd K C) f_l_read fd_l_read := ⟨ok_lrd F_l_read ER.t RDB, g_l_read, F_l_read.kp, (bind1 F_l_read fun _ _ _ _ _ _ _ => rfl)⟩
    have LTR : HasG l.prog w K mg base 11 "_law_text_right" ["_law_model_here"] (spLTr K) f_l_text_right fd_l_text_right := ⟨ok_ltr F_l_text_right B B2 B3 T TE TC.g LTX LRD LCO LAL BTX PU GE LFT EQB MK GI bI, g_l_text_right, F_l_text_right.kp, (bind1 F_l_text_right fun _ _ _ _ _ _ _ => rfl)⟩
    exact ok_law F_law B B2 B3 T TE TC.g LP TK LNS LMD LDS LDN LFA LSS LTR LTX LSO LRD LWH LCR BTX
end Rc

set_option pp.maxSteps 300
set_option pp.deepTerms false
open PySem PySem.W PyProof.Rows
set_option maxHeartbeats 0 in
theorem PySem.Challenge.cw_ringclear_k25_not_covered_holds : PySem.Challenge.rw_ringclear_k25_not_covered.Holds := by
  w_on; o_law; k_head; (case hw => w_witness2)
  k_fill
  refine Rc.walk_ofG (l := PySem.Challenge.rw_ringclear_k25_not_covered) (n := 63) (k := 12) (x := "_law_script") (CX := fun _ => L2.CX0) (sp := fun w => Rc.spLaw _) rfl (by decide) rfl ⟨rfl, by decide, by decide⟩ (fun w h Y => PySem.W.kIn_of Y) ?F (fun _ _ a ns hl _ hS => ⟨a, ns, rfl, hS, hl, fun _ => rfl⟩) (fun _ _ _ _ _ h => h)
  case F =>
    intro w mg fa h KX G hmg
    refine' Rc.all_mk KX hmg ?TC ?d_is_name ?d_is_whole ?d_is_amount ?d_check_persons ?d_check_amount ?d_split_notes ?d_with_changed ?d_is_word ?d_is_number ?d_number_of ?d_is_person_row ?d_is_note_row ?d_split_rows ?d_book_of_rows ?d_read_book ?d_figures_of ?d_person_rows ?d_book_text ?d_l_pot ?d_l_take ?d_l_name ?d_l_names ?d_l_among ?d_l_amount ?d_l_model ?d_l_parted ?d_l_left ?d_l_cash ?d_l_deeds ?d_l_done ?d_l_alike ?d_l_whole ?d_l_fallen ?d_l_settled_some ?d_l_text ?d_l_spoilt ?d_l_crowded ?d_l_is_covered ?d_l_read ?d_l_text_right ?d_law ?m_init ?m_with_these ?m_has ?m_place_of ?m_persons ?m_given ?m_fallen ?m_notes ?m_pile ?m_fallen_to ?m_cash ?m_put ?m_give ?m_key ?m_whole_of ?m_may_fall ?m_let_fall ?m_eq ?c_LETTERS ?c_LONGEST ?c_MOST ?c_MOST_PERSONS ?c_FIGURES ?c_WIDTH ?c_PIECE ?c_PERSON ?B ?B2 ?B3 ?xEr ?gAny ?TE
    case TC => (refine' Rc.mkTop KX G ?tcA ?tcPg ?tcHd ?tcPo ?tcSa ?tcMk ?tcKc ?tcN1 ?tcN2 ?tcN3 ?tcN4; (case tcA => k_is); (case tcPg => k_is); (case tcHd => k_is); (case tcPo => k_is); (case tcSa => k_is); (case tcMk => k_is); (case tcKc => k_is); (case tcN1 => k_is); (case tcN2 => k_is); (case tcN3 => k_is); (case tcN4 => k_is))
    case c_LETTERS => (refine' Rc.con_of KX G ?ca_LETTERS ?cr_LETTERS; (case ca_LETTERS => k_is); (case cr_LETTERS => exact ⟨_, rfl⟩))
    case c_LONGEST => (refine' Rc.con_of KX G ?ca_LONGEST ?cr_LONGEST; (case ca_LONGEST => k_is); (case cr_LONGEST => exact ⟨_, rfl⟩))
    case c_MOST => (refine' Rc.con_of KX G ?ca_MOST ?cr_MOST; (case ca_MOST => k_is); (case cr_MOST => exact ⟨_, rfl⟩))
    case c_MOST_PERSONS => (refine' Rc.con_of KX G ?ca_MOST_PERSONS ?cr_MOST_PERSONS; (case ca_MOST_PERSONS => k_is); (case cr_MOST_PERSONS => exact ⟨_, rfl⟩))
    case c_FIGURES => (refine' Rc.con_of KX G ?ca_FIGURES ?cr_FIGURES; (case ca_FIGURES => k_is); (case cr_FIGURES => exact ⟨_, rfl⟩))
    case c_WIDTH => (refine' Rc.con_of KX G ?ca_WIDTH ?cr_WIDTH; (case ca_WIDTH => k_is); (case cr_WIDTH => exact ⟨_, rfl⟩))
    case c_PIECE => (refine' Rc.con_of KX G ?ca_PIECE ?cr_PIECE; (case ca_PIECE => k_is); (case cr_PIECE => exact ⟨_, rfl⟩))
    case c_PERSON => (refine' Rc.con_of KX G ?ca_PERSON ?cr_PERSON; (case ca_PERSON => k_is); (case cr_PERSON => exact ⟨_, rfl⟩))
    case B => (refine' ⟨PySem.W.mg_none_of KX G ?Bz0, PySem.W.mg_none_of KX G ?Bz1, PySem.W.mg_none_of KX G ?Bz2, PySem.W.mg_none_of KX G ?Bz3, PySem.W.mg_none_of KX G ?Bz4, PySem.W.mg_none_of KX G ?Bz5⟩; (case Bz0 => k_is); (case Bz1 => k_is); (case Bz2 => k_is); (case Bz3 => k_is); (case Bz4 => k_is); (case Bz5 => k_is))
    case B2 => (refine' ⟨PySem.W.mg_none_of KX G ?B2z0, PySem.W.mg_none_of KX G ?B2z1, PySem.W.mg_none_of KX G ?B2z2, PySem.W.mg_none_of KX G ?B2z3, PySem.W.mg_none_of KX G ?B2z4, PySem.W.mg_none_of KX G ?B2z5⟩; (case B2z0 => k_is); (case B2z1 => k_is); (case B2z2 => k_is); (case B2z3 => k_is); (case B2z4 => k_is); (case B2z5 => k_is))
    case B3 => (refine' ⟨PySem.W.mg_none_of KX G ?B3z0, PySem.W.mg_none_of KX G ?B3z1, PySem.W.mg_none_of KX G ?B3z2, PySem.W.mg_none_of KX G ?B3z3, PySem.W.mg_none_of KX G ?B3z4, PySem.W.mg_none_of KX G ?B3z5⟩; (case B3z0 => k_is); (case B3z1 => k_is); (case B3z2 => k_is); (case B3z3 => k_is); (case B3z4 => k_is); (case B3z5 => k_is))
    case d_is_name => (refine' Rc.mkDef KX G ?a_d_is_name ?l_d_is_name ?c_d_is_name ?k_d_is_name; (case a_d_is_name => k_is); (case l_d_is_name => k_is); (case c_d_is_name => k_is); (case k_d_is_name => k_is))
    case d_is_whole => (refine' Rc.mkDef KX G ?a_d_is_whole ?l_d_is_whole ?c_d_is_whole ?k_d_is_whole; (case a_d_is_whole => k_is); (case l_d_is_whole => k_is); (case c_d_is_whole => k_is); (case k_d_is_whole => k_is))
    case d_is_amount => (refine' Rc.mkDef KX G ?a_d_is_amount ?l_d_is_amount ?c_d_is_amount ?k_d_is_amount; (case a_d_is_amount => k_is); (case l_d_is_amount => k_is); (case c_d_is_amount => k_is); (case k_d_is_amount => k_is))
    case d_check_persons => (refine' Rc.mkDef KX G ?a_d_check_persons ?l_d_check_persons ?c_d_check_persons ?k_d_check_persons; (case a_d_check_persons => k_is); (case l_d_check_persons => k_is); (case c_d_check_persons => k_is); (case k_d_check_persons => k_is))
    case d_check_amount => (refine' Rc.mkDef KX G ?a_d_check_amount ?l_d_check_amount ?c_d_check_amount ?k_d_check_amount; (case a_d_check_amount => k_is); (case l_d_check_amount => k_is); (case c_d_check_amount => k_is); (case k_d_check_amount => k_is))
    case d_split_notes => (refine' Rc.mkDef KX G ?a_d_split_notes ?l_d_split_notes ?c_d_split_notes ?k_d_split_notes; (case a_d_split_notes => k_is); (case l_d_split_notes => k_is); (case c_d_split_notes => k_is); (case k_d_split_notes => k_is))
    case d_with_changed => (refine' Rc.mkDef KX G ?a_d_with_changed ?l_d_with_changed ?c_d_with_changed ?k_d_with_changed; (case a_d_with_changed => k_is); (case l_d_with_changed => k_is); (case c_d_with_changed => k_is); (case k_d_with_changed => k_is))
    case d_is_word => (refine' Rc.mkDef KX G ?a_d_is_word ?l_d_is_word ?c_d_is_word ?k_d_is_word; (case a_d_is_word => k_is); (case l_d_is_word => k_is); (case c_d_is_word => k_is); (case k_d_is_word => k_is))
    case d_is_number => (refine' Rc.mkDef KX G ?a_d_is_number ?l_d_is_number ?c_d_is_number ?k_d_is_number; (case a_d_is_number => k_is); (case l_d_is_number => k_is); (case c_d_is_number => k_is); (case k_d_is_number => k_is))
    case d_number_of => (refine' Rc.mkDef KX G ?a_d_number_of ?l_d_number_of ?c_d_number_of ?k_d_number_of; (case a_d_number_of => k_is); (case l_d_number_of => k_is); (case c_d_number_of => k_is); (case k_d_number_of => k_is))
    case d_is_person_row => (refine' Rc.mkDef KX G ?a_d_is_person_row ?l_d_is_person_row ?c_d_is_person_row ?k_d_is_person_row; (case a_d_is_person_row => k_is); (case l_d_is_person_row => k_is); (case c_d_is_person_row => k_is); (case k_d_is_person_row => k_is))
    case d_is_note_row => (refine' Rc.mkDef KX G ?a_d_is_note_row ?l_d_is_note_row ?c_d_is_note_row ?k_d_is_note_row; (case a_d_is_note_row => k_is); (case l_d_is_note_row => k_is); (case c_d_is_note_row => k_is); (case k_d_is_note_row => k_is))
    case d_split_rows => (refine' Rc.mkDef KX G ?a_d_split_rows ?l_d_split_rows ?c_d_split_rows ?k_d_split_rows; (case a_d_split_rows => k_is); (case l_d_split_rows => k_is); (case c_d_split_rows => k_is); (case k_d_split_rows => k_is))
    case d_book_of_rows => (refine' Rc.mkDef KX G ?a_d_book_of_rows ?l_d_book_of_rows ?c_d_book_of_rows ?k_d_book_of_rows; (case a_d_book_of_rows => k_is); (case l_d_book_of_rows => k_is); (case c_d_book_of_rows => k_is); (case k_d_book_of_rows => k_is))
    case d_read_book => (refine' Rc.mkDef KX G ?a_d_read_book ?l_d_read_book ?c_d_read_book ?k_d_read_book; (case a_d_read_book => k_is); (case l_d_read_book => k_is); (case c_d_read_book => k_is); (case k_d_read_book => k_is))
    case d_figures_of => (refine' Rc.mkDef KX G ?a_d_figures_of ?l_d_figures_of ?c_d_figures_of ?k_d_figures_of; (case a_d_figures_of => k_is); (case l_d_figures_of => k_is); (case c_d_figures_of => k_is); (case k_d_figures_of => k_is))
    case d_person_rows => (refine' Rc.mkDef KX G ?a_d_person_rows ?l_d_person_rows ?c_d_person_rows ?k_d_person_rows; (case a_d_person_rows => k_is); (case l_d_person_rows => k_is); (case c_d_person_rows => k_is); (case k_d_person_rows => k_is))
    case d_book_text => (refine' Rc.mkDef KX G ?a_d_book_text ?l_d_book_text ?c_d_book_text ?k_d_book_text; (case a_d_book_text => k_is); (case l_d_book_text => k_is); (case c_d_book_text => k_is); (case k_d_book_text => k_is))
    case d_l_pot => (refine' Rc.mkDef KX G ?a_d_l_pot ?l_d_l_pot ?c_d_l_pot ?k_d_l_pot; (case a_d_l_pot => k_is); (case l_d_l_pot => k_is); (case c_d_l_pot => k_is); (case k_d_l_pot => k_is))
    case d_l_take => (refine' Rc.mkDef KX G ?a_d_l_take ?l_d_l_take ?c_d_l_take ?k_d_l_take; (case a_d_l_take => k_is); (case l_d_l_take => k_is); (case c_d_l_take => k_is); (case k_d_l_take => k_is))
    case d_l_name => (refine' Rc.mkDef KX G ?a_d_l_name ?l_d_l_name ?c_d_l_name ?k_d_l_name; (case a_d_l_name => k_is); (case l_d_l_name => k_is); (case c_d_l_name => k_is); (case k_d_l_name => k_is))
    case d_l_names => (refine' Rc.mkDef KX G ?a_d_l_names ?l_d_l_names ?c_d_l_names ?k_d_l_names; (case a_d_l_names => k_is); (case l_d_l_names => k_is); (case c_d_l_names => k_is); (case k_d_l_names => k_is))
    case d_l_among => (refine' Rc.mkDef KX G ?a_d_l_among ?l_d_l_among ?c_d_l_among ?k_d_l_among; (case a_d_l_among => k_is); (case l_d_l_among => k_is); (case c_d_l_among => k_is); (case k_d_l_among => k_is))
    case d_l_amount => (refine' Rc.mkDef KX G ?a_d_l_amount ?l_d_l_amount ?c_d_l_amount ?k_d_l_amount; (case a_d_l_amount => k_is); (case l_d_l_amount => k_is); (case c_d_l_amount => k_is); (case k_d_l_amount => k_is))
    case d_l_model => (refine' Rc.mkDef KX G ?a_d_l_model ?l_d_l_model ?c_d_l_model ?k_d_l_model; (case a_d_l_model => k_is); (case l_d_l_model => k_is); (case c_d_l_model => k_is); (case k_d_l_model => k_is))
    case d_l_parted => (refine' Rc.mkDef KX G ?a_d_l_parted ?l_d_l_parted ?c_d_l_parted ?k_d_l_parted; (case a_d_l_parted => k_is); (case l_d_l_parted => k_is); (case c_d_l_parted => k_is); (case k_d_l_parted => k_is))
    case d_l_left => (refine' Rc.mkDef KX G ?a_d_l_left ?l_d_l_left ?c_d_l_left ?k_d_l_left; (case a_d_l_left => k_is); (case l_d_l_left => k_is); (case c_d_l_left => k_is); (case k_d_l_left => k_is))
    case d_l_cash => (refine' Rc.mkDef KX G ?a_d_l_cash ?l_d_l_cash ?c_d_l_cash ?k_d_l_cash; (case a_d_l_cash => k_is); (case l_d_l_cash => k_is); (case c_d_l_cash => k_is); (case k_d_l_cash => k_is))
    case d_l_deeds => (refine' Rc.mkDef KX G ?a_d_l_deeds ?l_d_l_deeds ?c_d_l_deeds ?k_d_l_deeds; (case a_d_l_deeds => k_is); (case l_d_l_deeds => k_is); (case c_d_l_deeds => k_is); (case k_d_l_deeds => k_is))
    case d_l_done => (refine' Rc.mkDef KX G ?a_d_l_done ?l_d_l_done ?c_d_l_done ?k_d_l_done; (case a_d_l_done => k_is); (case l_d_l_done => k_is); (case c_d_l_done => k_is); (case k_d_l_done => k_is))
    case d_l_alike => (refine' Rc.mkDef KX G ?a_d_l_alike ?l_d_l_alike ?c_d_l_alike ?k_d_l_alike; (case a_d_l_alike => k_is); (case l_d_l_alike => k_is); (case c_d_l_alike => k_is); (case k_d_l_alike => k_is))
    case d_l_whole => (refine' Rc.mkDef KX G ?a_d_l_whole ?l_d_l_whole ?c_d_l_whole ?k_d_l_whole; (case a_d_l_whole => k_is); (case l_d_l_whole => k_is); (case c_d_l_whole => k_is); (case k_d_l_whole => k_is))
    case d_l_fallen => (refine' Rc.mkDef KX G ?a_d_l_fallen ?l_d_l_fallen ?c_d_l_fallen ?k_d_l_fallen; (case a_d_l_fallen => k_is); (case l_d_l_fallen => k_is); (case c_d_l_fallen => k_is); (case k_d_l_fallen => k_is))
    case d_l_settled_some => (refine' Rc.mkDef KX G ?a_d_l_settled_some ?l_d_l_settled_some ?c_d_l_settled_some ?k_d_l_settled_some; (case a_d_l_settled_some => k_is); (case l_d_l_settled_some => k_is); (case c_d_l_settled_some => k_is); (case k_d_l_settled_some => k_is))
    case d_l_text => (refine' Rc.mkDef KX G ?a_d_l_text ?l_d_l_text ?c_d_l_text ?k_d_l_text; (case a_d_l_text => k_is); (case l_d_l_text => k_is); (case c_d_l_text => k_is); (case k_d_l_text => k_is))
    case d_l_spoilt => (refine' Rc.mkDef KX G ?a_d_l_spoilt ?l_d_l_spoilt ?c_d_l_spoilt ?k_d_l_spoilt; (case a_d_l_spoilt => k_is); (case l_d_l_spoilt => k_is); (case c_d_l_spoilt => k_is); (case k_d_l_spoilt => k_is))
    case d_l_crowded => (refine' Rc.mkDef KX G ?a_d_l_crowded ?l_d_l_crowded ?c_d_l_crowded ?k_d_l_crowded; (case a_d_l_crowded => k_is); (case l_d_l_crowded => k_is); (case c_d_l_crowded => k_is); (case k_d_l_crowded => k_is))
    case d_l_is_covered => (refine' Rc.mkDef KX G ?a_d_l_is_covered ?l_d_l_is_covered ?c_d_l_is_covered ?k_d_l_is_covered; (case a_d_l_is_covered => k_is); (case l_d_l_is_covered => k_is); (case c_d_l_is_covered => k_is); (case k_d_l_is_covered => k_is))
    case d_l_read => (refine' Rc.mkDef KX G ?a_d_l_read ?l_d_l_read ?c_d_l_read ?k_d_l_read; (case a_d_l_read => k_is); (case l_d_l_read => k_is); (case c_d_l_read => k_is); (case k_d_l_read => k_is))
    case d_l_text_right => (refine' Rc.mkDef KX G ?a_d_l_text_right ?l_d_l_text_right ?c_d_l_text_right ?k_d_l_text_right; (case a_d_l_text_right => k_is); (case l_d_l_text_right => k_is); (case c_d_l_text_right => k_is); (case k_d_l_text_right => k_is))
    case d_law => (refine' Rc.mkDef KX G ?a_d_law ?l_d_law ?c_d_law ?k_d_law; (case a_d_law => k_is); (case l_d_law => k_is); (case c_d_law => k_is); (case k_d_law => k_is))
    case m_init => (refine' Rc.mkMeth ?a_m_init ?i_m_init ?l_m_init ?c_m_init ?k_m_init; (case a_m_init => k_is); (case i_m_init => k_is); (case l_m_init => k_is); (case c_m_init => k_is); (case k_m_init => k_is))
    case m_with_these => (refine' Rc.mkMeth ?a_m_with_these ?i_m_with_these ?l_m_with_these ?c_m_with_these ?k_m_with_these; (case a_m_with_these => k_is); (case i_m_with_these => k_is); (case l_m_with_these => k_is); (case c_m_with_these => k_is); (case k_m_with_these => k_is))
    case m_has => (refine' Rc.mkMeth ?a_m_has ?i_m_has ?l_m_has ?c_m_has ?k_m_has; (case a_m_has => k_is); (case i_m_has => k_is); (case l_m_has => k_is); (case c_m_has => k_is); (case k_m_has => k_is))
    case m_place_of => (refine' Rc.mkMeth ?a_m_place_of ?i_m_place_of ?l_m_place_of ?c_m_place_of ?k_m_place_of; (case a_m_place_of => k_is); (case i_m_place_of => k_is); (case l_m_place_of => k_is); (case c_m_place_of => k_is); (case k_m_place_of => k_is))
    case m_persons => (refine' Rc.mkMeth ?a_m_persons ?i_m_persons ?l_m_persons ?c_m_persons ?k_m_persons; (case a_m_persons => k_is); (case i_m_persons => k_is); (case l_m_persons => k_is); (case c_m_persons => k_is); (case k_m_persons => k_is))
    case m_given => (refine' Rc.mkMeth ?a_m_given ?i_m_given ?l_m_given ?c_m_given ?k_m_given; (case a_m_given => k_is); (case i_m_given => k_is); (case l_m_given => k_is); (case c_m_given => k_is); (case k_m_given => k_is))
    case m_fallen => (refine' Rc.mkMeth ?a_m_fallen ?i_m_fallen ?l_m_fallen ?c_m_fallen ?k_m_fallen; (case a_m_fallen => k_is); (case i_m_fallen => k_is); (case l_m_fallen => k_is); (case c_m_fallen => k_is); (case k_m_fallen => k_is))
    case m_notes => (refine' Rc.mkMeth ?a_m_notes ?i_m_notes ?l_m_notes ?c_m_notes ?k_m_notes; (case a_m_notes => k_is); (case i_m_notes => k_is); (case l_m_notes => k_is); (case c_m_notes => k_is); (case k_m_notes => k_is))
    case m_pile => (refine' Rc.mkMeth ?a_m_pile ?i_m_pile ?l_m_pile ?c_m_pile ?k_m_pile; (case a_m_pile => k_is); (case i_m_pile => k_is); (case l_m_pile => k_is); (case c_m_pile => k_is); (case k_m_pile => k_is))
    case m_fallen_to => (refine' Rc.mkMeth ?a_m_fallen_to ?i_m_fallen_to ?l_m_fallen_to ?c_m_fallen_to ?k_m_fallen_to; (case a_m_fallen_to => k_is); (case i_m_fallen_to => k_is); (case l_m_fallen_to => k_is); (case c_m_fallen_to => k_is); (case k_m_fallen_to => k_is))
    case m_cash => (refine' Rc.mkMeth ?a_m_cash ?i_m_cash ?l_m_cash ?c_m_cash ?k_m_cash; (case a_m_cash => k_is); (case i_m_cash => k_is); (case l_m_cash => k_is); (case c_m_cash => k_is); (case k_m_cash => k_is))
    case m_put => (refine' Rc.mkMeth ?a_m_put ?i_m_put ?l_m_put ?c_m_put ?k_m_put; (case a_m_put => k_is); (case i_m_put => k_is); (case l_m_put => k_is); (case c_m_put => k_is); (case k_m_put => k_is))
    case m_give => (refine' Rc.mkMeth ?a_m_give ?i_m_give ?l_m_give ?c_m_give ?k_m_give; (case a_m_give => k_is); (case i_m_give => k_is); (case l_m_give => k_is); (case c_m_give => k_is); (case k_m_give => k_is))
    case m_key => (refine' Rc.mkMeth ?a_m_key ?i_m_key ?l_m_key ?c_m_key ?k_m_key; (case a_m_key => k_is); (case i_m_key => k_is); (case l_m_key => k_is); (case c_m_key => k_is); (case k_m_key => k_is))
    case m_whole_of => (refine' Rc.mkMeth ?a_m_whole_of ?i_m_whole_of ?l_m_whole_of ?c_m_whole_of ?k_m_whole_of; (case a_m_whole_of => k_is); (case i_m_whole_of => k_is); (case l_m_whole_of => k_is); (case c_m_whole_of => k_is); (case k_m_whole_of => k_is))
    case m_may_fall => (refine' Rc.mkMeth ?a_m_may_fall ?i_m_may_fall ?l_m_may_fall ?c_m_may_fall ?k_m_may_fall; (case a_m_may_fall => k_is); (case i_m_may_fall => k_is); (case l_m_may_fall => k_is); (case c_m_may_fall => k_is); (case k_m_may_fall => k_is))
    case m_let_fall => (refine' Rc.mkMeth ?a_m_let_fall ?i_m_let_fall ?l_m_let_fall ?c_m_let_fall ?k_m_let_fall; (case a_m_let_fall => k_is); (case i_m_let_fall => k_is); (case l_m_let_fall => k_is); (case c_m_let_fall => k_is); (case k_m_let_fall => k_is))
    case m_eq => (refine' Rc.mkMeth ?a_m_eq ?i_m_eq ?l_m_eq ?c_m_eq ?k_m_eq; (case a_m_eq => k_is); (case i_m_eq => k_is); (case l_m_eq => k_is); (case c_m_eq => k_is); (case k_m_eq => k_is))
    case xEr => (refine' Rc.mkE25 (Rc.mkCx KX G ?xsB_a ?xsB_a1 ?xsB_a2 ?xsB_a3 ?xsB_a4 ?xsB_a5 ?xsB_a6 ?xsB_a7 ?xsB_a8 ?xsB_a9 ?xsB_b1 ?xsB_b2 ?xsB_b3 ?xsB_b4 ?xsB_b5 ?xsB_b6 ?xsB_b7 ?xsB_i1 ?xsB_i2 ?xsB_i3 ?xsB_i4 ?xsB_i5 ?xsB_i6 ?xsB_i7 ?xsB_i8) (Rc.mkCx KX G ?xsN_a ?xsN_a1 ?xsN_a2 ?xsN_a3 ?xsN_a4 ?xsN_a5 ?xsN_a6 ?xsN_a7 ?xsN_a8 ?xsN_a9 ?xsN_b1 ?xsN_b2 ?xsN_b3 ?xsN_b4 ?xsN_b5 ?xsN_b6 ?xsN_b7 ?xsN_i1 ?xsN_i2 ?xsN_i3 ?xsN_i4 ?xsN_i5 ?xsN_i6 ?xsN_i7 ?xsN_i8) (Rc.mkClsP KX G ?xsA_a ?xsA_a1 ?xsA_a2 ?xsA_a3 ?xsA_a4 ?xsA_a5 ?xsA_a6 ?xsA_a7 ?xsA_a8 ?xsA_a9 ?xsA_b1 ?xsA_b2 ?xsA_b3 ?xsA_b4 ?xsA_b5) (Rc.mkCx KX G ?xsF_a ?xsF_a1 ?xsF_a2 ?xsF_a3 ?xsF_a4 ?xsF_a5 ?xsF_a6 ?xsF_a7 ?xsF_a8 ?xsF_a9 ?xsF_b1 ?xsF_b2 ?xsF_b3 ?xsF_b4 ?xsF_b5 ?xsF_b6 ?xsF_b7 ?xsF_i1 ?xsF_i2 ?xsF_i3 ?xsF_i4 ?xsF_i5 ?xsF_i6 ?xsF_i7 ?xsF_i8) (Rc.mkClsP KX G ?xsV_a ?xsV_a1 ?xsV_a2 ?xsV_a3 ?xsV_a4 ?xsV_a5 ?xsV_a6 ?xsV_a7 ?xsV_a8 ?xsV_a9 ?xsV_b1 ?xsV_b2 ?xsV_b3 ?xsV_b4 ?xsV_b5) (Rc.mkCx KX G ?xsS_a ?xsS_a1 ?xsS_a2 ?xsS_a3 ?xsS_a4 ?xsS_a5 ?xsS_a6 ?xsS_a7 ?xsS_a8 ?xsS_a9 ?xsS_b1 ?xsS_b2 ?xsS_b3 ?xsS_b4 ?xsS_b5 ?xsS_b6 ?xsS_b7 ?xsS_i1 ?xsS_i2 ?xsS_i3 ?xsS_i4 ?xsS_i5 ?xsS_i6 ?xsS_i7 ?xsS_i8) (Rc.mkCx KX G ?xsT_a ?xsT_a1 ?xsT_a2 ?xsT_a3 ?xsT_a4 ?xsT_a5 ?xsT_a6 ?xsT_a7 ?xsT_a8 ?xsT_a9 ?xsT_b1 ?xsT_b2 ?xsT_b3 ?xsT_b4 ?xsT_b5 ?xsT_b6 ?xsT_b7 ?xsT_i1 ?xsT_i2 ?xsT_i3 ?xsT_i4 ?xsT_i5 ?xsT_i6 ?xsT_i7 ?xsT_i8) ?xsu_s00 ?xsu_s01 ?xsu_s02 ?xsu_s03 ?xsu_s04 ?xsu_s05 ?xsu_s10 ?xsu_s11 ?xsu_s12 ?xsu_s13 ?xsu_s14 ?xsu_s15 ?xsu_s20 ?xsu_s21 ?xsu_s22 ?xsu_s23 ?xsu_s24 ?xsu_s25 ?xsu_s30 ?xsu_s31 ?xsu_s32 ?xsu_s33 ?xsu_s34 ?xsu_s35 ?xsu_s40 ?xsu_s41 ?xsu_s42 ?xsu_s43 ?xsu_s44 ?xsu_s45 ?xsu_s50 ?xsu_s51 ?xsu_s52 ?xsu_s53 ?xsu_s54 ?xsu_s55 ?xsu_sTT ?xsu_rw; (case xsB_a => k_is); (case xsB_a1 => kx_is); (case xsB_a2 => kx_is); (case xsB_a3 => k_is); (case xsB_a4 => k_is); (case xsB_a5 => k_is); (case xsB_a6 => k_is); (case xsB_a7 => (refine' Rc.all2 ?xsB_a7f0 ?xsB_a7f1; (case xsB_a7f0 => k_is); (case xsB_a7f1 => k_is))); (case xsB_a8 => k_is); (case xsB_a9 => k_is); (case xsB_b1 => k_is); (case xsB_b2 => k_is); (case xsB_b3 => k_is); (case xsB_b4 => k_is); (case xsB_b5 => ks_is); (case xsB_b6 => k_is); (case xsB_b7 => (first | rfl | decide +kernel)); (case xsB_i1 => k_is); (case xsB_i2 => k_is); (case xsB_i3 => k_is); (case xsB_i4 => k_is); (case xsB_i5 => k_is); (case xsB_i6 => k_is); (case xsB_i7 => rfl); (case xsB_i8 => (first | rfl | decide +kernel)); (case xsN_a => k_is); (case xsN_a1 => kx_is); (case xsN_a2 => kx_is); (case xsN_a3 => k_is); (case xsN_a4 => k_is); (case xsN_a5 => k_is); (case xsN_a6 => k_is); (case xsN_a7 => (refine' Rc.all1 ?xsN_a7f0; (case xsN_a7f0 => k_is))); (case xsN_a8 => k_is); (case xsN_a9 => k_is); (case xsN_b1 => k_is); (case xsN_b2 => k_is); (case xsN_b3 => k_is); (case xsN_b4 => k_is); (case xsN_b5 => ks_is); (case xsN_b6 => k_is); (case xsN_b7 => (first | rfl | decide +kernel)); (case xsN_i1 => k_is); (case xsN_i2 => k_is); (case xsN_i3 => k_is); (case xsN_i4 => k_is); (case xsN_i5 => k_is); (case xsN_i6 => k_is); (case xsN_i7 => rfl); (case xsN_i8 => (first | rfl | decide +kernel)); (case xsA_a => (first | k_is | kit_is)); (case xsA_a1 => k_exc); (case xsA_a2 => (first | k_is | kit_is)); (case xsA_a3 => (first | k_is | kit_is)); (case xsA_a4 => (first | k_is | kit_is)); (case xsA_a5 => (first | k_is | kit_is)); (case xsA_a6 => (first | k_is | kit_is)); (case xsA_a7 => (first | k_is | kit_is)); (case xsA_a8 => (first | k_is | kit_is)); (case xsA_a9 => (first | k_is | kit_is)); (case xsA_b1 => (first | k_is | kit_is)); (case xsA_b2 => (first | k_is | kit_is)); (case xsA_b3 => (first | k_is | kit_is)); (case xsA_b4 => (first | k_is | kit_is)); (case xsA_b5 => (first | k_is | kit_is)); (case xsF_a => k_is); (case xsF_a1 => kx_is); (case xsF_a2 => kx_is); (case xsF_a3 => k_is); (case xsF_a4 => k_is); (case xsF_a5 => k_is); (case xsF_a6 => k_is); (case xsF_a7 => (refine' Rc.all1 ?xsF_a7f0; (case xsF_a7f0 => k_is))); (case xsF_a8 => k_is); (case xsF_a9 => k_is); (case xsF_b1 => k_is); (case xsF_b2 => k_is); (case xsF_b3 => k_is); (case xsF_b4 => k_is); (case xsF_b5 => ks_is); (case xsF_b6 => k_is); (case xsF_b7 => (first | rfl | decide +kernel)); (case xsF_i1 => k_is); (case xsF_i2 => k_is); (case xsF_i3 => k_is); (case xsF_i4 => k_is); (case xsF_i5 => k_is); (case xsF_i6 => k_is); (case xsF_i7 => rfl); (case xsF_i8 => (first | rfl | decide +kernel)); (case xsV_a => (first | k_is | kit_is)); (case xsV_a1 => k_exc); (case xsV_a2 => (first | k_is | kit_is)); (case xsV_a3 => (first | k_is | kit_is)); (case xsV_a4 => (first | k_is | kit_is)); (case xsV_a5 => (first | k_is | kit_is)); (case xsV_a6 => (first | k_is | kit_is)); (case xsV_a7 => (first | k_is | kit_is)); (case xsV_a8 => (first | k_is | kit_is)); (case xsV_a9 => (first | k_is | kit_is)); (case xsV_b1 => (first | k_is | kit_is)); (case xsV_b2 => (first | k_is | kit_is)); (case xsV_b3 => (first | k_is | kit_is)); (case xsV_b4 => (first | k_is | kit_is)); (case xsV_b5 => (first | k_is | kit_is)); (case xsS_a => k_is); (case xsS_a1 => kx_is); (case xsS_a2 => kx_is); (case xsS_a3 => k_is); (case xsS_a4 => k_is); (case xsS_a5 => k_is); (case xsS_a6 => k_is); (case xsS_a7 => (refine' Rc.all1 ?xsS_a7f0; (case xsS_a7f0 => k_is))); (case xsS_a8 => k_is); (case xsS_a9 => k_is); (case xsS_b1 => k_is); (case xsS_b2 => k_is); (case xsS_b3 => k_is); (case xsS_b4 => k_is); (case xsS_b5 => ks_is); (case xsS_b6 => k_is); (case xsS_b7 => (first | rfl | decide +kernel)); (case xsS_i1 => k_is); (case xsS_i2 => k_is); (case xsS_i3 => k_is); (case xsS_i4 => k_is); (case xsS_i5 => k_is); (case xsS_i6 => k_is); (case xsS_i7 => rfl); (case xsS_i8 => (first | rfl | decide +kernel)); (case xsT_a => k_is); (case xsT_a1 => kx_is); (case xsT_a2 => kx_is); (case xsT_a3 => k_is); (case xsT_a4 => k_is); (case xsT_a5 => k_is); (case xsT_a6 => k_is); (case xsT_a7 => (refine' Rc.all1 ?xsT_a7f0; (case xsT_a7f0 => k_is))); (case xsT_a8 => k_is); (case xsT_a9 => k_is); (case xsT_b1 => k_is); (case xsT_b2 => k_is); (case xsT_b3 => k_is); (case xsT_b4 => k_is); (case xsT_b5 => ks_is); (case xsT_b6 => k_is); (case xsT_b7 => (first | rfl | decide +kernel)); (case xsT_i1 => k_is); (case xsT_i2 => k_is); (case xsT_i3 => k_is); (case xsT_i4 => k_is); (case xsT_i5 => k_is); (case xsT_i6 => k_is); (case xsT_i7 => rfl); (case xsT_i8 => (first | rfl | decide +kernel)); (case xsu_s00 => (first | k_is | kit_is)); (case xsu_s01 => (first | k_is | kit_is)); (case xsu_s02 => (first | k_is | kit_is)); (case xsu_s03 => (first | k_is | kit_is)); (case xsu_s04 => (first | k_is | kit_is)); (case xsu_s05 => (first | k_is | kit_is)); (case xsu_s10 => (first | k_is | kit_is)); (case xsu_s11 => (first | k_is | kit_is)); (case xsu_s12 => (first | k_is | kit_is)); (case xsu_s13 => (first | k_is | kit_is)); (case xsu_s14 => (first | k_is | kit_is)); (case xsu_s15 => (first | k_is | kit_is)); (case xsu_s20 => (first | k_is | kit_is)); (case xsu_s21 => (first | k_is | kit_is)); (case xsu_s22 => (first | k_is | kit_is)); (case xsu_s23 => (first | k_is | kit_is)); (case xsu_s24 => (first | k_is | kit_is)); (case xsu_s25 => (first | k_is | kit_is)); (case xsu_s30 => (first | k_is | kit_is)); (case xsu_s31 => (first | k_is | kit_is)); (case xsu_s32 => (first | k_is | kit_is)); (case xsu_s33 => (first | k_is | kit_is)); (case xsu_s34 => (first | k_is | kit_is)); (case xsu_s35 => (first | k_is | kit_is)); (case xsu_s40 => (first | k_is | kit_is)); (case xsu_s41 => (first | k_is | kit_is)); (case xsu_s42 => (first | k_is | kit_is)); (case xsu_s43 => (first | k_is | kit_is)); (case xsu_s44 => (first | k_is | kit_is)); (case xsu_s45 => (first | k_is | kit_is)); (case xsu_s50 => (first | k_is | kit_is)); (case xsu_s51 => (first | k_is | kit_is)); (case xsu_s52 => (first | k_is | kit_is)); (case xsu_s53 => (first | k_is | kit_is)); (case xsu_s54 => (first | k_is | kit_is)); (case xsu_s55 => (first | k_is | kit_is)); (case xsu_sTT => (first | k_is | kit_is)); (case xsu_rw => (first | k_is | kit_is)))
    case gAny => (refine' PySem.W.mg_none_of KX G ?gah; (case gah => k_is))
    case TE => (refine' Rc.mkClsE ?xte_a ?xte_n ?xte_t ?xte_m ?xte_e; (case xte_a => k_is); (case xte_n => k_is); (case xte_t => k_is); (case xte_m => k_is); (case xte_e => k_is))

