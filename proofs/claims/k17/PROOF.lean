import PyProof.Rows.All
import Wide.All
import OpenK.AllK
import Wide.FinOn
import HandS.ForMost
import HandS.IsInst
import HandS.WideBits
import PyProof.ReprRoads
import HandS.Walk
import HandS.TupAny
import HandS.TupMul
import HandS.Strs
import HandS.Zip
import HandS.Codes
import HandS.Exc
import HandS.ExcField
import HandS.ExcSuper
import KE.KExcInit
import KE.KExcSuper
import HandS.ForExc
import HandS.Lambda
import HandS.Iter
import KE.DataMinKey
import HandS.EndTab
import HandS.More
import HandS.DictComp
import PyProof.InstNe
import HandS.ExcIs
import KE.KExcIs
import PyProof.StrOps2
import HandS.DictTup
import HandS.TupLen
import PyProof.EqKinds
import PyProof.DictWalks
import PyProof.WalkInts
import HandS.Small
import HandS.ListItems
import HandS.OwnEq
import KE.KExcLine
import PySem.Challenge.RW_ringclear_k17_whole_let_fall
set_option Elab.async false
set_option linter.all false
set_option maxRecDepth 100000
namespace Rc
open PySem PySem.Spec PyProof.Rows L2

/-- a promise that is kept where no repr is under way -/
structure FnG (P : Program) (w : World) (K : PySem.W.Frag) (mg : Str → Option Value)
    (base : Heap) (CX : CXT) (k : Nat) (f : Addr) (fd : FuncData) (ps : List Str) (sp : Sp) : Prop where
  len : ∀ vs H Q E, sp vs H Q E → vs.length = ps.length
  go : ∀ (A : Around) (outer : List Env) (s : Shared) (H : Hp) (args : Args) (us : List Value)
    (vs : List V) (Q : VK) (E : XK), Room k A → A.guards = some [] →
    Env0 P w K mg base A outer s H → BindsTo s fd args (ps.zip us) → Vals vs us → sp vs H Q E →
    codeAny (model P w) A (.call (.ref f) args) (CR CX outer P w H s Q E) s

section
variable {P : Program} {w : World} {K : PySem.W.Frag} {mg : Str → Option Value} {base : Heap}

theorem FnG.of {CX : CXT} {k : Nat} {f : Addr} {fd : FuncData} {ps : List Str} {sp : Sp}
    (F : FnOk P w K mg base CX k f fd ps sp) : FnG P w K mg base CX k f fd ps sp :=
  ⟨F.len, fun A outer s H args us vs Q E hr _ e0 hb r h =>
    F.run A outer s H args us vs Q E hr e0 hb r h⟩

/-- a def by its body, no repr being under way -/
theorem okG {CX : CXT} {x qual : Str} {st : Stmt} {f : Addr} {fd : FuncData} {N ps : List Str} {k : Nat} {sp : Sp}
    (F : Fun K x qual st f fd) (S : FnScope N ps (defScope st))
    (len : ∀ vs H Q E, sp vs H Q E → vs.length = ps.length)
    (body : ∀ (cdv : Value) (A : Around) (outer : List Env) (s : Shared) (H : Hp) (vs : List V) (Q : VK) (E : XK),
      Room k (A.deeper (envOfC qual (defScope st) s.heap.objs.size f cdv)) → A.guards = some [] → sp vs H Q E →
      ∃ t, PSs (cxOf CX P w K mg base N qual (defScope st) f cdv A outer s H E) (defBody st) t ∧
        t { nx := fun _ H' => Q .non H', rt := Q } (start N vs) H) :
    FnG P w K mg base CX (k + 1) f fd ps sp := by
  obtain ⟨oc, od, kV, doc, pm, an, cdv, ct, osl, rfl, lk, hcd⟩ := F.ex
  refine ⟨len, fun A outer s H args us vs Q E hr hg e0 hb r hsp => ?_⟩
  have hl := len vs H Q E hsp
  have keep : ∀ b o, base.get? b = some o → s.heap.get? b = some o := fun b o e => (e0.bs b o e).1
  have KX : K.In s.heap := e0.mod.kin.keeps keep
  refine codeAny_call_function hr.depth (KX _ _ lk) rfl S.co S.gen rfl
    (PySem.W.codeRec_of KX hcd) (hb _ _ _ _ ?_)
  refine wpAny_newFunctionEnv_cells S.kind (fun y hy => ?_) fun env he s1 x => ?_
  · obtain ⟨n, v⟩ := y
    exact (S.par n (List.of_mem_zip hy).1).elim .inl fun q => .inr ⟨q, PySem.W.cellsFrom_some _ _ _ (.inl q)⟩
  · subst he
    refine ⟨(e0.mod.nolimit.keeps keep).keeps x.toInCall.keep, codeAny_func ?_⟩
    obtain ⟨t, ht, hq⟩ := body cdv A outer s H vs Q E (hr.deeper _) hg hsp
    have I := inv_start (CX := CX) (E := E) S hr.hd e0 hl r x
    refine wpAny_mono (ht.run [] s1 (start N vs) H _ I hq) (fun fl s' hs => ?_) fun _ _ z => z
    cases fl with
    | ret u =>
      obtain ⟨v, σ', H', J, rv, q⟩ := hs
      exact ⟨v, H', J.os, J.bare, J.base, J.hok, rv, q⟩
    | next =>
      obtain ⟨σ', H', J, q⟩ := hs
      exact ⟨.non, H', J.os, J.bare, J.base, J.hok, rfl, q⟩
    | brk =>
      obtain ⟨_, _, _, q⟩ := hs
      exact q.elim
    | cont =>
      obtain ⟨_, _, _, q⟩ := hs
      exact q.elim
/-- .. where nothing that is raised leaves it -/
theorem okG0 {x qual : Str} {st : Stmt} {f : Addr} {fd : FuncData} {N ps : List Str} {k : Nat} {sp : Sp}
    (F : Fun K x qual st f fd) (S : FnScope N ps (defScope st))
    (len : ∀ vs H Q E, sp vs H Q E → vs.length = ps.length)
    (body : ∀ (cdv : Value) (A : Around) (outer : List Env) (s : Shared) (H : Hp) (vs : List V) (Q : VK) (E : XK),
      Room k (A.deeper (envOfC qual (defScope st) s.heap.objs.size f cdv)) → A.guards = some [] → sp vs H Q E →
      ∃ t, PSs (cxOf CX0 P w K mg base N qual (defScope st) f cdv A outer s H E).nox (defBody st) t ∧
        t { nx := fun _ H' => Q .non H', rt := Q } (start N vs) H) :
    FnG P w K mg base CX0 (k + 1) f fd ps sp :=
  okG F S len fun cdv A outer s H vs Q E hr hg h =>
    let ⟨t, a, b⟩ := body cdv A outer s H vs Q E hr hg h
    ⟨t, a.nox, b⟩
end

section
variable {X : Cx} {CX : CXT} {k : Nat} {f : Addr} {fd : FuncData} {ps : List Str} {sp : Sp} {E : XK} {x : Str}
  {p pos : Pos} {e : Expr} {es : List Expr} {t : TA}

theorem runG {pins : List (Addr × Obj)} {σ : L2.St} {H : Hp} {s : Shared} {Q : VK} {us : List Value} {vs : List V} {ds : List Value} {dvs : List V}
    (F : FnG X.prog X.w X.K X.mg X.base CX k f fd ps sp) (hr : Room k X.A) (hg : X.A.guards = some [])
    (hb : Binds X.K fd ps ds) (hd : Vals dvs ds) (hx : Passes CX X E) (I : Inv X pins σ H s) (r : Vals vs us)
    (h : sp (vs ++ dvs) H Q E) :
    wpAny (model X.prog X.w) X.A (call (.ref f) us) (EP X pins σ Q) X.xe s := by
  have r2 : Vals (vs ++ dvs) (us ++ ds) := r.append hd
  have hl : (us ++ ds).length = ps.length := r2.length.symm.trans (F.len _ _ _ _ h)
  refine wpAny_call (codeAny_mono (F.go X.A X.stack s H ⟨us, []⟩ (us ++ ds) (vs ++ dvs) Q E hr hg
    I.env0 (hb s us I.kIn hl) r2 h) fun r s' hq => ?_)
  match r, hq with
  | .error e, hq => exact hx pins σ H s e s' I hq
  | .ok (.ret u), hq => exact I.after hq
  | .ok .next, hq => exact hq.elim
  | .ok .brk, hq => exact hq.elim
  | .ok .cont, hq => exact hq.elim

theorem pe_callG {ds : List Value} {dvs : List V} (F : FnG X.prog X.w X.K X.mg X.base CX k f fd ps sp) (hr : Room k X.A)
    (gd : X.A.guards = some []) (hg : Gl X x) (hm : X.mg x = some (.ref f)) (hk : PySem.W.keepIn X.K (.ref f) = true)
    (hb : Binds X.K fd ps ds) (hd : Vals dvs ds) (hx : Passes CX X E) (ha : PA X (e :: es) t)
    (hdb : (x == ("__debug__" : Str)) = false := by decide)
    (he : starEach (e :: es) X.env = (false, eval e X.env) :: starEach es X.env := by rfl)
    (hpl : (backTo pos (starEach es X.env)).any (·.1) = false := by rfl) :
    PE X (.Call (.Name x p) (e :: es) [] pos) (tCall sp dvs E t) := by
  refine ⟨fun pins s σ H Q I h => wpAny_Call_Name_kw (ld_glob I hg hm ?_ hdb)⟩
  refine PySem.W.callWith_K (h₀ := X.base) I.ok.mod.kin hk ?_ he hpl
  refine thn (ha.run pos pins s σ H _ I h) fun us s1 z => ?_
  obtain ⟨vs, H1, I1, r, q⟩ := z
  exact ⟨I1.kIn, runG F hr gd hb hd hx I1 r q⟩

/-- f(k = v, ..), no value by place -/
def tCallKw (sp : Sp) (E : XK) (n : Nat) (tk : TA) : TE := fun σ H Q => tk σ H fun zs H2 => zs.length = n ∧ sp zs H2 Q E
theorem pe_callKw {ks : List Str} {kws : List Keyword} {tk : TA} (F : FnOk X.prog X.w X.K X.mg X.base CX k f fd ps sp)
    (hr : Room k X.A) (hg : Gl X x) (hm : X.mg x = some (.ref f)) (hk : PySem.W.keepIn X.K (.ref f) = true)
    (hb : ∀ (s : Shared) (ws : List Value), ws.length = ks.length → BindsTo s fd ⟨[], ks.zip ws⟩ (ps.zip ws)) (hx : Passes CX X E)
    (hkw : PK X kws tk) (hall : (backToKw pos (keywordEach kws X.env)).all (·.1.isSome) = true := by rfl)
    (hks : (backToKw pos (keywordEach kws X.env)).filterMap (·.1) = ks := by rfl)
    (hdb : (x == ("__debug__" : Str)) = false := by decide)
    (hpl : ((backTo pos (starEach [] X.env)).any (·.1) || (backToKw pos (keywordEach kws X.env)).any (·.1.isNone)) = false := by rfl) :
    PE X (.Call (.Name x p) [] kws pos) (tCallKw sp E ks.length tk) := by
  refine ⟨fun pins s σ H Q I h => wpAny_Call_Name_kw (ld_glob I hg hm ?_ hdb)⟩
  refine PySem.W.callWith_KW0 (h₀ := X.base) I.ok.mod.kin hk hall ?_ hpl
  refine thn (hkw.run pos pins s σ H _ I h) fun ws s2 z => ?_
  obtain ⟨zs, H2, I2, rz, l, q⟩ := z
  refine ⟨I2.kIn, ?_⟩
  rw [hks]
  refine wpAny_call (codeAny_mono (F.run X.A X.stack s2 H2 ⟨[], ks.zip ws⟩ ws zs Q E hr I2.env0
    (hb s2 ws (rz.length.symm.trans l)) rz q) fun r s' hq => ?_)
  match r, hq with
  | .error e, hq => exact hx pins σ H2 s2 e s' I2 hq
  | .ok (.ret u), hq => exact I2.after hq
  | .ok .next, hq => exact hq.elim
  | .ok .brk, hq => exact hq.elim
  | .ok .cont, hq => exact hq.elim
end

/-! ### repr -/
/-- no object -/
inductive Flat : V → PyData → Prop
  | non : Flat .non .none
  | bl (b : Bool) : Flat (.bl b) (.bool b)
  | int (i : Int) : Flat (.int i) (.int i)
  | str (x : Str) : Flat (.str x) (.str x)
inductive Flats : List V → List PyData → Prop
  | nil : Flats [] []
  | cons {v : V} {vs : List V} {d : PyData} {ds : List PyData} : Flat v d → Flats vs ds → Flats (v :: vs) (d :: ds)
mutual
/-- data that stands in the heap: none, truths, ints, texts, lists, tuples, dicts with int and text keys -/
inductive Dt (K : PySem.W.Frag) (H : Hp) : V → PyData → Prop
  | non : Dt K H .non .none
  | bl (b : Bool) : Dt K H (.bl b) (.bool b)
  | int (i : Int) : Dt K H (.int i) (.int i)
  | str (x : Str) : Dt K H (.str x) (.str x)
  | lst {a : Addr} {xs : List V} {ds : List PyData} : SqL K H a xs → DtAll K H xs ds → Dt K H (.ref a) (.list ds)
  | tup {a : Addr} {xs : List V} {ds : List PyData} : SqT K H a xs → DtAll K H xs ds → Dt K H (.ref a) (.tuple ds)
  | dct {a : Addr} {kvs : List (Key × V)} {ps : List (PyData × PyData)} : H a = some (.dK kvs) →
      Flats (kvs.map fun p => kV p.1) (ps.map (·.1)) → Flats (kvs.map (·.2)) (ps.map (·.2)) →
      Dt K H (.ref a) (.dict ps)
inductive DtAll (K : PySem.W.Frag) (H : Hp) : List V → List PyData → Prop
  | nil : DtAll K H [] []
  | cons {v : V} {vs : List V} {d : PyData} {ds : List PyData} : Dt K H v d → DtAll K H vs ds → DtAll K H (v :: vs) (d :: ds)
end

theorem Flat.reads {h : Heap} {v : V} {d : PyData} {u : Value} (f : Flat v d) (r : RelV v u) : Reads h u d [] := by
  cases f with
  | non => cases r; exact .none
  | bl b => cases r; exact .bool b
  | int i => obtain ⟨t, rfl⟩ := r; exact .int i t
  | str x => obtain ⟨t, rfl⟩ := r; exact .str x t
theorem Flats.reads {h : Heap} : ∀ {vs : List V} {ds : List PyData} {us : List Value}, Flats vs ds → Vals vs us → ReadsAll h us ds []
  | _, _, _, .nil, .nil => .nil
  | _, _, _, .cons f fs, .cons r rs => .cons (f.reads r) (fs.reads rs)
theorem keys_rel {P : Program} {w : World} : ∀ {es : List DictEntry} {vs : List (Key × Value)} {kvs : List (Key × V)}, Pairs (mixKind P w) es vs → KV kvs vs →
    Vals (kvs.map fun p => kV p.1) (es.map (·.key)) ∧ Vals (kvs.map (·.2)) (es.map (·.val))
  | [], _, _, .nil, .nil => ⟨.nil, .nil⟩
  | e :: es, (k, x) :: vs, (k', y) :: kvs, .cons h1 h2 hp, .cons r rs => by
    obtain ⟨a, b⟩ := keys_rel hp rs
    obtain ⟨e1, e2⟩ := r
    have e1' : k' = k := e1
    subst e1'
    refine ⟨.cons ?_ a, .cons ?_ b⟩
    · rcases keyIs_shape h1 with ⟨i, t, q1, q2⟩ | ⟨z, t, q1, q2⟩
      · have q1' : k' = Sum.inl i := q1
        subst q1'
        exact ⟨t, q2⟩
      · have q1' : k' = Sum.inr z := q1
        subst q1'
        exact ⟨t, q2⟩
    · show L2.RelV y e.val
      rw [h2]
      exact e2
section
variable {X : Cx} {pins : List (Addr × Obj)} {σ : L2.St} {H : Hp} {s : Shared}
/-- a dict alone may hold a dict (itself) -/
def DictTop (d : PyData) : Prop := d.hasDict = false ∨ ∃ ps, d = .dict ps
mutual
theorem Dt.reads (I : Inv X pins σ H s) : ∀ (d : PyData) (v : V) (u : Value), Dt X.K H v d → RelV v u →
    ∃ as, Reads s.heap u d as ∧ ((∃ ps, d = .dict ps) → sysModules ∉ as)
  | .none, _, _, h, r => by
    cases h; cases r
    exact ⟨_, .none, fun z => by obtain ⟨_, z⟩ := z; cases z⟩
  | .bool b, _, _, h, r => by
    cases h; cases r
    exact ⟨_, .bool b, fun z => by obtain ⟨_, z⟩ := z; cases z⟩
  | .int i, _, _, h, r => by
    cases h
    obtain ⟨t, rfl⟩ := r
    exact ⟨_, .int i t, fun z => by obtain ⟨_, z⟩ := z; cases z⟩
  | .str x, _, _, h, r => by
    cases h
    obtain ⟨t, rfl⟩ := r
    exact ⟨_, .str x t, fun z => by obtain ⟨_, z⟩ := z; cases z⟩
  | .list ds, _, _, h, r => by
    cases h with
    | lst hs ha =>
      cases r
      obtain ⟨its, rv, ⟨o, n, ho, hc, _, hd⟩, _⟩ := I.list hs
      obtain ⟨as, q⟩ := Dt.readsAll I ds _ its ha rv
      exact ⟨_, .list ho hc hd q, fun z => by obtain ⟨_, z⟩ := z; cases z⟩
  | .tuple ds, _, _, h, r => by
    cases h with
    | tup hs ha =>
      cases r
      obtain ⟨its, rv, ⟨o, ho, hc, n, hd⟩, _⟩ := I.tuple hs
      obtain ⟨as, q⟩ := Dt.readsAll I ds _ its ha rv
      exact ⟨_, .tuple ho hc hd q, fun z => by obtain ⟨_, z⟩ := z; cases z⟩
  | .dict ps, _, _, h, r => by
    cases h with
    | dct e fk fv =>
      cases r
      obtain ⟨_, ns, vs, kv, o, es, ep, ho, hx, hd, _, hp, _⟩ := I.hok _ _ e
      obtain ⟨a, b⟩ := keys_rel hp kv
      refine ⟨_, .dict ho hx.1 hd (fk.reads a) (fv.reads b), fun _ z => ?_⟩
      have z' := List.mem_singleton.mp (by simpa using z)
      rw [← z'] at ns
      simp at ns
theorem Dt.readsAll (I : Inv X pins σ H s) : ∀ (ds : List PyData) (vs : List V) (us : List Value), DtAll X.K H vs ds → Vals vs us → ∃ as, ReadsAll s.heap us ds as
  | [], _, _, h, r => by
    cases h; cases r
    exact ⟨_, .nil⟩
  | d :: ds, _, _, h, r => by
    cases h with
    | cons h1 h2 =>
      cases r with
      | cons r1 r2 =>
        obtain ⟨as, q1, _⟩ := Dt.reads I d _ _ h1 r1
        obtain ⟨bs, q2⟩ := Dt.readsAll I ds _ _ h2 r2
        exact ⟨_, .cons q1 q2⟩
end
end
section
variable {X : Cx}
def rRepr (K : PySem.W.Frag) : List V → Hp → VK → Prop := fun xs H Q => ∃ v d, xs = [v] ∧ Dt K H v d ∧ d.showable = true ∧ DictTop d ∧ d.depth ≤ 20 ∧ ((∃ i, d = .int i) ∨ d.shown.length ≤ sizeLine) ∧ Q (.str d.shown) H
theorem notInt {d : PyData} {A : Prop} (h : (∃ i, d = .int i) ∨ A) (n : ∀ i, d ≠ .int i) : A := h.elim (fun z => let ⟨i, e⟩ := z; absurd e (n i)) id
theorem call_repr {k : Nat} (hr : Room k X.A) (hg : X.A.guards = some []) : CallR X (.builtin "repr") (rRepr X.K) := by
  intro pins s σ H xs us Q I r h
  obtain ⟨v, d, rfl, hd, hs, ht, hp, hz, q⟩ := h
  obtain ⟨u, rfl, ru⟩ := vals1 r
  obtain ⟨as, rd, nsm⟩ := Dt.reads I d v u hd ru
  have hu := hr.units
  have big : ∀ a, u = .ref a → d.shown.length ≤ sizeLine → wpAny (model X.prog X.w) X.A (call (.builtin "repr") [u]) (EP X pins σ Q) X.xe s := by
    rintro a rfl hz
    refine repr_of_reads' rd hs (fun hx => ?_) hg (by omega) (fun _ _ e => e) (fun h' t tk hk => ?_) hz
    · rcases ht with z | z
      · rw [z] at hx; cases hx
      · exact nsm z
    · exact ⟨.str _, H, I.kept hk, ⟨t, rfl⟩, q⟩
  cases hd with
  | non => cases ru; exact PySem.P.repr_of_none ⟨.str _, H, I.tok _, ⟨_, rfl⟩, q⟩
  | bl b => cases ru; exact PySem.P.repr_of_bool ⟨.str _, H, I.tok _, ⟨_, rfl⟩, q⟩
  | int i =>
    obtain ⟨t, rfl⟩ := ru
    exact PySem.P.repr_of_int (by simpa [PyData.showable] using hs) ⟨.str _, H, I.tok _, ⟨_, rfl⟩, by simpa [PyData.shown] using q⟩
  | str x =>
    obtain ⟨t, rfl⟩ := ru
    exact PySem.P.repr_of_str ⟨.str _, H, I.tok _, ⟨_, rfl⟩, by simpa [PyData.shown] using q⟩ (by simpa [PyData.shown] using notInt hz (fun _ z => nomatch z))
  | lst _ _ => exact big _ ru (notInt hz fun _ z => nomatch z)
  | tup _ _ => exact big _ ru (notInt hz fun _ z => nomatch z)
  | dct _ _ _ => exact big _ ru (notInt hz fun _ z => nomatch z)
end

/-! ### the law's own call -/
section
open PySem.W
/-- the abstract heap at the law's entry: the script alone, locked, or nothing where it is the module's own -/
def entryH (K : Frag) (a : Addr) (o : Obj) (xs : List V) : Hp := fun b => if b = a ∧ K.lookup a = none then some (.frz o (.lst xs)) else none
theorem entryH_at {K : Frag} {a b : Addr} {o : Obj} {xs : List V} {u : HO} (h : entryH K a o xs b = some u) : b = a ∧ K.lookup a = none ∧ u = .frz o (.lst xs) := by
  unfold entryH at h
  split at h
  · rename_i c
    exact ⟨c.1, c.2, (Option.some.inj h).symm⟩
  · cases h
theorem law_callG {P : Program} {w : World} {K : Frag} {mg mb : Str → Option Value} {CX : CXT} {k : Nat} {fa a : Addr} {fd : FuncData}
    {x : Str} {sp : Sp} {s₁ : Shared} {vs : List Value} {ns : List Int}
    (KX : K.In s₁.heap) (hns : s₁.heap.Ns mainGlobals mg) (hb : s₁.heap.Ns builtinsNs mb)
    (hbb : ∀ x : Str, x ≠ "__name__" → mb x = bootBuiltins x) (hlim : s₁.heap.NoLimit) (hg : s₁.gens = #[])
    (ha : s₁.heap.get? a = some { cls := .type "list", data := .seq vs.toArray }) (hi : IntsAre vs ns)
    (hl : ns.length ≤ sizeLine) (hr : Room k callerA)
    (F : ∀ base : Heap, K.In base → base.Ns mainGlobals mg → FnG P w K mg base CX k fa fd [x] sp)
    (hbind : ∀ (s : Shared) (u : Value), BindsTo s fd ⟨[u], []⟩ [(x, u)])
    (hsp : ∀ H : Hp, Only H → SqL K H a (ns.map V.int) → sp [.ref a] H (fun v _ => v = .bl true) fun _ _ _ => False)
    (hCX : ∀ H e s', CX [] H s₁ (fun _ _ _ => False) e s' → False) :
    codeAny (model P w) callerA (.call (.ref fa) ⟨[.ref a], []⟩)
      (fun r s' => r = .ok (.ret (.bool true)) ∧ OldK s₁.heap s'.heap ∧ s'.os = s₁.os ∧ AllBare s'.gens) s₁ := by
  have rv := vals_ints hi
  have lv := hi.length
  generalize hH : entryH K a { cls := .type "list", data := .seq vs.toArray } (ns.map V.int) = H
  have hat : ∀ {b : Addr} {u : HO}, H b = some u → b = a ∧ K.lookup a = none ∧ u = .frz { cls := .type "list", data := .seq vs.toArray } (.lst (ns.map V.int)) :=
    fun {b u} e => entryH_at (by rw [hH]; exact e)
  have only : Only H := fun b => by
    cases q : H b with
    | none => exact .inl rfl
    | some u =>
      obtain ⟨_, _, rfl⟩ := hat q
      exact .inr ⟨_, _, rfl⟩
  have sq : SqL K H a (ns.map V.int) := by
    cases hk : K.lookup a with
    | none =>
      refine .inl (.inr ⟨{ cls := .type "list", data := .seq vs.toArray }, ?_⟩)
      rw [← hH]
      exact if_pos ⟨rfl, hk⟩
    | some o =>
      have e := KX a o hk
      rw [ha] at e
      cases e
      exact .inr ⟨_, vs.toArray, _, hk, rfl, rfl, rfl, by rw [List.size_toArray, lv]; exact hl, by simpa using rv⟩
  have hok : HOk P w H s₁.heap := fun b u e => by
    obtain ⟨rfl, _, rfl⟩ := hat e
    exact ⟨ha, by rw [List.length_map]; exact hl, vs, _, rv, ha⟩
  have dictFree : ∀ {b : Addr} {o : Obj} {es : Array DictEntry} {ep : Nat}, s₁.heap.get? b = some o → o.data = .dict es ep → H b = none := fun {b o es ep} e d => by
    cases q : H b with
    | none => rfl
    | some u =>
      obtain ⟨rfl, _, _⟩ := hat q
      rw [ha] at e
      cases e
      cases d
  have nsK : ∀ {b : Addr} {m : Str → Option Value}, s₁.heap.Ns b m → (hidT s₁.heap H).Ns b m :=
    fun {b m} z => let ⟨o, es, ep, e, d, r⟩ := z; ⟨o, es, ep, hidT_get e (dictFree e d), d, r⟩
  have kb : K.In (hidT s₁.heap H) := fun b o e => hidT_get (KX b o e) (by
    cases q : H b with
    | none => rfl
    | some u =>
      obtain ⟨rfl, z, _⟩ := hat q
      rw [z] at e
      cases e)
  have md : Mod K mg (hidT s₁.heap H) := ⟨kb, nsK hns, ⟨mb, nsK hb, hbb⟩, let ⟨mc, h1, h2⟩ := hlim; ⟨mc, nsK h1, h2⟩⟩
  have e0 : Env0 P w K mg (hidT s₁.heap H) callerA [] s₁ H :=
    { frames := rfl, mod := md, bs := fun b o e => of_hidT e, bsz := Nat.le_of_eq (hidT_size _ _), funs := trivial, frf := fun b z => absurd (show b ∈ ([] : List Addr) from z) (by simp), hok := hok, bare := .of_eq hg }
  refine codeAny_mono ((F _ kb (nsK hns)).go callerA [] s₁ H ⟨[.ref a], []⟩ [.ref a] [.ref a] _ _ hr rfl e0 (hbind s₁ (.ref a)) (.cons rfl .nil) (hsp H only sq)) fun r s' h => ?_
  match r, h with
  | .error e, h => exact (hCX H e s' h).elim
  | .ok .next, h => exact h.elim
  | .ok .brk, h => exact h.elim
  | .ok .cont, h => exact h.elim
  | .ok (.ret u), h =>
    obtain ⟨v, H', os, bare, un, hok', r', q⟩ := h
    have q' : v = .bl true := q
    subst q'
    obtain rfl : u = Value.bool true := r'
    refine ⟨rfl, OldK.of_keep fun b o e => ?_, os, bare⟩
    cases z : H b with
    | none => exact un.keep b o e z (fun y => absurd (show b ∈ ([] : List Addr) from y) (by simp)) (by simp)
    | some u =>
      obtain ⟨rfl, _, rfl⟩ := hat z
      have z2 := un.frzs _ _ _ z
      have e2 := (hok' _ _ z2).1
      rw [ha] at e
      cases e
      exact e2
/-- as walk_of, no repr being under way -/
theorem walk_ofG {l : OpenLaw} {n k : Nat} {q : Program} {loose : List Str} {XP : (Str → Option Value) → Heap → Prop} {YP : World → Heap → Prop}
    {d : DefRec} {K : Params → Frag} {CX : World → CXT} {sp : World → Sp} {x : Str}
    (hn : l.most = some n) (hn2 : n ≤ sizeLine) (hdf : d.params.defaults = []) (hr : Room k callerA)
    (hY : ∀ (w : World) (h : Heap), YP w h → (K w.params).In h)
    (F : ∀ (w : World) (mg : Str → Option Value) (fa : Addr) (h : Heap), (K w.params).In h → h.Ns mainGlobals mg →
      mg d.name = some (.ref fa) → ∃ fd : FuncData, (∀ (s : Shared) (u : Value), BindsTo s fd ⟨[u], []⟩ [(x, u)]) ∧
        ∀ base : Heap, (K w.params).In base → base.Ns mainGlobals mg → FnG l.prog w (K w.params) mg base (CX w) k fa fd [x] (sp w))
    (hsp : ∀ (w : World) (H : Hp) (a : Addr) (ns : List Int), ns.length ≤ n → Only H → SqL (K w.params) H a (ns.map V.int) →
      sp w [.ref a] H (fun v _ => v = .bl true) fun _ _ _ => False)
    (hCX : ∀ (w : World) (H : Hp) (s : Shared) (e : Value) (s' : Shared), CX w [] H s (fun _ _ _ => False) e s' → False) :
    WalkO q loose XP YP l.row.toRowW d [] (fun f vs => PySem.call f vs) := by
  refine Att.attach_call hn hdf fun w s₀ s₁ mg mb fa o pm cd doc a vs ns G Y ho hd hcd hmg hobj hints hlen hg => ?_
  obtain ⟨fd, b1, b2⟩ := F w mg fa _ (hY w _ Y) G.T.g hmg
  exact law_callG (hY w _ Y) G.T.g G.T.b G.T.builtins G.T.nolimit hg hobj hints (Nat.le_trans hlen hn2) hr b2 b1
    (fun H hO hS => hsp w H a ns hlen hO hS) fun H e s' => hCX w H s₁ e s'
end
end Rc

set_option exponentiation.threshold 400
namespace Rc
open PySem PySem.Spec PyProof.Rows L2
/-! ### the mathematics -/
def abc : List Nat := (List.range 26).map (· + 97)
def nameT (z : Str) : Bool := decide (1 ≤ z.length) && decide (z.length ≤ 8) && z.cps.toList.all fun c => decide (c ∈ abc)
def nameD : PyData → Bool
  | .str z => nameT z
  | _ => false
def wholeD : PyData → Bool
  | .int _ => true
  | _ => false
def amountD : PyData → Bool
  | .int i => decide (1 ≤ i)
  | _ => false
def tyD : PyData → String
  | .none => "NoneType"
  | .bool _ => "bool"
  | .int _ => "int"
  | .str _ => "str"
  | .list _ => "list"
  | .tuple _ => "tuple"
  | .dict _ => "dict"
def strD : PyData → Bool
  | .str _ => true
  | _ => false
def boolD : PyData → Bool
  | .bool _ => true
  | _ => false
theorem Dt.ty {K : PySem.W.Frag} {H : Hp} {v : V} {d : PyData} (h : Dt K H v d) : TyX K H v (.type (tyD d)) := by
  cases h with
  | non => exact .base .non
  | bl b => exact .base (.bl b)
  | int i => exact .base (.int i)
  | str x => exact .base (.str x)
  | lst q _ =>
    rcases q with (q | ⟨o, q⟩) | ⟨o, its, n, hk, hc, _⟩
    · exact .base (.lst q)
    · exact .base (.frz q)
    · exact .kList hk hc
  | tup q _ =>
    rcases q with (q | ⟨o, q⟩) | ⟨o, its, n, hk, hc, _⟩
    · exact .base (.tup q)
    · exact .fTuple q
    · exact .kTuple hk hc
  | dct q _ _ => exact .base (.dK q)
theorem kit_str {K : PySem.W.Frag} (d : PyData) : PySem.W.kitOne K (.type (tyD d)) (.type "str") = some (strD d) :=
  match d with
  | PyData.none => kit_ty (a := "NoneType") (b := "str") (r := false) (by decide +kernel)
  | .bool _ => kit_ty (a := "bool") (b := "str") (r := false) (by decide +kernel)
  | .int _ => kit_ty (a := "int") (b := "str") (r := false) (by decide +kernel)
  | .str _ => kit_ty (a := "str") (b := "str") (r := true) (by decide +kernel)
  | .list _ => kit_ty (a := "list") (b := "str") (r := false) (by decide +kernel)
  | .tuple _ => kit_ty (a := "tuple") (b := "str") (r := false) (by decide +kernel)
  | .dict _ => kit_ty (a := "dict") (b := "str") (r := false) (by decide +kernel)
theorem kit_int {K : PySem.W.Frag} (d : PyData) : PySem.W.kitOne K (.type (tyD d)) (.type "int") = some (wholeD d || boolD d) :=
  match d with
  | PyData.none => kit_ty (a := "NoneType") (b := "int") (r := false) (by decide +kernel)
  | .bool _ => kit_ty (a := "bool") (b := "int") (r := true) (by decide +kernel)
  | .int _ => kit_ty (a := "int") (b := "int") (r := true) (by decide +kernel)
  | .str _ => kit_ty (a := "str") (b := "int") (r := false) (by decide +kernel)
  | .list _ => kit_ty (a := "list") (b := "int") (r := false) (by decide +kernel)
  | .tuple _ => kit_ty (a := "tuple") (b := "int") (r := false) (by decide +kernel)
  | .dict _ => kit_ty (a := "dict") (b := "int") (r := false) (by decide +kernel)
theorem kit_bool {K : PySem.W.Frag} (d : PyData) : PySem.W.kitOne K (.type (tyD d)) (.type "bool") = some (boolD d) :=
  match d with
  | PyData.none => kit_ty (a := "NoneType") (b := "bool") (r := false) (by decide +kernel)
  | .bool _ => kit_ty (a := "bool") (b := "bool") (r := true) (by decide +kernel)
  | .int _ => kit_ty (a := "int") (b := "bool") (r := false) (by decide +kernel)
  | .str _ => kit_ty (a := "str") (b := "bool") (r := false) (by decide +kernel)
  | .list _ => kit_ty (a := "list") (b := "bool") (r := false) (by decide +kernel)
  | .tuple _ => kit_ty (a := "tuple") (b := "bool") (r := false) (by decide +kernel)
  | .dict _ => kit_ty (a := "dict") (b := "bool") (r := false) (by decide +kernel)
theorem same_upd {H : Hp} {p : Addr} {o : HO} (h : H p = none) : Same H (upd H p o) := fun b x e => by
  rw [upd_ne (ne_of_none e h)]
  exact e
mutual
theorem Dt.same {K : PySem.W.Frag} {H H' : Hp} (e : Same H H') : ∀ {v : V} (d : PyData), Dt K H v d → Dt K H' v d
  | _, .none, h => by cases h; exact .non
  | _, .bool _, h => by cases h; exact .bl _
  | _, .int _, h => by cases h; exact .int _
  | _, .str _, h => by cases h; exact .str _
  | _, .list ds, h => by
    cases h with
    | lst q a => exact .lst (e.seq q) (DtAll.same e ds a)
  | _, .tuple ds, h => by
    cases h with
    | tup q a =>
      refine .tup ?_ (DtAll.same e ds a)
      rcases q with (q | ⟨o, q⟩) | q
      · exact .inl (.inl (e _ _ q))
      · exact .inl (.inr ⟨o, e _ _ q⟩)
      · exact .inr q
  | _, .dict ps, h => by
    cases h with
    | dct q a b => exact .dct (e _ _ q) a b
theorem DtAll.same {K : PySem.W.Frag} {H H' : Hp} (e : Same H H') : ∀ {vs : List V} (ds : List PyData), DtAll K H vs ds → DtAll K H' vs ds
  | _, [], h => by cases h; exact .nil
  | _, d :: ds, h => by
    cases h with
    | cons a b => exact .cons (Dt.same e d a) (DtAll.same e ds b)
end
theorem iteNot {b : Bool} {A B : Prop} (e : ¬ b = true) (h : B) : if b = true then A else B := by
  rw [if_neg e]
  exact h
theorem letters_abc : (("abcdefghijklmnopqrstuvwxyz" : String) : Str).cps.toList = abc := by decide +kernel
/-- a text that is short enough -/
def ShortD (d : PyData) : Prop := ∀ z, d = .str z → z.length ≤ 1000
theorem small_line {n : Nat} (h : n ≤ 1000) : n ≤ sizeLine := Nat.le_of_lt (small1000 h)
/-! ### written data -/
theorem PE.of {X : Cx} {e : Expr} {t t' : TE} (h : PE X e t) (i : ∀ σ H Q, t' σ H Q → t σ H Q) : PE X e t' :=
  ⟨fun pins s σ H Q I q => h.run pins s σ H Q I (i σ H Q q)⟩
theorem PA.of {X : Cx} {es : List Expr} {t t' : TA} (h : PA X es t) (i : ∀ σ H Q, t' σ H Q → t σ H Q) : PA X es t' :=
  ⟨fun pos pins s σ H Q I q => h.run pos pins s σ H Q I (i σ H Q q)⟩
/-- what stands in H' and did not in H -/
def minus (H' H : Hp) : Hp := fun b => if H b = none then H' b else none
theorem minus_some {H' H : Hp} {b : Addr} {o : HO} (h : minus H' H b = some o) : H b = none ∧ H' b = some o := by
  unfold minus at h
  split at h
  · rename_i c
    exact ⟨c, h⟩
  · cases h
theorem minus_mk {H' H : Hp} {b : Addr} {o : HO} (h : H b = none) (h' : H' b = some o) : minus H' H b = some o := by
  unfold minus
  rw [if_pos h]
  exact h'
theorem minus_sub {H' H : Hp} : Same (minus H' H) H' := fun _ _ e => (minus_some e).2
theorem minus_l {H H1 H2 : Hp} (s : Same H1 H2) : Same (minus H1 H) (minus H2 H) := fun b o e => minus_mk (minus_some e).1 (s b o (minus_some e).2)
theorem minus_r {H H1 H2 : Hp} (s : Same H H1) : Same (minus H2 H1) (minus H2 H) := fun b o e => minus_mk (s.free (minus_some e).1) (minus_some e).2
theorem minus_at {H H1 : Hp} {p : Addr} {o : HO} (s : Same H H1) (h : H1 p = none) : minus (upd H1 p o) H p = some o := minus_mk (s.free h) upd_same
/-- an expression that gives the datum d, of new objects alone, all else as it was -/
def tLit (K : PySem.W.Frag) (d : PyData) : TE := fun _ H Q => ∀ v H', Same H H' → Dt K (minus H' H) v d → Q v H'
def tLits (K : PySem.W.Frag) (ds : List PyData) : TA := fun _ H Q => ∀ vs H', Same H H' → DtAll K (minus H' H) vs ds → Q vs H'
theorem DtAll.len {K : PySem.W.Frag} {H : Hp} : ∀ {vs : List V} {ds : List PyData}, DtAll K H vs ds → vs.length = ds.length
  | _, _, .nil => rfl
  | _, _, .cons _ t => by rw [List.length_cons, List.length_cons, DtAll.len t]
section
variable {X : Cx} {pos : Pos} {j : Nat} {e : Expr} {es : List Expr} {d : PyData} {ds : List PyData}
theorem l_non {j} : PE X (.Constant .none j pos) (tLit X.K .none) := PE.of pe_non fun _ H _ q => q _ H (Same.refl _) .non
theorem l_bl {b j} : PE X (.Constant (.bool b) j pos) (tLit X.K (.bool b)) := PE.of pe_bl fun _ H _ q => q _ H (Same.refl _) (.bl _)
theorem l_int {i j} : PE X (.Constant (.int i) j pos) (tLit X.K (.int i)) := PE.of pe_int fun _ H _ q => q _ H (Same.refl _) (.int _)
theorem l_str {x j} : PE X (.Constant (.str x) j pos) (tLit X.K (.str x)) := PE.of pe_str fun _ H _ q => q _ H (Same.refl _) (.str _)
theorem l_neg {i j} {p : Pos} : PE X (.UnaryOp .USub (.Constant (.int i) j p) pos) (tLit X.K (.int (-i))) := PE.of (pe_un un_neg pe_int) fun _ H _ q => ⟨i, rfl, q _ H (Same.refl _) (.int _)⟩
theorem ls_nil : PA X [] (tLits X.K []) := PA.of pa_nil fun _ H _ q => q _ H (Same.refl _) .nil
theorem ls_cons (h : PE X e (tLit X.K d)) (hs : PA X es (tLits X.K ds)) (hx : starEach (e :: es) X.env = (false, eval e X.env) :: starEach es X.env := by rfl) : PA X (e :: es) (tLits X.K (d :: ds)) :=
  PA.of (pa_cons h hs hx) fun _ _ _ q v H1 s1 h1 vs H2 s2 h2 => q (v :: vs) H2 (s1.trans s2) (.cons (Dt.same (minus_l s2) _ h1) (DtAll.same (minus_r s1) _ h2))
theorem l_lst (hs : PA X es (tLits X.K ds)) (hz : ds.length ≤ 1000 := by decide) : PE X (.List es pos) (tLit X.K (.list ds)) :=
  PE.of (pe_lst hs) fun _ _ _ q vs H1 s1 h1 => ⟨by rw [h1.len]; exact small_line hz, fun p hp => q _ _ (s1.trans (same_upd hp)) (.lst (.inl (.inl (minus_at s1 hp))) (DtAll.same (minus_l (same_upd hp)) _ h1))⟩
theorem l_tup {k} (hs : PA X es (tLits X.K ds)) (hz : ds.length ≤ 1000 := by decide) : PE X (.Tuple es k pos) (tLit X.K (.tuple ds)) :=
  PE.of (pe_tup hs) fun _ _ _ q vs H1 s1 h1 => ⟨by rw [h1.len]; exact small_line hz, fun p hp => q _ _ (s1.trans (same_upd hp)) (.tup (.inl (.inl (minus_at s1 hp))) (DtAll.same (minus_l (same_upd hp)) _ h1))⟩
theorem l_dct0 : PE X (.Dict [] [] pos) (tLit X.K (.dict [])) :=
  PE.of pe_dnewK fun _ _ _ q p hp => q _ _ (same_upd hp) (.dct (minus_at (Same.refl _) hp) .nil .nil)
theorem l_dctS {z i j1 j2} {p1 p2 : Pos} : PE X (.Dict [some (.Constant (.str z) j1 p1)] [.Constant (.int i) j2 p2] pos) (tLit X.K (.dict [(.str z, .int i)])) :=
  PE.of (pe_disp (pps_cons pe_str pe_int pps_nil) (by rfl) (by rfl) (fun z => by cases z) (by show 1 ≤ 15; decide)) fun _ _ _ q p hp =>
    ⟨upd_same, [(.inr z, .int i)], rfl, by show 1 ≤ 15; decide, by
      rw [upd_upd]
      exact q _ _ (same_upd hp) (.dct (minus_at (Same.refl _) hp) (.cons (.str z) .nil) (.cons (.int i) .nil))⟩
theorem l_dctI {z i j1 j2} {p1 p2 : Pos} : PE X (.Dict [some (.Constant (.int i) j1 p1)] [.Constant (.str z) j2 p2] pos) (tLit X.K (.dict [(.int i, .str z)])) :=
  PE.of (pe_disp (pps_cons pe_int pe_str pps_nil) (by rfl) (by rfl) (fun z => by cases z) (by show 1 ≤ 15; decide)) fun _ _ _ q p hp =>
    ⟨upd_same, [(.inl i, .str z)], rfl, by show 1 ≤ 15; decide, by
      rw [upd_upd]
      exact q _ _ (same_upd hp) (.dct (minus_at (Same.refl _) hp) (.cons (.int i) .nil) (.cons (.str z) .nil))⟩
/-- a written list of data as a list -/
def tLitL (K : PySem.W.Frag) (ds : List PyData) : TE := fun _ H Q => ∀ l xs H', Same H H' → H l = none → H' l = some (.lst xs) → DtAll K (minus H' H) xs ds → Q (.ref l) H'
theorem l_list (hs : PA X es (tLits X.K ds)) (hz : ds.length ≤ 1000 := by decide) : PE X (.List es pos) (tLitL X.K ds) :=
  PE.of (pe_lst hs) fun _ _ _ q vs H1 s1 h1 => ⟨by rw [h1.len]; exact small_line hz, fun p hp => q p vs _ (s1.trans (same_upd hp)) (s1.free hp) upd_same (DtAll.same (minus_l (same_upd hp)) _ h1)⟩
end
theorem DtAll.append {K : PySem.W.Frag} {H : Hp} : ∀ {vs us : List V} {ds es : List PyData}, DtAll K H vs ds → DtAll K H us es → DtAll K H (vs ++ us) (ds ++ es)
  | _, _, _, _, .nil, h => h
  | _, _, _, _, .cons a t, h => .cons a (DtAll.append t h)
theorem DtAll.mem {K : PySem.W.Frag} {H : Hp} : ∀ {vs : List V} {ds : List PyData} {v : V}, DtAll K H vs ds → v ∈ vs → ∃ d, d ∈ ds ∧ Dt K H v d
  | _, _, _, .nil, h => by cases h
  | _, _, _, .cons a t, h => by
    rcases List.mem_cons.mp h with e | e
    · subst e
      exact ⟨_, List.mem_cons_self, a⟩
    · obtain ⟨d, h1, h2⟩ := DtAll.mem t e
      exact ⟨d, List.mem_cons_of_mem _ h1, h2⟩
/-- an item by a number in the bounds -/
theorem pick {α : Type} {xs : List α} {i : Int} (h0 : 0 ≤ i) (h1 : i < xs.length) : ∃ v, atI xs i = some v ∧ v ∈ xs := by
  obtain ⟨n, rfl⟩ := Int.eq_ofNat_of_zero_le h0
  have hn : n < xs.length := by omega
  exact ⟨xs[n], atI_nat (List.getElem?_eq_getElem hn), List.getElem_mem hn⟩
/-- a pot: two numbers -/
def Pot (H : Hp) (p : Addr) : Prop := ∃ x y : Int, H p = some (.lst [.int x, .int y]) ∧ 0 ≤ x ∧ 0 ≤ y ∧ y < 2147483648
/-- all but p as it was -/
def But (p : Addr) (H H' : Hp) : Prop := ∀ b o, b ≠ p → H b = some o → H' b = some o
theorem But.refl (p : Addr) (H : Hp) : But p H H := fun _ _ _ e => e
theorem But.trans {p : Addr} {H H1 H2 : Hp} (a : But p H H1) (b : But p H1 H2) : But p H H2 := fun c o n e => b c o n (a c o n e)
theorem But.new {p q : Addr} {H : Hp} {o : HO} (h : H q = none) : But p H (upd H q o) := fun b x _ e => same_upd h b x e
theorem But.at {p : Addr} {H : Hp} {o : HO} : But p H (upd H p o) := fun b x n e => by rw [upd_ne n]; exact e
theorem Pot.new {p q : Addr} {H : Hp} {o : HO} (h : H q = none) (P : Pot H p) : Pot (upd H q o) p := by
  obtain ⟨x, y, e, r⟩ := P
  exact ⟨x, y, same_upd h _ _ e, r⟩
theorem Pot.but {p q : Addr} {H H' : Hp} (P : Pot H p) (b : But q H H') (n : p ≠ q) : Pot H' p := by
  obtain ⟨x, y, e, r⟩ := P
  exact ⟨x, y, b _ _ n e, r⟩
def LitM (m : Int) : Prop := 0 < m ∧ m.natAbs.log2 < 9000
/-- all but p -/
def away (p : Addr) (H : Hp) : Hp := fun b => if b = p then none else H b
theorem away_some {p b : Addr} {H : Hp} {o : HO} (h : away p H b = some o) : b ≠ p ∧ H b = some o := by
  unfold away at h
  split at h
  · cases h
  · rename_i c
    exact ⟨c, h⟩
theorem away_mk {p b : Addr} {H : Hp} {o : HO} (n : b ≠ p) (h : H b = some o) : away p H b = some o := by
  unfold away
  rw [if_neg n]
  exact h
theorem But.away {p : Addr} {H H' : Hp} (b : But p H H') : Same (away p H) (away p H') := fun c o e => away_mk (away_some e).1 (b c o (away_some e).1 (away_some e).2)
theorem away_sub {p : Addr} {H : Hp} : Same (away p H) H := fun _ _ e => (away_some e).2
/-! ### texts that are drawn -/
def Tx (n : Nat) (z : Str) : Prop := z.length ≤ n ∧ ∀ c ∈ z.cps.toList, c < 128
theorem Tx.mono {n m : Nat} {z : Str} (h : Tx n z) (hn : n ≤ m) : Tx m z := ⟨Nat.le_trans h.1 hn, h.2⟩
theorem Tx.app {n m : Nat} {z y : Str} (h : Tx n z) (g : Tx m y) : Tx (n + m) (z ++ y) := by
  refine ⟨by rw [Str.length_append]; exact Nat.add_le_add h.1 g.1, fun c hc => ?_⟩
  rw [Str.cps_append, Array.toList_append, List.mem_append] at hc
  exact hc.elim (h.2 c) (g.2 c)
theorem Tx.cut {n : Nat} {z : Str} (h : Tx n z) (lo hi : Option Int) : Tx n (cutS z lo hi) :=
  ⟨Nat.le_trans (cutS_length z lo hi) h.1, fun c hc => h.2 c (List.mem_of_mem_drop (List.mem_of_mem_take hc))⟩
theorem joinL_ones : ∀ cs : List Nat, TL.joinL [] (cs.map fun c => [c]) = cs
  | [] => rfl
  | [_] => rfl
  | c :: d :: r => by
    show [c] ++ ([] ++ TL.joinL [] ((d :: r).map fun c => [c])) = c :: d :: r
    rw [joinL_ones (d :: r)]
    rfl
theorem join_ones (cs : List Nat) : (Txt.join "" (cs.map fun c => (⟨#[c]⟩ : Str))).cps.toList = cs := by
  rw [TL.join_eq]
  have h := TL.tl_join "" (cs.map fun c => (⟨#[c]⟩ : Str))
  have e : (cs.map fun c => (⟨#[c]⟩ : Str)).map TL.tl = cs.map fun c => [c] := by
    rw [List.map_map]
    rfl
  rw [e] at h
  exact h.trans (joinL_ones cs)
theorem Tx.join {cs : List Nat} {n : Nat} (hn : cs.length ≤ n) (h : ∀ c ∈ cs, c < 128) : Tx n (Txt.join "" (cs.map fun c => (⟨#[c]⟩ : Str))) := by
  have e := join_ones cs
  refine ⟨?_, fun c hc => h c (e ▸ hc)⟩
  show (Txt.join "" (cs.map fun c => (⟨#[c]⟩ : Str))).cps.size ≤ n
  rw [← Array.length_toList, e]
  exact hn
theorem lens_ones : ∀ cs : List Nat, ((cs.map fun c => (⟨#[c]⟩ : Str)).map (·.length)).sum = cs.length
  | [] => rfl
  | c :: r => by
    show 1 + ((r.map fun c => (⟨#[c]⟩ : Str)).map (·.length)).sum = r.length + 1
    rw [lens_ones r]
    omega
theorem litM (m : Int) (h : 0 < m) (h2 : m < 2 ^ 300) : LitM m := by
  refine ⟨h, ?_⟩
  have a : m.natAbs < 2 ^ 300 := by omega
  exact Nat.lt_trans (PySem.Flt.log2_lt_of (by decide) a) (by decide)
theorem same_but {p : Addr} {H H' : Hp} (s : Same H H') : But p H H' := fun b o _ e => s b o e
theorem Pot.same {p : Addr} {H H' : Hp} (h : Pot H p) (s : Same H H') : Pot H' p := by
  obtain ⟨x, y, e, r⟩ := h
  exact ⟨x, y, s _ _ e, r⟩
end Rc

namespace Rc
open PySem PySem.Spec PyProof.Rows L2
def topS (i : Nat) : Stmt := PySem.Challenge.pw_ringclear_k17_whole_let_fall.main.body.getD i (.Pass ⟨0, 0, 0, 0⟩)
section
variable {P : Program} {w : World} {K : PySem.W.Frag} {mg : Str → Option Value} {base : Heap}
/-! ### is_name -/
abbrev sName : Stmt := topS 11
theorem scName : FnScope ["thing", "sign"] ["thing"] (defScope sName) := ⟨rfl, rfl, rfl, by decide +kernel, rfl, by decide +kernel, by decide +kernel⟩
def spBool (K : PySem.W.Frag) (f : PyData → Bool) : Sp := fun vs H Q _ => ∃ v d, vs = [v] ∧ Dt K H v d ∧ ShortD d ∧ ∀ H', Same H H' → Q (.bl (f d)) H'
structure Blt (mg : Str → Option Value) : Prop where
  isi : mg "isinstance" = none
  str : mg "str" = none
  int : mg "int" = none
  bool : mg "bool" = none
  len : mg "len" = none
  all : mg "all" = none
theorem ok_name {f : Addr} {fd : FuncData} {k : Nat} (F : Fun K "is_name" "is_name" sName f fd) (B : Blt mg)
    (gL : ∃ t, mg "LETTERS" = some (.str "abcdefghijklmnopqrstuvwxyz" t)) (gM : ∃ t, mg "LONGEST" = some (.int 8 t)) :
    FnOk P w K mg base CX0 (k + 1) f fd ["thing"] (spBool K nameD) := by
  obtain ⟨tL, gL⟩ := gL
  obtain ⟨tM, gM⟩ := gM
  refine F.ok scName (fun vs H Q E h => ?_) (fun cdv A outer s H vs Q E hr h => ?_)
  · obtain ⟨v, d, rfl, _⟩ := h
    rfl
  · obtain ⟨v, d, rfl, hd, hz, q⟩ := h
    refine ⟨_, pss_cons (ps_if (pt_not (pt_val (pe_callB call_isi (by rfl) B.isi (by decide +kernel) (pa_cons (pv 0) (pa_cons (pe_bltn (v := .ty "str") (by rfl) B.str (by decide +kernel) rfl) pa_nil)))))
        (pss_one (ps_ret pe_bl)) pss_nil)
      (pss_cons (ps_if (PW.pt (pw_or (pt_cmpR op_lt (pe_callB call_len_str (by rfl) B.len PySem.boot_len (pa_cons (pv 0) pa_nil)) pe_int (nomark _))
          (pw_or1 (pt_cmpR op_gt (pe_callB call_len_str (by rfl) B.len PySem.boot_len (pa_cons (pv 0) pa_nil)) (pe_glob (v := .int 8) (by rfl) gM ⟨_, rfl⟩) (nomark _)))))
        (pss_one (ps_ret pe_bl)) pss_nil)
      (pss_one (ps_ret (pe_callB (cr_all rfl) (by rfl) B.all (by decide +kernel) (pa_cons
        (pe_lc (own := [("sign", 1)]) (g := gName 1) (tt := tYes) rfl scName.nd (pi_str (pv 0)) (blkOk_by (N := ["thing", "sign"]) (sc := defScope sName) (own := [("sign", 1)]) (by decide +kernel))
          (fun _ _ _ _ _ => pg_name (i := 1) scName.nd rfl (.inl rfl)) (fun _ _ _ _ _ => pts_nil)
          (fun _ _ _ _ _ => pe_cmpR op_in_sign (pv 1) (pe_glob (v := .str "abcdefghijklmnopqrstuvwxyz") (by rfl) gL ⟨_, rfl⟩) (by rfl))) pa_nil))))), ?_⟩
    refine ⟨v, rfl, v, .ty "str", _, _, strD d, rfl, .ty "str", hd.ty, kit_str d, _, rfl, ?_⟩
    cases hd with
    | str z =>
      refine iteF ?_
      have hz1 := hz z rfl
      have hz2 := small_line hz1
      refine ⟨.str z, rfl, z, rfl, hz2, _, _, rfl, rfl, _, rfl, ite2 (fun e => ?_) (fun e => ?_)⟩
      · refine iteT ?_
        have e1 : (z.length : Int) < 1 := of_decide_eq_true e
        have en : nameD (.str z) = false := by
          show nameT z = false
          unfold nameT
          rw [decide_eq_false (show ¬ 1 ≤ z.length by omega)]
          rfl
        rw [en] at q
        exact q _ (Same.refl _)
      · have e1 : ¬ (z.length : Int) < 1 := fun c => e (decide_eq_true c)
        refine ⟨.str z, rfl, z, rfl, hz2, _, _, rfl, rfl, _, rfl, ite2 (fun e2 => ?_) (fun e2 => ?_)⟩
        · have e3 : (8 : Int) < z.length := of_decide_eq_true e2
          have en : nameD (.str z) = false := by
            show nameT z = false
            unfold nameT
            rw [decide_eq_false (show ¬ z.length ≤ 8 by omega), Bool.and_false]
            rfl
          rw [en] at q
          exact q _ (Same.refl _)
        · have e3 : ¬ (8 : Int) < z.length := fun c => e2 (decide_eq_true c)
          refine ⟨.str z, rfl, z, rfl, fun D hD => lc_it walk_str (fun i H' => Same H H' ∧ H' D = some (.lst ((z.cps.toList.take i).map fun c => .bl (decide (c ∈ abc)))))
            ⟨same_upd hD, upd_same⟩ (fun _ _ _ _ => trivial) (fun i x H1 H2 hi hP hY => ?_) (fun H1 hP => ?_)⟩
          · obtain ⟨rfl, c, hc, rfl⟩ := hY
            refine ⟨rfl, .str ⟨#[c]⟩, rfl, c, _, rfl, rfl, _, hP.2, ?_, ?_, ?_⟩
            · rw [List.length_map, List.length_take]
              exact Nat.lt_of_le_of_lt (Nat.min_le_left _ _) (small1000 (by have : z.cps.size = z.length := rfl; omega))
            · intro b o eb
              rw [upd_ne (ne_of_none eb hD)]
              exact hP.1 b o eb
            · rw [upd_same, List.take_add_one, List.map_append]
              have g : z.cps.toList[i]? = some c := by rw [Array.getElem?_toList]; exact hc
              rw [g, letters_abc]
              rfl
          · refine ⟨D, z.cps.toList.map fun c => decide (c ∈ abc), rfl, .inl (.inl ?_), ?_⟩
            · have ez : z.cps.size = z.cps.toList.length := rfl
              rw [hP.2, ez, List.take_length, List.map_map]
              rfl
            · have en : nameD (.str z) = (z.cps.toList.map fun c => decide (c ∈ abc)).all id := by
                show nameT z = _
                unfold nameT
                rw [decide_eq_true (show 1 ≤ z.length by omega), decide_eq_true (show z.length ≤ 8 by omega), List.all_map]
                rfl
              rw [← en]
              exact q _ hP.1
    | _ => exact iteT (q _ (Same.refl _))
/-! ### is_whole, is_amount -/
abbrev sWhole : Stmt := topS 12
theorem scWhole : FnScope ["thing"] ["thing"] (defScope sWhole) := ⟨rfl, rfl, rfl, by decide +kernel, rfl, by decide +kernel, by decide +kernel⟩
theorem whole_eq (d : PyData) : (if (wholeD d || boolD d) = true then !boolD d else false) = wholeD d := by cases d <;> rfl
theorem ok_whole {f : Addr} {fd : FuncData} {k : Nat} (F : Fun K "is_whole" "is_whole" sWhole f fd) (B : Blt mg) :
    FnOk P w K mg base CX0 (k + 1) f fd ["thing"] (spBool K wholeD) := by
  refine F.ok scWhole (fun vs H Q E h => ?_) (fun cdv A outer s H vs Q E hr h => ?_)
  · obtain ⟨v, d, rfl, _⟩ := h
    rfl
  · obtain ⟨v, d, rfl, hd, hz, q⟩ := h
    refine ⟨_, pss_one (ps_ret (pe_and (pe_callB call_isi (by rfl) B.isi (by decide +kernel) (pa_cons (pv 0) (pa_cons (pe_bltn (v := .ty "int") (by rfl) B.int (by decide +kernel) rfl) pa_nil)))
      (pe_one (pe_not (pe_callB call_isi (by rfl) B.isi (by decide +kernel) (pa_cons (pv 0) (pa_cons (pe_bltn (v := .ty "bool") (by rfl) B.bool (by decide +kernel) rfl) pa_nil))))))), ?_⟩
    refine ⟨v, rfl, v, .ty "int", _, _, _, rfl, .ty "int", hd.ty, kit_int d, _, rfl, ?_⟩
    have e := whole_eq d
    have q1 := q H (Same.refl _)
    cases c : (wholeD d || boolD d) with
    | true =>
      rw [c, if_pos rfl] at e
      exact iteT ⟨v, rfl, v, .ty "bool", _, _, _, rfl, .ty "bool", hd.ty, kit_bool d, _, rfl, by rw [e]; exact q1⟩
    | false =>
      rw [c, if_neg Bool.false_ne_true] at e
      exact iteF (by rw [e]; exact q1)
abbrev sAmount : Stmt := topS 13
theorem scAmount : FnScope ["thing"] ["thing"] (defScope sAmount) := ⟨rfl, rfl, rfl, by decide +kernel, rfl, by decide +kernel, by decide +kernel⟩
theorem ok_amount {f fW : Addr} {fd fdW : FuncData} {k : Nat} (F : Fun K "is_amount" "is_amount" sAmount f fd) (FW : Fun K "is_whole" "is_whole" sWhole fW fdW)
    (bW : Binds K fdW ["thing"] []) (gW : mg "is_whole" = some (.ref fW)) (B : Blt mg) :
    FnOk P w K mg base CX0 (k + 2) f fd ["thing"] (spBool K amountD) := by
  have GW : FnOk P w K mg base CX0 (k + 1) fW fdW ["thing"] (spBool K wholeD) := ok_whole FW B
  refine F.ok scAmount (fun vs H Q E h => ?_) (fun cdv A outer s H vs Q E hr h => ?_)
  · obtain ⟨v, d, rfl, _⟩ := h
    rfl
  · obtain ⟨v, d, rfl, hd, hz, q⟩ := h
    refine ⟨_, pss_one (ps_ret (pe_and (pe_call GW hr (by rfl) gW FW.kp bW .nil pass0 (pa_cons (pv 0) pa_nil)) (pe_one (pe_cmpR op_ge (pv 0) pe_int (nomark _))))), ?_⟩
    refine ⟨v, rfl, v, d, rfl, hd, hz, fun H' sm => ⟨_, rfl, ?_⟩⟩
    have q1 := q H' sm
    cases hd with
    | int i => exact iteT ⟨_, rfl, i, 1, rfl, rfl, q1⟩
    | _ => exact iteF q1
end
end Rc

namespace Rc
open PySem PySem.Spec PyProof.Rows L2
section
variable {P : Program} {w : World} {K : PySem.W.Frag} {mg : Str → Option Value} {base : Heap}
structure Blt2 (mg : Str → Option Value) : Prop where
  abs : mg "abs" = none
  max : mg "max" = none
  min : mg "min" = none
  divmod : mg "divmod" = none
  range : mg "range" = none
  repr : mg "repr" = none
/-! ### _law_pot -/
abbrev sPot : Stmt := topS 23
theorem scPot : FnScope ["_law_script", "_law_k", "_law_cell"] ["_law_script", "_law_k"] (defScope sPot) := ⟨rfl, rfl, rfl, by decide +kernel, rfl, by decide +kernel, by decide +kernel⟩
def spPot (K : PySem.W.Frag) : Sp := fun vs H Q _ => ∃ (a : Addr) (ns : List Int) (k : Int), vs = [.ref a, .int k] ∧ SqL K H a (ns.map V.int) ∧ 0 ≤ k ∧ k ≤ 1000 ∧
  ∀ p o, H p = none → Pot (upd H p o) p → Q (.ref p) (upd H p o)
theorem ok_pot {f : Addr} {fd : FuncData} {k : Nat} (F : Fun K "_law_pot" "_law_pot" sPot f fd) (B : Blt mg) (B2 : Blt2 mg) :
    FnOk P w K mg base CX0 (k + 1) f fd ["_law_script", "_law_k"] (spPot K) := by
  refine F.ok scPot (fun vs H Q E h => ?_) (fun cdv A outer s H vs Q E hr h => ?_)
  · obtain ⟨a, ns, k, rfl, _⟩ := h
    rfl
  · obtain ⟨a, ns, k, rfl, hS, k0, k1, q⟩ := h
    refine ⟨_, pss_cons (ps_set (i := 2) scPot.nd rfl (.inl rfl) pe_int)
      (pss_cons (ps_if (pt_cmpR op_lt (pv 1) (pe_callB call_len_seq (by rfl) B.len PySem.boot_len (pa_cons (pv 0) pa_nil)) (nomark _))
        (pss_one (ps_set (i := 2) scPot.nd rfl (.inl rfl) (pe_callB call_abs (by rfl) B2.abs (by decide +kernel) (pa_cons (pe_ix ix_list (pv 0) (pv 1) (fun _ _ => rfl)) pa_nil)))) pss_nil)
      (pss_one (ps_ret (pe_lst (pa_cons (pe_callB (call_max2 rfl) (by rfl) B2.max (by decide +kernel) (pa_cons pe_int (pa_cons (pe_op op_sub (pv 2) (pe_op op_pow pe_int pe_int)) pa_nil)))
        (pa_cons (pe_op op_add (pe_op op_mod (pe_op op_pow (pe_op op_add (pe_op op_add (pe_op op_mod (pv 2) pe_int) (pe_op op_mul pe_int (pv 1))) pe_int) pe_int) pe_int) pe_int) pa_nil)))))), ?_⟩
    have fin : ∀ c : Int, 0 ≤ c → ∃ v, ([some (.ref a), some (.int k), some (.int c)] : List (Option V))[2]? = some (some v) ∧ v = .int c := fun c _ => ⟨_, rfl, rfl⟩
    have three : ∀ c : Int, 0 ≤ c → 0 ≤ c % 2147483549 + 101 * k + 1 ∧ (c % 2147483549 + 101 * k + 1).natAbs < 2 ^ 64 := fun c h0 => by
      have a1 : 0 ≤ c % 2147483549 := Int.emod_nonneg _ (by decide)
      have a2 : c % 2147483549 < 2147483549 := Int.emod_lt_of_pos _ (by decide)
      omega
    refine ⟨_, rfl, .ref a, rfl, a, _, rfl, .inl hS, _, _, rfl, rfl, _, rfl, ite2 (fun e => ?_) (fun e => ?_)⟩
    · have e1 : k < (ns.map V.int).length := of_decide_eq_true e
      rw [List.length_map] at e1
      obtain ⟨n, rfl⟩ := Int.eq_ofNat_of_zero_le k0
      have hn : n < ns.length := by omega
      have g : (ns.map V.int)[n]? = some (.int ns[n]) := by
        rw [List.getElem?_map, List.getElem?_eq_getElem hn]
        rfl
      refine ⟨.ref a, rfl, .int n, rfl, a, _, _, _, rfl, rfl, hS, atI_nat g, _, rfl, ?_⟩
      have c0 : 0 ≤ (if ns[n] < 0 then -ns[n] else ns[n]) := by split <;> omega
      generalize (if ns[n] < 0 then -ns[n] else ns[n]) = c at c0
      obtain ⟨t1, t2⟩ := three c c0
      refine ⟨.int c, rfl, _, _, rfl, rfl, ⟨by decide, by decide, by decide⟩, _, _, rfl, rfl, _, _, rfl, .int c, rfl, _, _, rfl, rfl, (show (0 : Int) < 2147483549 by decide), .int n, rfl, _, _, rfl, rfl, .inl ⟨by decide, by decide⟩, _, _, rfl, rfl, _, _, rfl, rfl, _, _, rfl, rfl, ⟨by decide, by decide, t2⟩, _, _, rfl, rfl, (show (0 : Int) < 2147483543 by decide), _, _, rfl, rfl, by show 2 ≤ sizeLine; decide, fun p np => ?_⟩
      refine q p _ np ⟨_, _, upd_same, ?_, ?_, ?_⟩
      · split <;> omega
      · have := Int.emod_nonneg ((c % 2147483549 + 101 * n + 1) ^ (2 : Int).toNat) (show (2147483543 : Int) ≠ 0 by decide)
        omega
      · have := Int.emod_lt_of_pos ((c % 2147483549 + 101 * n + 1) ^ (2 : Int).toNat) (show (0 : Int) < 2147483543 by decide)
        omega
    · obtain ⟨t1, t2⟩ := three 0 (Int.le_refl _)
      refine ⟨.int 0, rfl, _, _, rfl, rfl, ⟨by decide, by decide, by decide⟩, _, _, rfl, rfl, _, _, rfl, .int 0, rfl, _, _, rfl, rfl, (show (0 : Int) < 2147483549 by decide), .int k, rfl, _, _, rfl, rfl, .inl ⟨by decide, by decide⟩, _, _, rfl, rfl, _, _, rfl, rfl, _, _, rfl, rfl, ⟨by decide, by decide, t2⟩, _, _, rfl, rfl, (show (0 : Int) < 2147483543 by decide), _, _, rfl, rfl, by show 2 ≤ sizeLine; decide, fun p np => ?_⟩
      refine q p _ np ⟨_, _, upd_same, ?_, ?_, ?_⟩
      · split <;> omega
      · have := Int.emod_nonneg (((0 : Int) % 2147483549 + 101 * k + 1) ^ (2 : Int).toNat) (show (2147483543 : Int) ≠ 0 by decide)
        omega
      · have := Int.emod_lt_of_pos (((0 : Int) % 2147483549 + 101 * k + 1) ^ (2 : Int).toNat) (show (0 : Int) < 2147483543 by decide)
        omega
/-! ### _law_take -/
abbrev sTake : Stmt := topS 24
theorem scTake : FnScope ["_law_pot_here", "_law_many", "_law_digit"] ["_law_pot_here", "_law_many"] (defScope sTake) := ⟨rfl, rfl, rfl, by decide +kernel, rfl, by decide +kernel, by decide +kernel⟩
def spTake : Sp := fun vs H Q _ => ∃ (p : Addr) (m : Int), vs = [.ref p, .int m] ∧ Pot H p ∧ LitM m ∧ ∀ d H', 0 ≤ d → d < m → Pot H' p → But p H H' → Q (.int d) H'
theorem ok_take {f : Addr} {fd : FuncData} {k : Nat} (F : Fun K "_law_take" "_law_take" sTake f fd) (B2 : Blt2 mg) :
    FnOk P w K mg base CX0 (k + 1) f fd ["_law_pot_here", "_law_many"] spTake := by
  refine F.ok scTake (fun vs H Q E h => ?_) (fun cdv A outer s H vs Q E hr h => ?_)
  · obtain ⟨a, m, rfl, _⟩ := h
    rfl
  · obtain ⟨p, m, rfl, ⟨x, y, hp, x0, y0, y1⟩, ⟨m0, m1⟩, q⟩ := h
    refine ⟨_, pss_cons (ps_if (pt_cmpR op_gt (pe_ix ix_list (pv 0) pe_int (fun _ _ => rfl)) pe_int (nomark _))
        (pss_cons (ps_asg (pe_callB call_divmodW (by rfl) B2.divmod (by decide +kernel) (pa_cons (pe_ix ix_list (pv 0) pe_int (fun _ _ => rfl)) (pa_cons (pv 1) pa_nil)))
            (pg_tup rfl (pgs_cons (pg_sub (pv 0) pe_int set_list) (pgs_cons (pg_name (i := 2) scTake.nd rfl (.inl rfl)) pgs_nil))))
          (pss_one (ps_ret (pv 2)))) pss_nil)
      (pss_cons (ps_asg (pe_op op_mod (pe_op op_add (pe_op op_mul (pe_ix ix_list (pv 0) pe_int (fun _ _ => rfl)) pe_int) pe_int) pe_int) (pg_sub (pv 0) pe_int set_list))
      (pss_one (ps_ret (pe_op op_mod (pe_op op_fdiv (pe_op op_mod (pe_op op_mul (pe_ix ix_list (pv 0) pe_int (fun _ _ => rfl)) (pe_ix ix_list (pv 0) pe_int (fun _ _ => rfl))) pe_int) pe_int) (pv 1))))), ?_⟩
    have sq : SqL K H p [.int x, .int y] := .inl (.inl hp)
    refine ⟨.ref p, rfl, p, _, 0, .int x, rfl, rfl, sq, rfl, _, _, rfl, rfl, _, rfl, ite2 (fun e => ?_) (fun e => ?_)⟩
    · have e1 : 0 < x := of_decide_eq_true e
      refine ⟨.ref p, rfl, p, _, 0, .int x, rfl, rfl, sq, rfl, .int m, rfl, x, m, rfl, ⟨m0, PyProof.noPylong_of_log2 m1⟩, fun T hT => ?_⟩
      refine ⟨T, _, rfl, .inl (.inl upd_same), rfl, _, _, rfl, .ref p, rfl, p, _, 0, 0, rfl, rfl, same_upd hT _ _ hp, rfl, _, _, rfl, rfl, ?_⟩
      refine ⟨_, rfl, q _ _ (Int.emod_nonneg _ (by omega)) (Int.emod_lt_of_pos _ m0) ⟨x / m, y, upd_same, Int.ediv_nonneg x0 (by omega), y0, y1⟩ ?_⟩
      exact (But.new hT).trans But.at
    · have c0 : 0 ≤ (y * 48271 + 10007) % 2147483587 := Int.emod_nonneg _ (by decide)
      have c1 : (y * 48271 + 10007) % 2147483587 < 2147483587 := Int.emod_lt_of_pos _ (by decide)
      refine ⟨.ref p, rfl, p, _, 1, .int y, rfl, rfl, sq, rfl, _, _, rfl, rfl, .inl ⟨by omega, by omega⟩, _, _, rfl, rfl, _, _, rfl, rfl, (show (0 : Int) < 2147483587 by decide), .ref p, rfl, p, _, 1, 1, rfl, rfl, hp, rfl, ?_⟩
      have sq2 : SqL K (upd H p (.lst ([V.int x, V.int y].set 1 (.int ((y * 48271 + 10007) % 2147483587))))) p [.int x, .int ((y * 48271 + 10007) % 2147483587)] := .inl (.inl upd_same)
      refine ⟨.ref p, rfl, p, _, 1, _, rfl, rfl, sq2, rfl, .ref p, rfl, p, _, 1, _, rfl, rfl, sq2, rfl, _, _, rfl, rfl, .inl ⟨by omega, by omega⟩, _, _, rfl, rfl, (show (0 : Int) < 2147483563 by decide), _, _, rfl, rfl, ⟨by decide, by decide⟩, .int m, rfl, _, _, rfl, rfl, m0, ?_⟩
      exact q _ _ (Int.emod_nonneg _ (by omega)) (Int.emod_lt_of_pos _ m0) ⟨x, _, upd_same, x0, c0, by omega⟩ But.at
/-- what the callers of _law_take have -/
structure HasTake (P : Program) (w : World) (K : PySem.W.Frag) (mg : Str → Option Value) (base : Heap) (f : Addr) (fd : FuncData) : Prop where
  ok : FnOk P w K mg base CX0 1 f fd ["_law_pot_here", "_law_many"] spTake
  g : mg "_law_take" = some (.ref f)
  kp : PySem.W.keepIn K (.ref f) = true
  b : Binds K fd ["_law_pot_here", "_law_many"] []
/-! ### _law_among -/
abbrev sAmong : Stmt := topS 27
theorem scAmong : FnScope ["_law_pot_here", "_law_some"] ["_law_pot_here", "_law_some"] (defScope sAmong) := ⟨rfl, rfl, rfl, by decide +kernel, rfl, by decide +kernel, by decide +kernel⟩
def spAmong : Sp := fun vs H Q _ => ∃ p v, vs = [.ref p, v] ∧ Pot H p ∧
  ((∃ z, v = .str z ∧ 0 < z.length ∧ z.length ≤ 1000 ∧ ∀ c H', c ∈ z.cps.toList → Pot H' p → But p H H' → Q (.str ⟨#[c]⟩) H') ∨
   (∃ a xs, v = .ref a ∧ a ≠ p ∧ H a = some (.lst xs) ∧ 0 < xs.length ∧ xs.length ≤ 1000 ∧ ∀ x H', x ∈ xs → Pot H' p → But p H H' → Q x H'))
theorem ok_among {f fT : Addr} {fd fdT : FuncData} (F : Fun K "_law_among" "_law_among" sAmong f fd) (B : Blt mg) (T : HasTake P w K mg base fT fdT) :
    FnOk P w K mg base CX0 2 f fd ["_law_pot_here", "_law_some"] spAmong := by
  refine F.ok scAmong (fun vs H Q E h => ?_) (fun cdv A outer s H vs Q E hr h => ?_)
  · obtain ⟨a, m, rfl, _⟩ := h
    rfl
  · obtain ⟨p, v, rfl, hp, h⟩ := h
    refine ⟨_, pss_one (ps_ret (pe_ix ix_seq (pv 1) (pe_call T.ok hr (by rfl) T.g T.kp T.b .nil pass0 (pa_cons (pv 0) (pa_cons (pe_callB call_len (by rfl) B.len PySem.boot_len (pa_cons (pv 1) pa_nil)) pa_nil))) (fun _ _ => rfl))), ?_⟩
    rcases h with ⟨z, rfl, z0, z1, q⟩ | ⟨a, xs, rfl, ne, ha, x0, x1, q⟩
    · have zl := small_line z1
      refine ⟨.str z, rfl, .ref p, rfl, .str z, rfl, .str z, z.length, rfl, ⟨zl, rfl⟩, p, z.length, rfl, hp, litM _ (by omega) (by omega), fun d H' d0 d1 hp' hb => ?_⟩
      have el : z.cps.toList.length = z.length := rfl
      obtain ⟨c, e1, e2⟩ := pick (xs := z.cps.toList) d0 (by rw [el]; exact d1)
      exact .inr (.inr ⟨z, d, c, rfl, rfl, zl, e1, q c H' e2 hp' hb⟩)
    · refine ⟨.ref a, rfl, .ref p, rfl, .ref a, rfl, .ref a, xs.length, rfl, .inl ⟨xs, .inl (.inl ha), rfl⟩, p, xs.length, rfl, hp, litM _ (by omega) (by omega), fun d H' d0 d1 hp' hb => ?_⟩
      obtain ⟨c, e1, e2⟩ := pick (xs := xs) d0 d1
      exact .inl ⟨a, xs, d, c, rfl, rfl, .inl (.inl (hb _ _ ne ha)), e1, q c H' e2 hp' hb⟩
structure HasAmong (P : Program) (w : World) (K : PySem.W.Frag) (mg : Str → Option Value) (base : Heap) (f : Addr) (fd : FuncData) : Prop where
  ok : FnOk P w K mg base CX0 2 f fd ["_law_pot_here", "_law_some"] spAmong
  g : mg "_law_among" = some (.ref f)
  kp : PySem.W.keepIn K (.ref f) = true
  b : Binds K fd ["_law_pot_here", "_law_some"] []
end
end Rc

namespace Rc
open PySem PySem.Spec PyProof.Rows L2
/-! ### what no list and no dict touches -/
def Fix : HO → Prop
  | .lst _ | .dK _ | .dT _ | .set _ _ => False
  | _ => True
/-- all but lists and dicts as it was -/
def Kp (H H' : Hp) : Prop := ∀ b o, H b = some o → Fix o → H' b = some o
theorem Kp.refl (H : Hp) : Kp H H := fun _ _ e _ => e
theorem Kp.trans {H H1 H2 : Hp} (a : Kp H H1) (b : Kp H1 H2) : Kp H H2 := fun c o e f => b c o (a c o e f) f
theorem Same.kp {H H' : Hp} (s : Same H H') : Kp H H' := fun b o e _ => s b o e
theorem But.kp {p : Addr} {H H' : Hp} {xs : List V} (s : But p H H') (h : H p = some (.lst xs)) : Kp H H' := fun b o e f => s b o (fun z => by
  rw [z, h] at e
  cases e
  exact f) e
/-- all tuples as they were -/
def TupO : HO → Prop
  | .tup _ | .frz _ _ => True
  | _ => False
def KT (H H' : Hp) : Prop := ∀ b o, H b = some o → TupO o → H' b = some o
theorem Kp.kt {H H' : Hp} (k : Kp H H') : KT H H' := fun b o e t => k b o e (by cases o <;> first | exact t.elim | exact trivial)
theorem kt_same {H H' : Hp} (s : Same H H') : KT H H' := fun b o e _ => s b o e
theorem KT.trans {H H1 H2 : Hp} (a : KT H H1) (b : KT H1 H2) : KT H H2 := fun c o e f => b c o (a c o e f) f
theorem kt_upd {H : Hp} {x : Addr} {o o' : HO} (h : H x = some o) (n : ¬ TupO o) : KT H (upd H x o') := fun b u e t => by
  have nb : b ≠ x := fun z => by
    rw [z, h] at e
    cases e
    exact n t
  rw [upd_ne nb]
  exact e
mutual
/-- no list, no dict in it -/
def tupD : PyData → Bool
  | .list _ | .dict _ => false
  | .tuple ds => tupDs ds
  | .none | .bool _ | .int _ | .str _ => true
def tupDs : List PyData → Bool
  | [] => true
  | d :: ds => tupD d && tupDs ds
end
mutual
theorem Dt.keepT {K : PySem.W.Frag} {H H' : Hp} (e : KT H H') : ∀ {v : V} (d : PyData), tupD d = true → Dt K H v d → Dt K H' v d
  | _, .none, _, h => by cases h; exact .non
  | _, .bool _, _, h => by cases h; exact .bl _
  | _, .int _, _, h => by cases h; exact .int _
  | _, .str _, _, h => by cases h; exact .str _
  | _, .list ds, t, h => by simp [tupD] at t
  | _, .dict ps, t, h => by simp [tupD] at t
  | _, .tuple ds, t, h => by
    cases h with
    | tup q a =>
      refine .tup ?_ (DtAll.keepT e ds (by simpa [tupD] using t) a)
      rcases q with (q | ⟨o, q⟩) | q
      · exact .inl (.inl (e _ _ q trivial))
      · exact .inl (.inr ⟨o, e _ _ q trivial⟩)
      · exact .inr q
theorem DtAll.keepT {K : PySem.W.Frag} {H H' : Hp} (e : KT H H') : ∀ {vs : List V} (ds : List PyData), tupDs ds = true → DtAll K H vs ds → DtAll K H' vs ds
  | _, [], _, h => by cases h; exact .nil
  | _, d :: ds, t, h => by
    cases h with
    | cons a b =>
      have t' : tupD d = true ∧ tupDs ds = true := by simpa [tupDs] using t
      exact .cons (Dt.keepT e d t'.1 a) (DtAll.keepT e ds t'.2 b)
end
theorem Dt.keep {K : PySem.W.Frag} {H H' : Hp} (e : Kp H H') {v : V} (d : PyData) (t : tupD d = true) (h : Dt K H v d) : Dt K H' v d := Dt.keepT e.kt d t h
theorem DtAll.keep {K : PySem.W.Frag} {H H' : Hp} (e : Kp H H') {vs : List V} (ds : List PyData) (t : tupDs ds = true) (h : DtAll K H vs ds) : DtAll K H' vs ds := DtAll.keepT e.kt ds t h
theorem tupDs_map {α : Type} {f : α → PyData} (h : ∀ x, tupD (f x) = true) : ∀ l : List α, tupDs (l.map f) = true
  | [] => rfl
  | x :: r => by
    rw [List.map_cons]
    simp only [tupDs, h x, tupDs_map h r, Bool.and_self]
theorem DtAll.drop {K : PySem.W.Frag} {H : Hp} : ∀ {vs : List V} {ds : List PyData} (n : Nat), DtAll K H vs ds → DtAll K H (vs.drop n) (ds.drop n)
  | _, _, 0, h => h
  | _, _, _ + 1, .nil => .nil
  | _, _, n + 1, .cons _ t => DtAll.drop n t
theorem DtAll.take {K : PySem.W.Frag} {H : Hp} : ∀ {vs : List V} {ds : List PyData} (n : Nat), DtAll K H vs ds → DtAll K H (vs.take n) (ds.take n)
  | _, _, 0, h => .nil
  | _, _, _ + 1, .nil => .nil
  | _, _, n + 1, .cons a t => .cons a (DtAll.take n t)
theorem DtAll.get {K : PySem.W.Frag} {H : Hp} : ∀ {vs : List V} {ds : List PyData} {n : Nat} {d : PyData}, DtAll K H vs ds → ds[n]? = some d → ∃ v, vs[n]? = some v ∧ Dt K H v d
  | _, _, _, _, .nil, e => by simp at e
  | _, _, 0, _, .cons a _, e => by
    simp at e
    subst e
    exact ⟨_, rfl, a⟩
  | _, _, n + 1, _, .cons _ t, e => by
    obtain ⟨v, h1, h2⟩ := DtAll.get (n := n) t (by simpa using e)
    exact ⟨v, by simpa using h1, h2⟩
theorem DtAll.rep {K : PySem.W.Frag} {H : Hp} {v : V} {d : PyData} (h : Dt K H v d) : ∀ n : Nat, DtAll K H (List.replicate n v) (List.replicate n d)
  | 0 => .nil
  | n + 1 => .cons h (DtAll.rep h n)
theorem DtAll.strs {K : PySem.W.Frag} {H : Hp} : ∀ zs : List Str, DtAll K H (zs.map V.str) (zs.map PyData.str)
  | [] => .nil
  | z :: r => .cons (.str z) (DtAll.strs r)
theorem DtAll.ints {K : PySem.W.Frag} {H : Hp} : ∀ zs : List Int, DtAll K H (zs.map V.int) (zs.map PyData.int)
  | [] => .nil
  | z :: r => .cons (.int z) (DtAll.ints r)
theorem DtAll.strs_eq {K : PySem.W.Frag} {H : Hp} : ∀ {vs : List V} {zs : List Str}, DtAll K H vs (zs.map PyData.str) → vs = zs.map V.str
  | _, [], h => by cases h; rfl
  | _, z :: r, h => by
    cases h with
    | cons a t =>
      cases a
      rw [DtAll.strs_eq t]
      rfl
theorem DtAll.ints_eq {K : PySem.W.Frag} {H : Hp} : ∀ {vs : List V} {zs : List Int}, DtAll K H vs (zs.map PyData.int) → vs = zs.map V.int
  | _, [], h => by cases h; rfl
  | _, z :: r, h => by
    cases h with
    | cons a t =>
      cases a
      rw [DtAll.ints_eq t]
      rfl
/-! ### rules by data -/
theorem Dt.tup_inv {K : PySem.W.Frag} {H : Hp} {v : V} {ds : List PyData} (h : Dt K H v (.tuple ds)) : ∃ a xs, v = .ref a ∧ SqT K H a xs ∧ DtAll K H xs ds := by
  cases h with
  | tup q a => exact ⟨_, _, rfl, q, a⟩
theorem Dt.lst_inv {K : PySem.W.Frag} {H : Hp} {v : V} {ds : List PyData} (h : Dt K H v (.list ds)) : ∃ a xs, v = .ref a ∧ SqL K H a xs ∧ DtAll K H xs ds := by
  cases h with
  | lst q a => exact ⟨_, _, rfl, q, a⟩
section
variable {X : Cx}
def rCatD (K : PySem.W.Frag) : R2 := fun x y H Q => ∃ ds es, Dt K H x (.tuple ds) ∧ Dt K H y (.tuple es) ∧ ds.length + es.length ≤ 1000 ∧ ∀ v H', Same H H' → Dt K H' v (.tuple (ds ++ es)) → Q v H'
theorem op_catD : OpR X (binaryOp .Add) (rCatD X.K) := by
  intro pins s σ H x y v u Q I rx ry h
  obtain ⟨ds, es, h1, h2, hz, q⟩ := h
  obtain ⟨a, xs, rfl, qa, da⟩ := h1.tup_inv
  obtain ⟨b, ys, rfl, qb, db⟩ := h2.tup_inv
  refine op_catA pins s σ H _ _ v u Q I rx ry ⟨a, b, xs, ys, rfl, rfl, qa, qb, small_line (by rw [da.len, db.len]; exact hz), fun e => ?_, fun _ e => ?_, fun _ _ p hp => ?_⟩
  · subst e
    cases da
    exact q _ H (Same.refl _) h2
  · subst e
    cases db
    rw [List.append_nil] at q
    exact q _ H (Same.refl _) h1
  · exact q _ _ (same_upd hp) (.tup (.inl (.inl upd_same)) ((DtAll.same (same_upd hp) _ da).append (DtAll.same (same_upd hp) _ db)))
/-- t[n], n from 0 on -/
def rIxD (K : PySem.W.Frag) : R2 := fun x y H Q => ∃ ds n d, Dt K H x (.tuple ds) ∧ y = .int (n : Nat) ∧ ds[n]? = some d ∧ ∀ v, Dt K H v d → Q v H
theorem ix_tupD : IxR X (rIxD X.K) := by
  intro value slice pins s σ H x y v u Q I rx ry h hs
  obtain ⟨ds, n, d, h1, rfl, e, q⟩ := h
  obtain ⟨a, xs, rfl, qa, da⟩ := h1.tup_inv
  obtain ⟨z, e1, e2⟩ := da.get e
  exact ix_tup value slice pins s σ H _ _ v u Q I rx ry ⟨a, xs, n, z, rfl, rfl, qa, atI_nat e1, q z e2⟩ hs
/-- t[:n], t[n:] -/
def rSlD (K : PySem.W.Frag) : V → Option Int → Option Int → Hp → VK → Prop := fun x lo hi H Q => ∃ ds, Dt K H x (.tuple ds) ∧
  ((∃ n : Nat, lo = none ∧ hi = some (n : Int) ∧ ∀ v H', Same H H' → Dt K H' v (.tuple (ds.take n)) → Q v H') ∨ (∃ n : Nat, lo = some (n : Int) ∧ hi = none ∧ ∀ v H', Same H H' → Dt K H' v (.tuple (ds.drop n)) → Q v H'))
theorem cut_take (xs : List V) (n : Nat) : cutV xs none (some (n : Int)) = xs.take n := by
  unfold cutV
  rw [HT.sIx_nat, HT.sIx_none]
  rw [List.drop_zero, Nat.sub_zero]
  by_cases h : n ≤ xs.length
  · rw [Nat.min_eq_left h]
  · rw [Nat.min_eq_right (by omega), List.take_length, List.take_of_length_le (by omega)]
theorem cut_drop (xs : List V) (n : Nat) : cutV xs (some (n : Int)) none = xs.drop n := by
  unfold cutV
  rw [HT.sIx_nat, HT.sIx_none]
  by_cases h : n ≤ xs.length
  · rw [Nat.min_eq_left h]
    exact List.take_of_length_le (by rw [List.length_drop]; omega)
  · rw [Nat.min_eq_right (by omega), List.drop_length, List.drop_of_length_le (by omega), List.take_nil]
theorem sl_tupD : SlR X (rSlD X.K) := by
  intro pins s σ H x v vl vu lo hi sl Q I rx hs pl pu h
  obtain ⟨ds, h1, h⟩ := h
  obtain ⟨a, xs, rfl, qa, da⟩ := h1.tup_inv
  rcases h with ⟨n, rfl, rfl, q⟩ | ⟨n, rfl, rfl, q⟩
  · refine sl_tupA pins s σ H _ v vl vu _ _ sl Q I rx hs pl pu ⟨a, xs, rfl, qa, fun e => ?_, fun _ p hp => ?_⟩
    · have e2 := e.2
      rw [HT.sIx_nat] at e2
      refine q _ H (Same.refl _) ?_
      rw [List.take_of_length_le (by rw [← da.len]; omega)]
      exact h1
    · rw [cut_take]
      exact q _ _ (same_upd hp) (.tup (.inl (.inl upd_same)) (DtAll.same (same_upd hp) _ (da.take n)))
  · refine sl_tupA pins s σ H _ v vl vu _ _ sl Q I rx hs pl pu ⟨a, xs, rfl, qa, fun e => ?_, fun _ p hp => ?_⟩
    · have e1 := e.1
      rw [HT.sIx_nat] at e1
      refine q _ H (Same.refl _) ?_
      rcases Nat.min_eq_zero_iff.mp e1 with z | z
      · rw [z]
        exact h1
      · have : ds = [] := List.eq_nil_of_length_eq_zero (by rw [← da.len]; exact z)
        subst this
        rw [List.drop_nil]
        exact h1
    · rw [cut_drop]
      exact q _ _ (same_upd hp) (.tup (.inl (.inl upd_same)) (DtAll.same (same_upd hp) _ (da.drop n)))
/-- list(t), tuple(l) of tuples and lists of data: a new list; a tuple -/
def rListD (K : PySem.W.Frag) : List V → Hp → VK → Prop := fun vs H Q => ∃ v ds, vs = [v] ∧ (Dt K H v (.tuple ds) ∨ Dt K H v (.list ds)) ∧ ∀ l xs, H l = none → DtAll K H xs ds → Q (.ref l) (upd H l (.lst xs))
theorem call_listD : CallR X (.type "list") (rListD X.K) := by
  intro pins s σ H xs us Q I r h
  obtain ⟨v, ds, rfl, h1, q⟩ := h
  rcases h1 with h1 | h1
  · obtain ⟨a, ys, rfl, qa, da⟩ := h1.tup_inv
    exact call_list_of pins s σ H _ us Q I r ⟨a, ys, rfl, .inr qa, fun l hl => q l ys hl da⟩
  · obtain ⟨a, ys, rfl, qa, da⟩ := h1.lst_inv
    exact call_list_of pins s σ H _ us Q I r ⟨a, ys, rfl, .inl qa, fun l hl => q l ys hl da⟩
def rTupD (K : PySem.W.Frag) : List V → Hp → VK → Prop := fun vs H Q => ∃ v ds, vs = [v] ∧ Dt K H v (.list ds) ∧ ∀ t H', Same H H' → Dt K H' t (.tuple ds) → Q t H'
theorem call_tupD : CallR X (.type "tuple") (rTupD X.K) := by
  intro pins s σ H xs us Q I r h
  obtain ⟨v, ds, rfl, h1, q⟩ := h
  obtain ⟨a, ys, rfl, qa, da⟩ := h1.lst_inv
  exact call_tuple_of pins s σ H _ us Q I r ⟨a, ys, rfl, .inl ⟨qa, fun l hl => q _ _ (same_upd hl) (.tup (.inl (.inl upd_same)) (DtAll.same (same_upd hl) _ da))⟩⟩
end
open AutoSeq1 (wpAny_loadPart') in
theorem tuple_mul1 (l : Addr) (items : Array Value) (n : Nat) (dd : Option Addr) (sl : Array (Option Value)) (u : Tok) :
    Meets (Builtin.«tuple.__mul__» ⟨[.ref l, .int 1 u], []⟩) (fun _ R s => s.heap.get? l = some { cls := .type "tuple", dict := dd, data := .seq items n, slots := sl } ∧ R (.ok (.ret (Value.ref l))) s) :=
  .of_wp fun prog w A R s h => by
    obtain ⟨hp, g, d, tk, os⟩ := s
    obtain ⟨hl, h⟩ := h
    have f1 := AutoSeq1.idx_int
    wp_walk using wpAny_loadPart' hl
    exact ⟨_, rfl, h⟩
section
variable {X : Cx}
/-- (d,) * k, k from 1 on -/
def rRepD (K : PySem.W.Frag) : R2 := fun x y H Q => ∃ (d : PyData) (k : Nat), Dt K H x (.tuple [d]) ∧ y = .int (k : Nat) ∧ 1 ≤ k ∧ k ≤ 1000 ∧ ∀ v H', Same H H' → Dt K H' v (.tuple (List.replicate k d)) → Q v H'
theorem rep_one {v : V} : ∀ k : Nat, (List.replicate k [v]).flatten = List.replicate k v
  | 0 => rfl
  | k + 1 => by
    rw [List.replicate_succ, List.flatten_cons, rep_one k]
    rfl
theorem op_repD : OpR X (binaryOp .Mult) (rRepD X.K) := by
  intro pins s σ H x y v u Q I rx ry h
  obtain ⟨d, k, h1, rfl, k1, k2, q⟩ := h
  obtain ⟨l, xs, rfl, qa, da⟩ := h1.tup_inv
  by_cases hk : k = 1
  · subst hk
    cases rx
    obtain ⟨t, rfl⟩ := ry
    obtain ⟨its, r, ⟨⟨cls, dd, data, sl⟩, ho, hc, n, hd⟩, hs⟩ := I.tuple qa
    simp only at hc hd
    subst hc hd
    refine wpAny_binaryOp_repeat_ref (T := "tuple") (U := "int") (by decide) ⟨_, ho, rfl⟩ (fun s' => typeIs_int s' _ t) noFill_tuple_mul F.fills_int_mul F.slot_int_rmul repeat_tuple F.slot_int_index.lookup
      (call_meets F.slot_int_rmul (typeIs_int s _ t) F.entry_int_rmul (F.args_int_rmul_2 _ _) (int_rmul_tuple _ t l its.toArray n dd sl)
        ⟨ho, rfl, ⟨_, ho, rfl⟩, call_meets F.slot_tuple_mul ⟨_, ho, rfl⟩ F.entry_tuple_mul (F.args_tuple_mul_2 _ _) (tuple_mul1 l its.toArray n dd sl t) ⟨ho, ?_⟩⟩)
    exact ⟨.ref l, H, I, rfl, q _ H (Same.refl _) h1⟩
  · cases da with
    | cons a b =>
      cases b
      refine op_repT pins s σ H _ _ v u Q I rx ry ⟨l, k, _, rfl, rfl, qa, by simp, by omega, by omega, by simp, fun p hp => ?_⟩
      rw [rep_one]
      exact q _ _ (same_upd hp) (.tup (.inl (.inl upd_same)) (DtAll.rep (Dt.same (same_upd hp) _ a) k))
end
/-! ### a book's data -/
structure Bk where
  names : List Str
  gifts : List Int
  stacks : List (List (Str × Int))
  drops : List Int
def noteD (n : Str × Int) : PyData := .tuple [.str n.1, .int n.2]
def notesD (l : List (Str × Int)) : List PyData := l.map noteD
def stackD (l : List (Str × Int)) : PyData := .tuple (notesD l)
theorem tup_note (n : Str × Int) : tupD (noteD n) = true := by simp [noteD, tupD, tupDs]
theorem tup_notes (l : List (Str × Int)) : tupDs (notesD l) = true := tupDs_map tup_note l
theorem tup_stack (l : List (Str × Int)) : tupD (stackD l) = true := by
  unfold stackD
  simpa [tupD] using tup_notes l
theorem tup_stacks (l : List (List (Str × Int))) : tupD (.tuple (l.map stackD)) = true := by simpa [tupD] using tupDs_map tup_stack l
theorem tup_strs (l : List Str) : tupD (.tuple (l.map PyData.str)) = true := by simpa [tupD] using tupDs_map (f := PyData.str) (fun _ => by simp [tupD]) l
theorem tup_ints (l : List Int) : tupD (.tuple (l.map PyData.int)) = true := by simpa [tupD] using tupDs_map (f := PyData.int) (fun _ => by simp [tupD]) l
def bf (a b c d : V) : List (Str × V) := [("names", a), ("gifts", b), ("stacks", c), ("drops", d)]
theorem lk_hit {f : Str} {v : V} {r : List (Str × V)} : List.lookup f ((f, v) :: r) = some v := by simp [List.lookup]
theorem lk_miss {f g : Str} {v : V} {r : List (Str × V)} (h : (f == g) = false) : List.lookup f ((g, v) :: r) = List.lookup f r := by simp [List.lookup, h]
theorem bf_names {a b c d : V} : (bf a b c d).lookup ("names" : Str) = some a := lk_hit
theorem bf_gifts {a b c d : V} : (bf a b c d).lookup ("gifts" : Str) = some b := (lk_miss (by decide +kernel)).trans lk_hit
theorem bf_stacks {a b c d : V} : (bf a b c d).lookup ("stacks" : Str) = some c := (lk_miss (by decide +kernel)).trans ((lk_miss (by decide +kernel)).trans lk_hit)
theorem bf_drops {a b c d : V} : (bf a b c d).lookup ("drops" : Str) = some d := (lk_miss (by decide +kernel)).trans ((lk_miss (by decide +kernel)).trans ((lk_miss (by decide +kernel)).trans lk_hit))
/-- a name that is no field -/
def NoF (m : Str) : Prop := (m == "names") = false ∧ (m == "gifts") = false ∧ (m == "stacks") = false ∧ (m == "drops") = false
theorem bf_no {a b c d : V} {m : Str} (h : NoF m) : (bf a b c d).lookup m = none := (lk_miss h.1).trans ((lk_miss h.2.1).trans ((lk_miss h.2.2.1).trans ((lk_miss h.2.2.2).trans rfl)))
structure BookAt (K : PySem.W.Frag) (C : Addr) (H : Hp) (b : Addr) (M : Bk) : Prop where
  ex : ∃ dx tn on vg vs vd, H b = some (.ins C dx (bf (.ref tn) vg vs vd)) ∧ H tn = some (.frz on (.tup (M.names.map V.str))) ∧ on.dict = none ∧ Dt K H vg (.tuple (M.gifts.map .int)) ∧ Dt K H vs (.tuple (M.stacks.map stackD)) ∧ Dt K H vd (.tuple (M.drops.map .int))
theorem BookAt.keep {K : PySem.W.Frag} {C : Addr} {H H' : Hp} {b : Addr} {M : Bk} (h : BookAt K C H b M) (k : Kp H H') : BookAt K C H' b M := by
  obtain ⟨dx, tn, on, vg, vs, vd, e, h1, hn, h2, h3, h4⟩ := h.ex
  exact ⟨dx, tn, on, vg, vs, vd, k _ _ e trivial, k _ _ h1 trivial, hn, Dt.keep k _ (tup_ints _) h2, Dt.keep k _ (tup_stacks _) h3, Dt.keep k _ (tup_ints _) h4⟩
/-- a book that may be -/
structure Bk.Ok (M : Bk) : Prop where
  n0 : 1 ≤ M.names.length
  n1 : M.names.length ≤ 12
  nd : M.names.Nodup
  nm : ∀ z ∈ M.names, nameT z = true
  lg : M.gifts.length = M.names.length
  ls : M.stacks.length = M.names.length
  ld : M.drops.length = M.names.length
  many : (M.stacks.map List.length).sum ≤ 60
end Rc

namespace Rc
open PySem PySem.Spec PyProof.Rows L2
section
variable {X : Cx}
/-- tuple(l), the tuple known to the object -/
def rTupF (K : PySem.W.Frag) : List V → Hp → VK → Prop := fun vs H Q => ∃ p ys, vs = [.ref p] ∧ SqL K H p ys ∧ ∀ l o, H l = none → o.dict = none → Q (.ref l) (upd H l (.frz o (.tup ys)))
theorem call_tupF : CallR X (.type "tuple") (rTupF X.K) := by
  intro pins s σ H xs us Q I r h
  obtain ⟨p, ys, rfl, hq, q⟩ := h
  obtain ⟨u, rfl, rx⟩ := vals1 r
  cases rx
  obtain ⟨its, r', pl, hz⟩ := I.list hq
  have hlen := r'.length
  refine call_tuple_list pl.isList (fun h' kp => ?_) (by simp only [List.size_toArray] <;> omega)
  have I1 : L2.Inv X pins σ H { s with heap := h' } := I.kept (t' := s.toks) kp
  have e0 : (h'.push { cls := .type "tuple", data := .seq its.toArray }).get? h'.objs.size = some { cls := .type "tuple", data := .seq its.toArray } := Heap.get?_push_size _ rfl
  have I2 := I1.laid (a := h'.objs.size) (o := .frz { cls := .type "tuple", data := .seq its.toArray } (.tup ys)) (t' := s.toks) (h' := h'.push { cls := .type "tuple", data := .seq its.toArray })
    (fun b o e => Heap.get?_push_of_some _ e) (Nat.le_refl _) ⟨e0, hz, its, r', IsTup.new _ _⟩
  exact ⟨.ref h'.objs.size, _, I2, rfl, q _ _ (I1.hok.fresh (Nat.le_refl _)) rfl⟩
/-- t.m(e), t such a tuple -/
def tBMF (r : V → List V → Hp → VK → Prop) (to : TE) (t : TA) : TE := fun σ H Q => to σ H fun x H1 => ∃ p o xs, x = .ref p ∧ H1 p = some (.frz o (.tup xs)) ∧ o.dict = none ∧ t σ H1 fun vs H2 => r x vs H2 Q
theorem pe_bmF {o e : Expr} {es : List Expr} {to : TE} {t : TA} {name : Str} {apos cpos : Pos} {id : String} {r : V → List V → Hp → VK → Prop} (slot : Slot "tuple" name id) (hty : typeOf (.builtin id) = pure (.type "method_descriptor")) (hm : MtR X id r)
    (ho : PE X o to) (ha : PA X (e :: es) t) (hbase : attributeBase o name X.env (eval o X.env) = eval o X.env := by rfl)
    (hfew : ((backTo cpos (starEach (e :: es) X.env)).all (fun x => !x.1) && (backToKw cpos (keywordEach [] X.env)).all (fun x => x.1.isSome) &&
      decide ((e :: es).length + ([] : List Keyword).length + (if ([] : List Keyword).isEmpty then 0 else 1) < 30)) = true := by rfl)
    (hline : (apos.endLine == cpos.line) = true := by rfl) (hs : starEach (e :: es) X.env = (false, eval e X.env) :: starEach es X.env := by rfl)
    (hplain : (backTo cpos (starEach es X.env)).any (·.1) = false := by rfl) : PE X (.Call (.Attribute o name apos) (e :: es) [] cpos) (tBMF r to t) := by
  refine ⟨fun pins s σ H Q I h => wpAny_Call_method_late hbase hfew hline rfl (thn (ho.run pins s σ H _ I h) fun v s1 z => ?_)⟩
  obtain ⟨x, H1, I1, r1, p, ob, xs, rfl, hp, hd, q1⟩ := z
  cases r1
  obtain ⟨g1, _, its, rv, hT⟩ := I1.hok p _ hp
  obtain ⟨o2, g2, c2, _⟩ := hT
  rw [g1] at g2
  cases g2
  refine ⟨"tuple", id, PySem.F.plainAttrs_tuple, slot, hty, ⟨ob, g1, c2⟩, fun a e => ?_, ?_⟩
  · cases e
    exact ⟨ob, g1, hd⟩
  have hA := ha.run cpos pins s1 σ H1 _ I1 q1
  rw [hs] at hA ⊢
  refine Calls.callWith_builtin (by show (false || (backTo cpos (starEach es X.env)).any (·.1)) = false; rw [hplain] <;> rfl) (Calls.evalArgs_plain (thn hA fun us s2 z => ?_))
  obtain ⟨vs, H2, I2, r2, q2⟩ := z
  exact hm pins s2 σ H2 (.ref p) vs _ us Q I2 rfl r2 q2
/-- one of two readings of what is walked -/
theorem PI.or {tg e : Expr} {t1 t2 : TI} (h1 : PI X tg e t1) (h2 : PI X tg e t2) : PI X tg e (fun σ H R => t1 σ H R ∨ t2 σ H R) :=
  ⟨fun pins s σ H R I q => q.elim (h1.run pins s σ H R I) (h2.run pins s σ H R I)⟩
end
theorem inV_strs (z : Str) (zs : List Str) : inV (.str z) (zs.map V.str) = decide (z ∈ zs) := by
  unfold inV
  rw [List.any_map]
  induction zs with
  | nil => rfl
  | cons y r ih =>
    rw [List.any_cons, ih]
    show ((y == z) || decide (z ∈ r)) = decide (z ∈ y :: r)
    by_cases h : y = z
    · subst h
      simp
    · have h' : ¬ z = y := fun e => h e.symm
      rw [beq_eq_false_iff_ne.mpr h]
      simp [h']
end Rc

namespace Rc
open PySem PySem.Spec PyProof.Rows L2
/-- a def that is called -/
structure Has (P : Program) (w : World) (K : PySem.W.Frag) (mg : Str → Option Value) (base : Heap) (k : Nat) (nm : Str) (ps : List Str) (sp : Sp) (f : Addr) (fd : FuncData) : Prop where
  ok : FnOk P w K mg base CX0 k f fd ps sp
  g : mg nm = some (.ref f)
  kp : PySem.W.keepIn K (.ref f) = true
  b : Binds K fd ps []
/-- a method that is called -/
structure HasM (P : Program) (w : World) (K : PySem.W.Frag) (mg : Str → Option Value) (base : Heap) (C : Addr) (k : Nat) (nm : Str) (ps : List Str) (sp : Sp) (f : Addr) (fd : FuncData) : Prop where
  ok : FnOk P w K mg base CX0 k f fd ps sp
  m : Meth K C nm f
  b : Binds K fd ps []
structure Blt3 (mg : Str → Option Value) : Prop where
  list : mg "list" = none
  tuple : mg "tuple" = none
  enumerate : mg "enumerate" = none
  zip : mg "zip" = none
  sum : mg "sum" = none
  dict : mg "dict" = none
structure ClsF (K : PySem.W.Frag) (C : Addr) : Prop where
  cl : Cls K C
  n1 : NoAttr K C "names"
  n2 : NoAttr K C "gifts"
  n3 : NoAttr K C "stacks"
  n4 : NoAttr K C "drops"
section
variable {P : Program} {w : World} {K : PySem.W.Frag} {mg : Str → Option Value} {base : Heap}
/-! ### check_persons -/
abbrev sCheckP : Stmt := topS 17
theorem scCheckP : FnScope ["persons", "place", "name"] ["persons"] (defScope sCheckP) := ⟨rfl, rfl, rfl, by decide +kernel, rfl, by decide +kernel, by decide +kernel⟩
/-- names of which a book may be made -/
structure NamesOk (zs : List Str) : Prop where
  n0 : 1 ≤ zs.length
  n1 : zs.length ≤ 12
  nd : zs.Nodup
  nm : ∀ z ∈ zs, nameT z = true
theorem nameT_len {z : Str} (h : nameT z = true) : 1 ≤ z.length ∧ z.length ≤ 8 := by
  unfold nameT at h
  simp only [Bool.and_eq_true, decide_eq_true_eq] at h
  exact h.1
def spCheckP (K : PySem.W.Frag) : Sp := fun vs H Q _ => ∃ a zs, vs = [.ref a] ∧ H a = some (.lst (zs.map V.str)) ∧ NamesOk zs ∧ ∀ H', Same H H' → Q .non H'
theorem ok_checkP {f fN : Addr} {fd fdN : FuncData} (F : Fun K "check_persons" "check_persons" sCheckP f fd) (B : Blt mg) (B3 : Blt3 mg) (gM : ∃ t, mg "MOST_PERSONS" = some (.int 12 t))
    (N : Has P w K mg base 1 "is_name" ["thing"] (spBool K nameD) fN fdN) : FnOk P w K mg base CX0 2 f fd ["persons"] (spCheckP K) := by
  obtain ⟨tM, gM⟩ := gM
  refine F.ok scCheckP (fun vs H Q E h => ?_) (fun cdv A outer s H vs Q E hr h => ?_)
  · obtain ⟨a, zs, rfl, _⟩ := h
    rfl
  · obtain ⟨a, zs, rfl, ha, ok, q⟩ := h
    refine ⟨_, pss_cons (ps_if (PW.pt (pw_or (pt_not (pt_val (pe_callB call_isi (by rfl) B.isi (by decide +kernel) (pa_cons (pv 0) (pa_cons (pe_bltn (v := .ty "list") (by rfl) B3.list (by decide +kernel) rfl) pa_nil)))))
        (pw_or (pt_cmpR op_lt (pe_callB call_len_seq (by rfl) B.len PySem.boot_len (pa_cons (pv 0) pa_nil)) pe_int (nomark _))
        (pw_or1 (pt_cmpR op_gt (pe_callB call_len_seq (by rfl) B.len PySem.boot_len (pa_cons (pv 0) pa_nil)) (pe_glob (v := .int 12) (by rfl) gM ⟨_, rfl⟩) (nomark _)))))) pss_never pss_nil)
      (pss_one (ps_for PassesOwn.never rfl (pi_enum (by rfl) B3.enumerate (pa_cons (pv 0) pa_nil)) (pg_tup rfl (pgs_cons (pg_name (i := 1) scCheckP.nd rfl (.inl rfl)) (pgs_cons (pg_name (i := 2) scCheckP.nd rfl (.inl rfl)) pgs_nil)))
        (pss_cons (ps_if (pt_not (pt_val (pe_call N.ok hr (by rfl) N.g N.kp N.b .nil pass0 (pa_cons (pv 2) pa_nil)))) pss_never pss_nil)
        (pss_one (ps_if (pt_cmpR op_in_seq (pv 2) (pe_slice sl_list (pv 0) po_none (po_some (pv 1))) (by rfl)) pss_never pss_nil))))), ?_⟩
    have sq : SqL K H a (zs.map V.str) := .inl (.inl ha)
    refine ⟨.ref a, rfl, _, .ty "list", _, _, true, rfl, .ty "list", .base (.lst ha), kit_ty (by decide +kernel), _, rfl, iteF ?_⟩
    refine ⟨.ref a, rfl, a, _, rfl, .inl sq, _, _, rfl, rfl, _, rfl, ?_⟩
    have l0 := ok.n0
    have l1 := ok.n1
    rw [show decide (((zs.map V.str).length : Int) < 1) = false from decide_eq_false (by rw [List.length_map]; omega)]
    refine iteF ⟨.ref a, rfl, a, _, rfl, .inl sq, _, _, rfl, rfl, _, rfl, ?_⟩
    rw [show decide ((12 : Int) < ((zs.map V.str).length : Int)) = false from decide_eq_false (by rw [List.length_map]; omega)]
    refine iteF ⟨.ref a, rfl, a, _, rfl, sq, ?_⟩
    refine for_it (walk_enum (xs := zs.map V.str)) (fun i σ H' => ∃ y1 y2, σ = [some (.ref a), y1, y2] ∧ Same H H') ⟨_, _, rfl, Same.refl _⟩ (fun i σ H' _ hP => ?_) (fun i x σ H1' H1 hi hP hY => ?_) (fun σ H' hP => ?_)
    · obtain ⟨_, _, _, s⟩ := hP
      exact s.seq sq
    · obtain ⟨T, x1, x2, rfl, nT, rfl, e1, e2⟩ := hY
      obtain ⟨y1, y2, rfl, s1⟩ := hP
      cases e1
      have s2 := s1.trans (same_upd (o := .tup [V.int (i : Nat), x2]) nT)
      rw [List.length_map] at hi
      have ex : x2 = .str zs[i] := by
        have e2' : (zs.map V.str)[i]? = some x2 := e2
        rw [List.getElem?_map, List.getElem?_eq_getElem hi] at e2'
        exact (Option.some.inj e2').symm
      subst ex
      have hm : zs[i] ∈ zs := List.getElem_mem hi
      have nm := ok.nm _ hm
      refine ⟨T, _, rfl, .inl (.inl upd_same), rfl, _, _, rfl, _, _, rfl, rfl, ?_⟩
      refine ⟨.str zs[i], rfl, .str zs[i], .str zs[i], rfl, .str _, fun z e => by cases e; have := (nameT_len nm).2; omega, fun H2 sm => ⟨_, rfl, ?_⟩⟩
      have e3 : nameD (.str zs[i]) = true := nm
      rw [e3]
      refine iteF ⟨.str zs[i], rfl, .ref a, rfl, .int (i : Nat), rfl, _, rfl, a, _, rfl, sm.seq (s2.seq sq), fun p np => ?_⟩
      rw [cut_take, ← List.map_take]
      refine ⟨p, _, rfl, .inl (.inl (.inl upd_same)), rfl, flat_strs _, _, rfl, ?_⟩
      have no : ¬ zs[i] ∈ zs.take i := fun z => by
        obtain ⟨j, hj, e⟩ := List.getElem_of_mem z
        rw [List.length_take] at hj
        rw [List.getElem_take] at e
        have := (List.getElem_inj ok.nd).mp e
        omega
      show if inV (.str zs[i]) ((zs.take i).map V.str) = true then _ else _
      rw [inV_strs, decide_eq_false no]
      exact iteF ⟨_, _, rfl, s2.trans (sm.trans (same_upd np))⟩
    · obtain ⟨_, _, rfl, s⟩ := hP
      exact q _ s
/-! ### check_amount -/
abbrev sCheckA : Stmt := topS 18
theorem scCheckA : FnScope ["amount"] ["amount"] (defScope sCheckA) := ⟨rfl, rfl, rfl, by decide +kernel, rfl, by decide +kernel, by decide +kernel⟩
def spCheckA (K : PySem.W.Frag) : Sp := fun vs H Q _ => ∃ n : Int, vs = [.int n] ∧ 1 ≤ n ∧ ∀ H', Same H H' → Q .non H'
theorem ok_checkA {f fN : Addr} {fd fdN : FuncData} (F : Fun K "check_amount" "check_amount" sCheckA f fd)
    (N : Has P w K mg base 2 "is_amount" ["thing"] (spBool K amountD) fN fdN) : FnOk P w K mg base CX0 3 f fd ["amount"] (spCheckA K) := by
  refine F.ok scCheckA (fun vs H Q E h => ?_) (fun cdv A outer s H vs Q E hr h => ?_)
  · obtain ⟨a, rfl, _⟩ := h
    rfl
  · obtain ⟨n, rfl, n1, q⟩ := h
    refine ⟨_, pss_one (ps_if (pt_not (pt_val (pe_call N.ok hr (by rfl) N.g N.kp N.b .nil pass0 (pa_cons (pv 0) pa_nil)))) pss_never pss_nil), ?_⟩
    refine ⟨_, rfl, _, .int n, rfl, .int n, (fun z e => by cases e), fun H' sm => ⟨_, rfl, ?_⟩⟩
    have e : amountD (.int n) = true := decide_eq_true n1
    rw [e]
    exact iteF (q _ sm)
/-! ### with_changed -/
abbrev sChg : Stmt := topS 20
theorem scChg : FnScope ["row", "place", "thing"] ["row", "place", "thing"] (defScope sChg) := ⟨rfl, rfl, rfl, by decide +kernel, rfl, by decide +kernel, by decide +kernel⟩
def spChg (K : PySem.W.Frag) : Sp := fun vs H Q _ => ∃ v ds n t d, vs = [v, .int (n : Nat), t] ∧ Dt K H v (.tuple ds) ∧ Dt K H t d ∧ n < ds.length ∧ ds.length ≤ 100 ∧ ∀ v' H', Same H H' → Dt K H' v' (.tuple (ds.set n d)) → Q v' H'
theorem set_parts {α : Type} (ds : List α) (n : Nat) (d : α) (h : n < ds.length) : ds.take n ++ [d] ++ ds.drop (n + 1) = ds.set n d := by
  rw [List.set_eq_take_append_cons_drop, if_pos h, List.append_assoc]
  rfl
theorem ok_chg {f : Addr} {fd : FuncData} (F : Fun K "with_changed" "with_changed" sChg f fd) : FnOk P w K mg base CX0 1 f fd ["row", "place", "thing"] (spChg K) := by
  refine F.ok scChg (fun vs H Q E h => ?_) (fun cdv A outer s H vs Q E hr h => ?_)
  · obtain ⟨_, _, _, _, _, rfl, _⟩ := h
    rfl
  · obtain ⟨v, ds, n, t, d, rfl, hv, ht, hn, hz, q⟩ := h
    refine ⟨_, pss_one (ps_ret (pe_op op_catD (pe_op op_catD (pe_slice sl_tupD (pv 0) po_none (po_some (pv 1))) (pe_tup (pa_cons (pv 2) pa_nil))) (pe_slice sl_tupD (pv 0) (po_some (pe_op op_add (pv 1) pe_int)) po_none))), ?_⟩
    refine ⟨v, rfl, .int (n : Nat), rfl, (n : Nat), rfl, ds, hv, .inl ⟨n, rfl, rfl, fun v1 H1 s1 d1 => ?_⟩⟩
    refine ⟨t, rfl, by show 1 ≤ sizeLine; decide, fun p np => ⟨ds.take n, [d], Dt.same (same_upd np) _ d1, .tup (.inl (.inl upd_same)) (.cons (Dt.same (s1.trans (same_upd np)) _ ht) .nil), ?_, fun v2 H2 s2 d2 => ?_⟩⟩
    · rw [List.length_take, List.length_singleton]
      omega
    have s02 := s1.trans ((same_upd np).trans s2)
    refine ⟨v, rfl, .int (n : Nat), rfl, _, _, rfl, rfl, _, rfl, ds, Dt.same s02 _ hv, .inr ⟨n + 1, rfl, rfl, fun v3 H3 s3 d3 => ⟨_, _, Dt.same s3 _ d2, d3, ?_, fun v4 H4 s4 d4 => ?_⟩⟩⟩
    · rw [List.length_append, List.length_take, List.length_drop, List.length_singleton]
      omega
    · rw [set_parts ds n d hn] at d4
      exact q _ _ (s02.trans (s3.trans s4)) d4
end
end Rc

namespace Rc
open PySem PySem.Spec PyProof.Rows L2
/-- a list (k) or a tuple -/
def Sq (K : PySem.W.Frag) (k : Bool) (H : Hp) (a : Addr) (xs : List V) : Prop := if k = true then SqL K H a xs else SqT K H a xs
theorem same_seqT {K : PySem.W.Frag} {H H' : Hp} {a : Addr} {xs : List V} (e : Same H H') (h : SqT K H a xs) : SqT K H' a xs := by
  rcases h with (h | ⟨o, h⟩) | h
  · exact .inl (.inl (e _ _ h))
  · exact .inl (.inr ⟨o, e _ _ h⟩)
  · exact .inr h
theorem Sq.same {K : PySem.W.Frag} {k : Bool} {H H' : Hp} {a : Addr} {xs : List V} (h : Sq K k H a xs) (e : Same H H') : Sq K k H' a xs := by
  cases k with
  | true => exact e.seq h
  | false => exact same_seqT e h
/-- a list or a tuple that stands in slot i -/
def iSeqV (K : PySem.W.Frag) (i : Nat) : TI := fun σ H R => ∃ a xs k, σ[i]? = some (some (.ref a)) ∧ Sq K k H a xs ∧ ∀ J G, Walk J xs.length G (YAt xs) → (∀ H', Sq K k H' a xs → G H') → R J H
theorem pi_seqV {X : Cx} {tg : Expr} (i : Nat) {x : Str} {pos : Pos} (h : PE X (.Name x pos) (tVar i)) : PI X tg (.Name x pos) (iSeqV X.K i) := by
  refine ⟨fun pins s σ H R I q => ?_⟩
  obtain ⟨a, xs, k, e, hq, q⟩ := q
  cases k with
  | true => exact (pi_list h).run pins s σ H R I ⟨_, e, a, rfl, ⟨xs, hq⟩, q _ _ walk_list fun H' z => z⟩
  | false => exact (pi_tup h).run pins s σ H R I ⟨_, e, a, rfl, ⟨xs, hq⟩, q _ _ walk_tup fun H' z => z⟩
/-! ### notes that fall from above -/
def partOf (a f : Int) : Int := if f < a then f else a
def goneN : List (Str × Int) → Int → List (Str × Int)
  | [], _ => []
  | (t, a) :: r, f => (if 0 < partOf a f then [(t, partOf a f)] else []) ++ goneN r (f - partOf a f)
def leftN : List (Str × Int) → Int → List (Str × Int)
  | [], _ => []
  | (t, a) :: r, f => (if partOf a f < a then [(t, a - partOf a f)] else []) ++ leftN r (f - partOf a f)
theorem goneN_nil (f : Int) : goneN [] f = [] := rfl
theorem leftN_nil (f : Int) : leftN [] f = [] := rfl
theorem goneN_cons (t : Str) (a f : Int) (r : List (Str × Int)) : goneN ((t, a) :: r) f = (if 0 < partOf a f then [(t, partOf a f)] else []) ++ goneN r (f - partOf a f) := rfl
theorem leftN_cons (t : Str) (a f : Int) (r : List (Str × Int)) : leftN ((t, a) :: r) f = (if partOf a f < a then [(t, a - partOf a f)] else []) ++ leftN r (f - partOf a f) := rfl
theorem goneN_len : ∀ (l : List (Str × Int)) (f : Int), (goneN l f).length ≤ l.length
  | [], _ => Nat.le_refl _
  | (t, a) :: r, f => by
    have := goneN_len r (f - partOf a f)
    unfold goneN
    rw [List.length_append, List.length_cons]
    split <;> simp <;> omega
theorem leftN_len : ∀ (l : List (Str × Int)) (f : Int), (leftN l f).length ≤ l.length
  | [], _ => Nat.le_refl _
  | (t, a) :: r, f => by
    have := leftN_len r (f - partOf a f)
    unfold leftN
    rw [List.length_append, List.length_cons]
    split <;> simp <;> omega
theorem DtAll.notes_get {K : PySem.W.Frag} {H : Hp} {xs : List V} {l : List (Str × Int)} {i : Nat} {x : V} (h : DtAll K H xs (notesD l)) (e : xs[i]? = some x) : ∃ (hi : i < l.length), Dt K H x (noteD l[i]) := by
  have hl := h.len
  have hi : i < xs.length := (List.getElem?_eq_some_iff.mp e).1
  have hi' : i < l.length := by
    unfold notesD at hl
    rw [List.length_map] at hl
    omega
  refine ⟨hi', ?_⟩
  have g : (notesD l)[i]? = some (noteD l[i]) := by
    unfold notesD
    rw [List.getElem?_map, List.getElem?_eq_getElem hi']
    rfl
  obtain ⟨v, e1, e2⟩ := h.get g
  rw [e] at e1
  cases e1
  exact e2
theorem note_inv {K : PySem.W.Frag} {H : Hp} {v : V} {n : Str × Int} (h : Dt K H v (noteD n)) : ∃ a, v = .ref a ∧ SqT K H a [.str n.1, .int n.2] := by
  obtain ⟨a, xs, rfl, q, d⟩ := h.tup_inv
  cases d with
  | cons d1 d2 =>
    cases d1
    cases d2 with
    | cons d3 d4 =>
      cases d3
      cases d4
      exact ⟨a, rfl, q⟩
section
variable {P : Program} {w : World} {K : PySem.W.Frag} {mg : Str → Option Value} {base : Heap}
abbrev sSplit : Stmt := topS 19
abbrev nSplit : List Str := ["notes", "fallen", "gone", "left", "to", "amount", "part"]
theorem scSplit : FnScope nSplit ["notes", "fallen"] (defScope sSplit) := ⟨rfl, rfl, rfl, by decide +kernel, rfl, by decide +kernel, by decide +kernel⟩
def spSplit (K : PySem.W.Frag) : Sp := fun vs H Q _ => ∃ a xs kd l f, vs = [.ref a, .int f] ∧ Sq K kd H a xs ∧ DtAll K H xs (notesD l) ∧ l.length ≤ 100 ∧
  ∀ t g m gx mx H', Same H H' → H' t = some (.tup [.ref g, .ref m]) → H g = none → H m = none → g ≠ m → H' g = some (.lst gx) → H' m = some (.lst mx) → DtAll K H' gx (notesD (goneN l f)) → DtAll K H' mx (notesD (leftN l f)) → Q (.ref t) H'
theorem ok_split {f : Addr} {fd : FuncData} (F : Fun K "split_notes" "split_notes" sSplit f fd) (B2 : Blt2 mg) : FnOk P w K mg base CX0 1 f fd ["notes", "fallen"] (spSplit K) := by
  refine F.ok scSplit (fun vs H Q E h => ?_) (fun cdv A outer s H vs Q E hr h => ?_)
  · obtain ⟨_, _, _, _, _, rfl, _⟩ := h
    rfl
  · obtain ⟨a, xs, kd, l, f, rfl, hq, hd, hz, q⟩ := h
    refine ⟨_, pss_cons (ps_set (i := 2) scSplit.nd rfl (.inl rfl) (pe_lst pa_nil)) (pss_cons (ps_set (i := 3) scSplit.nd rfl (.inl rfl) (pe_lst pa_nil))
      (pss_cons (ps_for PassesOwn.never rfl (pi_seqV 0 (pv 0)) (pg_tup rfl (pgs_cons (pg_name (i := 4) scSplit.nd rfl (.inl rfl)) (pgs_cons (pg_name (i := 5) scSplit.nd rfl (.inl rfl)) pgs_nil)))
        (pss_cons (ps_set (i := 6) scSplit.nd rfl (.inl rfl) (pe_callB (call_min2 rfl) (by rfl) B2.min (by decide +kernel) (pa_cons (pv 5) (pa_cons (pv 1) pa_nil))))
        (pss_cons (ps_aug (i := 1) scSplit.nd rfl (.inl rfl) (pv 6) ip_sub)
        (C8.pss_cut (ps_if (pt_cmpR op_gt (pv 6) pe_int (nomark _)) (pss_one (ps_expr (pe_bm PySem.F.plainAttrs_list PySem.F.slot_list_append PySem.F.type_list_append mt_append (pv 2) (pa_cons (pe_tup (pa_cons (pv 4) (pa_cons (pv 6) pa_nil))) pa_nil)))) pss_nil)
        (pss_one (ps_if (pt_cmpR op_lt (pv 6) (pv 5) (nomark _)) (pss_one (ps_expr (pe_bm PySem.F.plainAttrs_list PySem.F.slot_list_append PySem.F.type_list_append mt_append (pv 3) (pa_cons (pe_tup (pa_cons (pv 4) (pa_cons (pe_op op_sub (pv 5) (pv 6)) pa_nil))) pa_nil)))) pss_nil))))))
      (pss_one (ps_ret (pe_tup (pa_cons (pv 2) (pa_cons (pv 3) pa_nil))))))), ?_⟩
    refine ⟨Nat.zero_le _, fun g ng => ⟨Nat.zero_le _, fun m nm => ?_⟩⟩
    have gm : g ≠ m := fun z => by
      rw [← z, upd_same] at nm
      cases nm
    have nmH : H m = none := by
      rw [upd_ne gm.symm] at nm
      exact nm
    have s0 : Same H (upd (upd H g (.lst [])) m (.lst [])) := (same_upd ng).trans (same_upd nm)
    refine ⟨a, xs, kd, rfl, hq.same s0, fun J G wk hG => ?_⟩
    have fresh : ∀ b o, H b = some o → b ≠ g ∧ b ≠ m := fun b o e => ⟨ne_of_none e ng, ne_of_none e nmH⟩
    refine for_it wk (fun i σ H' => ∃ y4 y5 y6 fi gx mx Gs Ms, σ = [some (.ref a), some (.int fi), some (.ref g), some (.ref m), y4, y5, y6] ∧ Same H H' ∧ H' g = some (.lst gx) ∧ H' m = some (.lst mx) ∧
        DtAll K H' gx (notesD Gs) ∧ DtAll K H' mx (notesD Ms) ∧ Gs.length ≤ i ∧ Ms.length ≤ i ∧ Gs ++ goneN (l.drop i) fi = goneN l f ∧ Ms ++ leftN (l.drop i) fi = leftN l f)
      ⟨_, _, _, f, [], [], [], [], rfl, s0, by rw [upd_ne gm, upd_same], upd_same, .nil, .nil, Nat.le_refl _, Nat.le_refl _, rfl, rfl⟩ (fun i σ H' _ hP => ?_) (fun i x σ H1' H1 hi hP hY => ?_) (fun σ H' hP => ?_)
    · obtain ⟨_, _, _, _, _, _, _, _, _, s1, _⟩ := hP
      exact hG _ (hq.same s1)
    · obtain ⟨rfl, ex⟩ := hY
      obtain ⟨y4, y5, y6, fi, gx, mx, Gs, Ms, rfl, s1, hg, hm, dg, dm, lg, lm, eg, em⟩ := hP
      obtain ⟨hil, dn⟩ := (DtAll.same s1 _ hd).notes_get ex
      obtain ⟨ta, rfl, qt⟩ := note_inv dn
      have ed : l.drop i = l[i] :: l.drop (i + 1) := List.drop_eq_getElem_cons hil
      rw [ed] at eg em
      obtain ⟨t, am, el⟩ : ∃ t am, l[i] = (t, am) := ⟨_, _, rfl⟩
      rw [el] at eg em qt
      rw [goneN_cons] at eg
      rw [leftN_cons] at em
      have dgl := dg.len
      have dml := dm.len
      unfold notesD at dgl dml
      rw [List.length_map] at dgl dml
      refine ⟨ta, _, rfl, qt, rfl, _, _, rfl, _, _, rfl, rfl, ?_⟩
      refine ⟨.int am, rfl, .int fi, rfl, _, _, rfl, ?_⟩
      have ep : (if fi < am then fi else am) = partOf am fi := rfl
      rw [ep]
      generalize partOf am fi = pt at eg em
      refine ⟨_, rfl, _, rfl, _, _, rfl, rfl, ?_⟩
      refine ⟨fun σ2 H2 => ∃ gx2 Gs2, σ2 = [some (V.ref a), some (V.int (fi - pt)), some (V.ref g), some (V.ref m), some (V.str t), some (V.int am), some (V.int pt)] ∧ Same H H2 ∧ H2 g = some (.lst gx2) ∧ H2 m = some (.lst mx) ∧ DtAll K H2 gx2 (notesD Gs2) ∧ DtAll K H2 mx (notesD Ms) ∧
        Gs2.length ≤ i + 1 ∧ Gs2 ++ goneN (l.drop (i + 1)) (fi - pt) = goneN l f, ?_, ?_⟩
      · refine ⟨.int pt, rfl, _, _, rfl, rfl, _, rfl, ite2 (fun e => ?_) (fun e => ?_)⟩
        · have e' := of_decide_eq_true e
          rw [if_pos e'] at eg
          refine ⟨.ref g, rfl, .inl ⟨rfl, _, .inl (.inl hg)⟩, .str t, rfl, .int pt, rfl, by show 2 ≤ sizeLine; decide, fun p np => ⟨g, gx, _, rfl, rfl, ?_, small1000 (by omega), ?_⟩⟩
          · rw [upd_ne (ne_of_none hg np)]
            exact hg
          have pm : p ≠ m := (ne_of_none hm np).symm
          have pg : p ≠ g := (ne_of_none hg np).symm
          have kp : Kp H1 (upd (upd H1 p (.tup [.str t, .int pt])) g (.lst (gx ++ [.ref p]))) := fun b o e fx => by
            have nb : b ≠ g := fun z => by
              rw [z, hg] at e
              cases e
              exact fx
            rw [upd_ne nb, upd_ne (ne_of_none e np)]
            exact e
          refine ⟨gx ++ [.ref p], Gs ++ [(t, pt)], rfl, fun b o e => ?_, upd_same, ?_, ?_, DtAll.keep kp _ (tup_notes _) dm, ?_, ?_⟩
          · rw [upd_ne (fresh b o e).1, upd_ne (ne_of_none (s1 b o e) np)]
            exact s1 b o e
          · rw [upd_ne gm.symm, upd_ne pm.symm]
            exact hm
          · unfold notesD
            rw [List.map_append]
            refine (DtAll.keep kp _ (tup_notes _) dg).append (.cons (.tup (.inl (.inl ?_)) (.cons (.str _) (.cons (.int _) .nil))) .nil)
            rw [upd_ne pg, upd_same]
          · rw [List.length_append]
            exact Nat.add_le_add_right lg 1
          · rw [List.append_assoc]
            exact eg
        · have e' : ¬ 0 < pt := fun c => e (decide_eq_true c)
          rw [if_neg e'] at eg
          exact ⟨gx, Gs, rfl, s1, hg, hm, dg, dm, Nat.le_succ_of_le lg, eg⟩
      · rintro σ2 H2 ⟨gx2, Gs2, rfl, s2, hg2, hm2, dg2, dm2, lg2, eg2⟩
        refine ⟨.int pt, rfl, .int am, rfl, _, _, rfl, rfl, _, rfl, ite2 (fun e => ?_) (fun e => ?_)⟩
        · have e' := of_decide_eq_true e
          rw [if_pos e'] at em
          refine ⟨.ref m, rfl, .inl ⟨rfl, _, .inl (.inl hm2)⟩, .str t, rfl, .int am, rfl, .int pt, rfl, _, _, rfl, rfl, by show 2 ≤ sizeLine; decide, fun p np => ⟨m, mx, _, rfl, rfl, ?_, small1000 (by omega), ?_⟩⟩
          · rw [upd_ne (ne_of_none hm2 np)]
            exact hm2
          have pm : p ≠ m := (ne_of_none hm2 np).symm
          have pg : p ≠ g := (ne_of_none hg2 np).symm
          have kp : Kp H2 (upd (upd H2 p (.tup [.str t, .int (am - pt)])) m (.lst (mx ++ [.ref p]))) := fun b o e fx => by
            have nb : b ≠ m := fun z => by
              rw [z, hm2] at e
              cases e
              exact fx
            rw [upd_ne nb, upd_ne (ne_of_none e np)]
            exact e
          refine ⟨_, _, _, fi - pt, gx2, mx ++ [.ref p], Gs2, Ms ++ [(t, am - pt)], rfl, fun b o e => ?_, ?_, upd_same, DtAll.keep kp _ (tup_notes _) dg2, ?_, lg2, ?_, eg2, ?_⟩
          · rw [upd_ne (fresh b o e).2, upd_ne (ne_of_none (s2 b o e) np)]
            exact s2 b o e
          · rw [upd_ne gm, upd_ne pg.symm]
            exact hg2
          · unfold notesD
            rw [List.map_append]
            refine (DtAll.keep kp _ (tup_notes _) dm2).append (.cons (.tup (.inl (.inl ?_)) (.cons (.str _) (.cons (.int _) .nil))) .nil)
            rw [upd_ne pm, upd_same]
          · rw [List.length_append]
            exact Nat.add_le_add_right lm 1
          · rw [List.append_assoc]
            exact em
        · have e' : ¬ pt < am := fun c => e (decide_eq_true c)
          rw [if_neg e'] at em
          exact ⟨_, _, _, fi - pt, gx2, mx, Gs2, Ms, rfl, s2, hg2, hm2, dg2, dm2, lg2, Nat.le_succ_of_le lm, eg2, em⟩
    · obtain ⟨y4, y5, y6, fi, gx, mx, Gs, Ms, rfl, s1, hg, hm, dg, dm, lg, lm, eg, em⟩ := hP
      have hx : l.drop xs.length = [] := List.drop_of_length_le (by
        have := hd.len
        unfold notesD at this
        rw [List.length_map] at this
        omega)
      rw [hx] at eg em
      rw [goneN_nil, List.append_nil] at eg
      rw [leftN_nil, List.append_nil] at em
      subst eg em
      refine ⟨.ref g, rfl, .ref m, rfl, by show 2 ≤ sizeLine; decide, fun t nt => ?_⟩
      have st := same_upd (o := .tup [.ref g, .ref m]) nt
      exact q t g m gx mx _ (s1.trans st) upd_same ng nmH gm (st _ _ hg) (st _ _ hm) (DtAll.same st _ dg) (DtAll.same st _ dm)
end
end Rc

namespace Rc
open PySem PySem.Spec PyProof.Rows L2
abbrev inBook (i : Nat) : Stmt := inClass (topS 21) i
theorem Bk.Ok.names {M : Bk} (h : M.Ok) : NamesOk M.names := ⟨h.n0, h.n1, h.nd, h.nm⟩
def newBk (zs : List Str) : Bk := ⟨zs, List.replicate zs.length 0, List.replicate zs.length [], List.replicate zs.length 0⟩
theorem putF_miss {f g : Str} {v x : V} {r : List (Str × V)} (h : ¬ g = f) : putF f v ((g, x) :: r) = (g, x) :: putF f v r := by
  show (if g = f then (g, v) :: r else (g, x) :: putF f v r) = _
  rw [if_neg h]
theorem putF_hit {f : Str} {v x : V} {r : List (Str × V)} : putF f v ((f, x) :: r) = (f, v) :: r := by
  show (if f = f then (f, v) :: r else (f, x) :: putF f v r) = _
  rw [if_pos rfl]
theorem put1 (a : V) : putF "names" a [] = ([("names", a)] : List (Str × V)) := rfl
theorem put2 (a b : V) : putF "gifts" b [("names", a)] = ([("names", a), ("gifts", b)] : List (Str × V)) := by
  rw [putF_miss (by decide +kernel)]
  rfl
theorem put3 (a b c : V) : putF "stacks" c [("names", a), ("gifts", b)] = ([("names", a), ("gifts", b), ("stacks", c)] : List (Str × V)) := by
  rw [putF_miss (by decide +kernel), putF_miss (by decide +kernel)]
  rfl
theorem put4 (a b c d : V) : putF "drops" d [("names", a), ("gifts", b), ("stacks", c)] = bf a b c d := by
  rw [putF_miss (by decide +kernel), putF_miss (by decide +kernel), putF_miss (by decide +kernel)]
  rfl
theorem putG (a b c d e : V) : putF "gifts" e (bf a b c d) = bf a e c d := by
  unfold bf
  rw [putF_miss (by decide +kernel), putF_hit]
theorem putS (a b c d e : V) : putF "stacks" e (bf a b c d) = bf a b e d := by
  unfold bf
  rw [putF_miss (by decide +kernel), putF_miss (by decide +kernel), putF_hit]
theorem putD (a b c d e : V) : putF "drops" e (bf a b c d) = bf a b c e := by
  unfold bf
  rw [putF_miss (by decide +kernel), putF_miss (by decide +kernel), putF_miss (by decide +kernel), putF_hit]
theorem bf_len (a b c d : V) : (bf a b c d).length < 1000 := by
  show 4 < 1000
  decide
section
variable {P : Program} {w : World} {K : PySem.W.Frag} {mg : Str → Option Value} {base : Heap}
/-! ### __init__ -/
abbrev sInit : Stmt := inBook 0
theorem scInit : FnScope ["self", "persons"] ["self", "persons"] (defScope sInit) := ⟨rfl, rfl, rfl, by decide +kernel, rfl, by decide +kernel, by decide +kernel⟩
def spInit (K : PySem.W.Frag) (C : Addr) : Sp := fun vs H Q _ => ∃ x dx a zs, vs = [.ref x, .ref a] ∧ H x = some (.ins C dx []) ∧ H a = some (.lst (zs.map V.str)) ∧ NamesOk zs ∧ ∀ H', But x H H' → BookAt K C H' x (newBk zs) → Q .non H'
theorem ok_init {f fc C : Addr} {fd fdc : FuncData} (F : Fun K "__init__" "Book.__init__" sInit f fd) (T : ClsF K C) (B : Blt mg) (B3 : Blt3 mg)
    (CP : Has P w K mg base 2 "check_persons" ["persons"] (spCheckP K) fc fdc) : FnOk P w K mg base CX0 3 f fd ["self", "persons"] (spInit K C) := by
  refine F.ok scInit (fun vs H Q E h => ?_) (fun cdv A outer s H vs Q E hr h => ?_)
  · obtain ⟨_, _, _, _, rfl, _⟩ := h
    rfl
  · obtain ⟨x, dx, a, zs, rfl, hx, ha, ok, q⟩ := h
    refine ⟨_, pss_cons (ps_expr (pe_call CP.ok hr (by rfl) CP.g CP.kp CP.b .nil pass0 (pa_cons (pv 1) pa_nil)))
      (pss_cons (ps_fld (pv 0) (pe_callTy call_tupF (by rfl) B3.tuple (by decide +kernel) (pa_cons (pv 1) pa_nil)) rfl)
      (pss_cons (ps_fld (pv 0) (pe_op op_repD (pe_tup (pa_cons pe_int pa_nil)) (pe_callB call_len_seq (by rfl) B.len PySem.boot_len (pa_cons (pv 1) pa_nil))) rfl)
      (pss_cons (ps_fld (pv 0) (pe_op op_repD (pe_tup (pa_cons (pe_tup pa_nil) pa_nil)) (pe_callB call_len_seq (by rfl) B.len PySem.boot_len (pa_cons (pv 1) pa_nil))) rfl)
      (pss_one (ps_fld (pv 0) (pe_op op_repD (pe_tup (pa_cons pe_int pa_nil)) (pe_callB call_len_seq (by rfl) B.len PySem.boot_len (pa_cons (pv 1) pa_nil))) rfl))))), ?_⟩
    have l0 := ok.n0
    have l1 := ok.n1
    have el : (zs.map V.str).length = zs.length := List.length_map ..
    have nxa : a ≠ x := ne_of ha hx (by intro z; cases z)
    refine ⟨.ref a, rfl, a, zs, rfl, ha, ok, fun H1 s1 => ?_⟩
    -- self.names = tuple(persons)
    refine ⟨.ref a, rfl, a, _, rfl, .inl (.inl (s1 _ _ ha)), fun tn on ntn don => ?_⟩
    have s2 : Same H1 (upd H1 tn (.frz on (.tup (zs.map V.str)))) := same_upd ntn
    have ntx : x ≠ tn := ne_of_none (s1 _ _ hx) ntn
    refine ⟨.ref x, rfl, x, C, dx, _, rfl, s2 _ _ (s1 _ _ hx), T.cl, T.n1, by show 0 < 1000; decide, ?_⟩
    rw [put1]
    generalize hH3 : upd (upd H1 tn (.frz on (.tup (zs.map V.str)))) x (.ins C dx [("names", V.ref tn)]) = H3
    have b3 : But x H H3 := by
      rw [← hH3]
      exact (same_but (s1.trans s2)).trans But.at
    have x3 : H3 x = some (.ins C dx [("names", V.ref tn)]) := by
      rw [← hH3, upd_same]
    have t3 : H3 tn = some (.frz on (.tup (zs.map V.str))) := by
      rw [← hH3, upd_ne ntx.symm, upd_same]
    -- self.gifts
    refine ⟨by show 1 ≤ sizeLine; decide, fun t1 nt1 => ?_⟩
    have s4 := same_upd (o := .tup [V.int 0]) nt1
    refine ⟨.ref a, rfl, a, _, rfl, .inl (.inl (.inl (s4 _ _ (b3 _ _ nxa ha)))), .int 0, zs.length, .tup (.inl (.inl upd_same)) (.cons (.int 0) .nil), by rw [el], l0, by omega, fun vg H5 s5 dg => ?_⟩
    have s35 := s4.trans s5
    refine ⟨.ref x, rfl, x, C, dx, _, rfl, s35 _ _ x3, T.cl, T.n2, by show 1 < 1000; decide, ?_⟩
    rw [put2]
    have k6 : KT H5 (upd H5 x (.ins C dx [("names", V.ref tn), ("gifts", vg)])) := kt_upd (s35 _ _ x3) (fun z => z)
    have b6 : But x H (upd H5 x (.ins C dx [("names", V.ref tn), ("gifts", vg)])) := b3.trans ((same_but s35).trans But.at)
    have k36 : KT H3 (upd H5 x (.ins C dx [("names", V.ref tn), ("gifts", vg)])) := (kt_same s35).trans k6
    generalize hH6 : upd H5 x (.ins C dx [("names", V.ref tn), ("gifts", vg)]) = H6 at k6 b6 k36
    have x6 : H6 x = some (.ins C dx [("names", V.ref tn), ("gifts", vg)]) := by
      rw [← hH6, upd_same]
    have dg6 := Dt.keepT k6 _ (by rw [← List.map_replicate]; exact tup_ints _) dg
    -- self.stacks
    refine ⟨by show 0 ≤ sizeLine; decide, fun t0 nt0 => ⟨by show 1 ≤ sizeLine; decide, fun t2 nt2 => ?_⟩⟩
    have s7 := (same_upd (o := .tup []) nt0).trans (same_upd (o := .tup [V.ref t0]) nt2)
    refine ⟨.ref a, rfl, a, _, rfl, .inl (.inl (.inl (s7 _ _ (b6 _ _ nxa ha)))), .tuple [], zs.length, .tup (.inl (.inl upd_same)) (.cons (.tup (.inl (.inl (same_upd nt2 _ _ upd_same))) .nil) .nil), by rw [el], l0, by omega, fun vs H8 s8 ds => ?_⟩
    have s68 := s7.trans s8
    refine ⟨.ref x, rfl, x, C, dx, _, rfl, s68 _ _ x6, T.cl, T.n3, by show 2 < 1000; decide, ?_⟩
    rw [put3]
    have k9 : KT H8 (upd H8 x (.ins C dx [("names", V.ref tn), ("gifts", vg), ("stacks", vs)])) := kt_upd (s68 _ _ x6) (fun z => z)
    have b9 : But x H (upd H8 x (.ins C dx [("names", V.ref tn), ("gifts", vg), ("stacks", vs)])) := b6.trans ((same_but s68).trans But.at)
    have k69 : KT H6 (upd H8 x (.ins C dx [("names", V.ref tn), ("gifts", vg), ("stacks", vs)])) := (kt_same s68).trans k9
    generalize hH9 : upd H8 x (.ins C dx [("names", V.ref tn), ("gifts", vg), ("stacks", vs)]) = H9 at k9 b9 k69
    have x9 : H9 x = some (.ins C dx [("names", V.ref tn), ("gifts", vg), ("stacks", vs)]) := by
      rw [← hH9, upd_same]
    have ts : tupD (.tuple (List.replicate zs.length (.tuple []))) = true := by
      have := tup_stacks (List.replicate zs.length [])
      rw [List.map_replicate] at this
      exact this
    have ds9 := Dt.keepT k9 _ ts ds
    -- self.drops
    refine ⟨by show 1 ≤ sizeLine; decide, fun t3' nt3 => ?_⟩
    have s10 := same_upd (o := .tup [V.int 0]) nt3
    refine ⟨.ref a, rfl, a, _, rfl, .inl (.inl (.inl (s10 _ _ (b9 _ _ nxa ha)))), .int 0, zs.length, .tup (.inl (.inl upd_same)) (.cons (.int 0) .nil), by rw [el], l0, by omega, fun vd H11 s11 dd => ?_⟩
    have s911 := s10.trans s11
    refine ⟨.ref x, rfl, x, C, dx, _, rfl, s911 _ _ x9, T.cl, T.n4, by show 3 < 1000; decide, ?_⟩
    rw [put4]
    have k12 : KT H11 (upd H11 x (.ins C dx (bf (.ref tn) vg vs vd))) := kt_upd (s911 _ _ x9) (fun z => z)
    have k912 : KT H9 (upd H11 x (.ins C dx (bf (.ref tn) vg vs vd))) := (kt_same s911).trans k12
    refine q _ (b9.trans ((same_but s911).trans But.at)) ⟨dx, tn, on, vg, vs, vd, upd_same, (k36.trans (k69.trans k912)) _ _ t3 trivial, don, ?_, ?_, ?_⟩
    · show Dt K _ vg (.tuple ((List.replicate zs.length (0 : Int)).map .int))
      rw [List.map_replicate]
      exact Dt.keepT (k69.trans k912) _ (by rw [← List.map_replicate]; exact tup_ints _) dg6
    · show Dt K _ vs (.tuple ((List.replicate zs.length []).map stackD))
      rw [List.map_replicate]
      exact Dt.keepT k912 _ ts ds9
    · show Dt K _ vd (.tuple ((List.replicate zs.length (0 : Int)).map .int))
      rw [List.map_replicate]
      exact Dt.keepT k12 _ (by rw [← List.map_replicate]; exact tup_ints _) dd
end
end Rc

namespace Rc
open PySem PySem.Spec PyProof.Rows L2
theorem book_same {K : PySem.W.Frag} {C : Addr} {H H' : Hp} {b : Addr} {M : Bk} (h : BookAt K C H b M) (s : Same H H') : BookAt K C H' b M := h.keep fun b o e _ => s b o e
theorem NoF.mk' {m : Str} (h : ((m == "names") || (m == "gifts") || (m == "stacks") || (m == "drops")) = false) : NoF m := by
  simp only [Bool.or_eq_false_iff] at h
  exact ⟨h.1.1.1, h.1.1.2, h.1.2, h.2⟩
section
variable {P : Program} {w : World} {K : PySem.W.Frag} {mg : Str → Option Value} {base : Heap}
/-! ### with_these -/
abbrev sWith : Stmt := inBook 1
theorem scWith : FnScope ["self", "gifts", "stacks", "drops", "other"] ["self", "gifts", "stacks", "drops"] (defScope sWith) := ⟨rfl, rfl, rfl, by decide +kernel, rfl, by decide +kernel, by decide +kernel⟩
def spWith (K : PySem.W.Frag) (C : Addr) : Sp := fun vs H Q _ => ∃ b M vg vs' vd gs ss ds, vs = [.ref b, vg, vs', vd] ∧ BookAt K C H b M ∧ NamesOk M.names ∧ Dt K H vg (.tuple (List.map PyData.int gs)) ∧ Dt K H vs' (.tuple (List.map stackD ss)) ∧ Dt K H vd (.tuple (List.map PyData.int ds)) ∧
  ∀ b' H', Same H H' → H b' = none → BookAt K C H' b' ⟨M.names, gs, ss, ds⟩ → Q (.ref b') H'
theorem ok_with {f fi C : Addr} {fd fdi : FuncData} (F : Fun K "with_these" "Book.with_these" sWith f fd) (T : ClsF K C) (B3 : Blt3 mg) (M : Mk K C fi) (gC : mg "Book" = some (.ref C))
    (GI : FnOk P w K mg base CX0 3 fi fdi ["self", "persons"] (spInit K C)) (bI : Binds K fdi ["self", "persons"] []) : FnOk P w K mg base CX0 5 f fd ["self", "gifts", "stacks", "drops"] (spWith K C) := by
  refine F.ok scWith (fun vs H Q E h => ?_) (fun cdv A outer s H vs Q E hr h => ?_)
  · obtain ⟨_, _, _, _, _, _, _, _, rfl, _⟩ := h
    rfl
  · obtain ⟨b, Mb, vg, vs', vd, gs, ss, ds, rfl, hb, ok, hg, hs, hd, q⟩ := h
    refine ⟨_, pss_cons (ps_set (i := 4) scWith.nd rfl (.inl rfl) (pe_make M GI hr (by rfl) gC bI .nil pass0 (pa_cons (pe_callTy call_list_of (by rfl) B3.list (by decide +kernel) (pa_cons (pe_fld (pv 0) rfl) pa_nil)) pa_nil)))
      (pss_cons (ps_fld (pv 4) (pv 1) rfl) (pss_cons (ps_fld (pv 4) (pv 2) rfl) (pss_cons (ps_fld (pv 4) (pv 3) rfl) (pss_one (ps_ret (pv 4)))))), ?_⟩
    obtain ⟨dx, tn, on, wg, ws, wd, e, h1, hn, h2, h3, h4⟩ := hb.ex
    refine ⟨.ref b, rfl, b, C, dx, _, _, rfl, e, T.cl, T.n1, bf_names, tn, _, rfl, .inr (.inl (.inr ⟨on, h1⟩)), fun l nl => ?_⟩
    intro x dy nx ndy nxy
    have s1 := same_upd (o := .lst (Mb.names.map V.str)) nl
    generalize hH1 : upd H l (.lst (Mb.names.map V.str)) = H1 at s1 nx ndy
    have hl : H1 l = some (.lst (Mb.names.map V.str)) := by
      rw [← hH1, upd_same]
    have nlx : l ≠ x := ne_of_none hl nx
    have nld : l ≠ dy := ne_of_none hl ndy
    have s2 : Same H1 (upd (upd H1 dy (.own x)) x (.ins C dy [])) := fun c o e => by
      rw [upd_ne (ne_of_none e nx), upd_ne (ne_of_none e ndy)]
      exact e
    refine ⟨x, dy, l, Mb.names, rfl, upd_same, s2 _ _ hl, ok, fun H2 b2 bk => ⟨rfl, ?_⟩⟩
    have nxH : H x = none := s1.free nx
    have s02 : Same H H2 := fun c o e => b2 c o (ne_of_none e nxH) (s2 c o (s1 c o e))
    obtain ⟨dx2, tn2, on2, ug, us, ud, e2, k1, kn, k2, k3, k4⟩ := bk.ex
    -- other.gifts = gifts; other.stacks = stacks; other.drops = drops
    refine ⟨vg, rfl, .ref x, rfl, x, C, dx2, _, rfl, e2, T.cl, T.n2, bf_len _ _ _ _, ?_⟩
    rw [putG]
    refine ⟨vs', rfl, .ref x, rfl, x, C, dx2, _, rfl, upd_same, T.cl, T.n3, bf_len _ _ _ _, ?_⟩
    rw [putS]
    refine ⟨vd, rfl, .ref x, rfl, x, C, dx2, _, rfl, upd_same, T.cl, T.n4, bf_len _ _ _ _, ?_⟩
    rw [putD, upd_upd, upd_upd]
    have kt : KT H2 (upd H2 x (.ins C dx2 (bf (.ref tn2) vg vs' vd))) := kt_upd e2 fun z => z
    have s03 : Same H (upd H2 x (.ins C dx2 (bf (.ref tn2) vg vs' vd))) := fun c o e => by
      rw [upd_ne (ne_of_none e nxH)]
      exact s02 c o e
    exact ⟨.ref x, rfl, q x _ s03 nxH ⟨dx2, tn2, on2, vg, vs', vd, upd_same, kt _ _ k1 trivial, kn, Dt.same s03 _ hg, Dt.same s03 _ hs, Dt.same s03 _ hd⟩⟩
/-! ### has, place_of, persons -/
abbrev sHas : Stmt := inBook 4
theorem scHas : FnScope ["self", "who"] ["self", "who"] (defScope sHas) := ⟨rfl, rfl, rfl, by decide +kernel, rfl, by decide +kernel, by decide +kernel⟩
def hasD (M : Bk) : PyData → Bool
  | .str z => decide (z ∈ M.names)
  | _ => false
def spHas (K : PySem.W.Frag) (C : Addr) : Sp := fun vs H Q _ => ∃ b M v d, vs = [.ref b, v] ∧ BookAt K C H b M ∧ NamesOk M.names ∧ Dt K H v d ∧ ShortD d ∧ ∀ H', Same H H' → Q (.bl (hasD M d)) H'
theorem ok_has {f fN C : Addr} {fd fdN : FuncData} (F : Fun K "has" "Book.has" sHas f fd) (T : ClsF K C) (N : Has P w K mg base 1 "is_name" ["thing"] (spBool K nameD) fN fdN) :
    FnOk P w K mg base CX0 2 f fd ["self", "who"] (spHas K C) := by
  refine F.ok scHas (fun vs H Q E h => ?_) (fun cdv A outer s H vs Q E hr h => ?_)
  · obtain ⟨_, _, _, _, rfl, _⟩ := h
    rfl
  · obtain ⟨b, M, v, d, rfl, hb, ok, hd, sd, q⟩ := h
    refine ⟨_, pss_one (ps_ret (pe_and (pe_call N.ok hr (by rfl) N.g N.kp N.b .nil pass0 (pa_cons (pv 1) pa_nil)) (pe_one (pe_cmpR op_in_seq (pv 1) (pe_fld (pv 0) rfl) (by rfl))))), ?_⟩
    refine ⟨v, rfl, v, d, rfl, hd, sd, fun H1 s1 => ⟨_, rfl, ?_⟩⟩
    obtain ⟨dx, tn, on, wg, ws, wd, e, h1, hn, h2, h3, h4⟩ := (book_same hb s1).ex
    have q1 := q H1 s1
    cases hd with
    | str z =>
      by_cases hm : z ∈ M.names
      · have en : nameD (.str z) = true := ok.nm z hm
        rw [en]
        refine iteT ⟨.str z, rfl, .ref b, rfl, b, C, dx, _, _, rfl, e, T.cl, T.n1, bf_names, tn, _, rfl, .inr (.inl (.inr ⟨on, h1⟩)), rfl, flat_strs _, ?_⟩
        show Q (.bl (inV (.str z) (M.names.map V.str))) H1
        rw [inV_strs]
        exact q1
      · have eh : hasD M (.str z) = false := decide_eq_false hm
        rw [eh] at q1
        cases en : nameD (.str z) with
        | false => exact iteF q1
        | true =>
          refine iteT ⟨.str z, rfl, .ref b, rfl, b, C, dx, _, _, rfl, e, T.cl, T.n1, bf_names, tn, _, rfl, .inr (.inl (.inr ⟨on, h1⟩)), rfl, flat_strs _, ?_⟩
          show Q (.bl (inV (.str z) (M.names.map V.str))) H1
          rw [inV_strs, decide_eq_false hm]
          exact q1
    | _ => exact iteF q1
abbrev sPlace : Stmt := inBook 2
theorem scPlace : FnScope ["self", "who"] ["self", "who"] (defScope sPlace) := ⟨rfl, rfl, rfl, by decide +kernel, rfl, by decide +kernel, by decide +kernel⟩
/-- the j-th person is called z -/
def spPlace (K : PySem.W.Frag) (C : Addr) : Sp := fun vs H Q _ => ∃ (b : Addr) (M : Bk) (z : Str) (j : Nat), vs = [.ref b, .str z] ∧ BookAt K C H b M ∧ NamesOk M.names ∧ M.names[j]? = some z ∧ ∀ H', Same H H' → Q (.int (j : Nat)) H'
theorem name_at {zs : List Str} (ok : NamesOk zs) {j : Nat} {z : Str} (e : zs[j]? = some z) : z ∈ zs ∧ (∀ m, m < j → zs[m]? ≠ some z) ∧ z.length ≤ 1000 := by
  have hm := List.mem_of_getElem? e
  refine ⟨hm, fun m hm' e' => ?_, by have := (nameT_len (ok.nm z hm)).2; omega⟩
  obtain ⟨h1, e1⟩ := List.getElem?_eq_some_iff.mp e
  obtain ⟨h2, e2⟩ := List.getElem?_eq_some_iff.mp e'
  have := (List.getElem_inj ok.nd).mp (e1.trans e2.symm)
  omega
theorem ok_place {f fh C : Addr} {fd fdh : FuncData} (F : Fun K "place_of" "Book.place_of" sPlace f fd) (T : ClsF K C) (HS : HasM P w K mg base C 2 "has" ["self", "who"] (spHas K C) fh fdh) :
    FnOk P w K mg base CX0 3 f fd ["self", "who"] (spPlace K C) := by
  refine F.ok scPlace (fun vs H Q E h => ?_) (fun cdv A outer s H vs Q E hr h => ?_)
  · obtain ⟨_, _, _, _, rfl, _⟩ := h
    rfl
  · obtain ⟨b, M, z, j, rfl, hb, ok, ej, q⟩ := h
    obtain ⟨hm, hf, hz⟩ := name_at ok ej
    refine ⟨_, pss_cons (ps_if (pt_not (pt_val (pe_meth (pv 0) T.cl HS.m HS.ok hr HS.b .nil pass0 (pa_cons (pv 1) pa_nil)))) pss_never pss_nil)
      (pss_one (ps_ret (pe_bmF PySem.F.slot_tuple_index PySem.F.type_tuple_index mt_tup_index (pe_fld (pv 0) rfl) (pa_cons (pv 1) pa_nil)))), ?_⟩
    obtain ⟨dx, tn, on, wg, ws, wd, e, h1, hn, h2, h3, h4⟩ := hb.ex
    refine ⟨.ref b, rfl, b, dx, _, rfl, e, bf_no (NoF.mk' (by decide +kernel)), .str z, rfl, b, M, .str z, .str z, rfl, hb, ok, .str z, (fun y ey => by cases ey; exact hz), fun H1 s1 => ⟨_, rfl, ?_⟩⟩
    have eh : hasD M (.str z) = true := decide_eq_true hm
    rw [eh]
    refine iteF ⟨.ref b, rfl, b, C, dx, _, _, rfl, s1 _ _ e, T.cl, T.n1, bf_names, tn, on, _, rfl, s1 _ _ h1, hn, .str z, rfl, tn, M.names, z, j, rfl, rfl, .inl (.inr ⟨on, s1 _ _ h1⟩), ej, hf, q H1 s1⟩
abbrev sPersons : Stmt := inBook 3
theorem scPersons : FnScope ["self"] ["self"] (defScope sPersons) := ⟨rfl, rfl, rfl, by decide +kernel, rfl, by decide +kernel, by decide +kernel⟩
def spPersons (K : PySem.W.Frag) (C : Addr) : Sp := fun vs H Q _ => ∃ b M, vs = [.ref b] ∧ BookAt K C H b M ∧ ∀ l, H l = none → Q (.ref l) (upd H l (.lst (M.names.map V.str)))
theorem ok_persons {f C : Addr} {fd : FuncData} (F : Fun K "persons" "Book.persons" sPersons f fd) (T : ClsF K C) (B3 : Blt3 mg) : FnOk P w K mg base CX0 1 f fd ["self"] (spPersons K C) := by
  refine F.ok scPersons (fun vs H Q E h => ?_) (fun cdv A outer s H vs Q E hr h => ?_)
  · obtain ⟨_, _, rfl, _⟩ := h
    rfl
  · obtain ⟨b, M, rfl, hb, q⟩ := h
    refine ⟨_, pss_one (ps_ret (pe_callTy call_list_of (by rfl) B3.list (by decide +kernel) (pa_cons (pe_fld (pv 0) rfl) pa_nil))), ?_⟩
    obtain ⟨dx, tn, on, wg, ws, wd, e, h1, hn, h2, h3, h4⟩ := hb.ex
    exact ⟨.ref b, rfl, b, C, dx, _, _, rfl, e, T.cl, T.n1, bf_names, tn, _, rfl, .inr (.inl (.inr ⟨on, h1⟩)), q⟩
/-! ### given, fallen, notes, pile -/
abbrev sGiven : Stmt := inBook 5
abbrev sFallen : Stmt := inBook 6
abbrev sNotes : Stmt := inBook 7
abbrev sPile : Stmt := inBook 8
theorem scGiven : FnScope ["self", "who"] ["self", "who"] (defScope sGiven) := ⟨rfl, rfl, rfl, by decide +kernel, rfl, by decide +kernel, by decide +kernel⟩
theorem scFallen : FnScope ["self", "who"] ["self", "who"] (defScope sFallen) := ⟨rfl, rfl, rfl, by decide +kernel, rfl, by decide +kernel, by decide +kernel⟩
theorem scNotes : FnScope ["self", "who"] ["self", "who"] (defScope sNotes) := ⟨rfl, rfl, rfl, by decide +kernel, rfl, by decide +kernel, by decide +kernel⟩
theorem scPile : FnScope ["self", "who", "gone", "left"] ["self", "who"] (defScope sPile) := ⟨rfl, rfl, rfl, by decide +kernel, rfl, by decide +kernel, by decide +kernel⟩
/-- a number of the j-th person -/
def spNum (K : PySem.W.Frag) (C : Addr) (g : Bk → List Int) : Sp := fun vs H Q _ => ∃ (b : Addr) (M : Bk) (z : Str) (j : Nat) (n : Int), vs = [.ref b, .str z] ∧ BookAt K C H b M ∧ NamesOk M.names ∧ M.names[j]? = some z ∧ (g M)[j]? = some n ∧ ∀ H', Same H H' → Q (.int n) H'
/-- a new list of notes of the j-th person -/
def spRow (K : PySem.W.Frag) (C : Addr) (g : List (Str × Int) → Int → List (Str × Int)) : Sp := fun vs H Q _ => ∃ (b : Addr) (M : Bk) (z : Str) (j : Nat) (l : List (Str × Int)) (n : Int), vs = [.ref b, .str z] ∧ BookAt K C H b M ∧ NamesOk M.names ∧ M.names[j]? = some z ∧
  M.stacks[j]? = some l ∧ M.drops[j]? = some n ∧ l.length ≤ 100 ∧ ∀ r xs H', Same H H' → H r = none → H' r = some (.lst xs) → DtAll K H' xs (notesD (g l n)) → Q (.ref r) H'
theorem map_get {α β : Type} {f : α → β} {l : List α} {j : Nat} {x : α} (h : l[j]? = some x) : (l.map f)[j]? = some (f x) := by
  rw [List.getElem?_map, h]
  rfl
theorem ok_given {f fp C : Addr} {fd fdp : FuncData} (F : Fun K "given" "Book.given" sGiven f fd) (T : ClsF K C) (PL : HasM P w K mg base C 3 "place_of" ["self", "who"] (spPlace K C) fp fdp) :
    FnOk P w K mg base CX0 4 f fd ["self", "who"] (spNum K C Bk.gifts) := by
  refine F.ok scGiven (fun vs H Q E h => ?_) (fun cdv A outer s H vs Q E hr h => ?_)
  · obtain ⟨_, _, _, _, _, rfl, _⟩ := h
    rfl
  · obtain ⟨b, M, z, j, n, rfl, hb, ok, ej, en, q⟩ := h
    refine ⟨_, pss_one (ps_ret (pe_ix ix_tupD (pe_fld (pv 0) rfl) (pe_meth (pv 0) T.cl PL.m PL.ok hr PL.b .nil pass0 (pa_cons (pv 1) pa_nil)) (fun _ _ => rfl))), ?_⟩
    obtain ⟨dx, tn, on, wg, ws, wd, e, h1, hn, h2, h3, h4⟩ := hb.ex
    refine ⟨.ref b, rfl, b, C, dx, _, _, rfl, e, T.cl, T.n2, bf_gifts, .ref b, rfl, b, dx, _, rfl, e, bf_no (NoF.mk' (by decide +kernel)), .str z, rfl, b, M, z, j, rfl, hb, ok, ej, fun H1 s1 => ?_⟩
    exact ⟨_, j, .int n, Dt.same s1 _ h2, rfl, map_get en, fun v dv => by cases dv; exact q H1 s1⟩
theorem ok_fallen {f fp C : Addr} {fd fdp : FuncData} (F : Fun K "fallen" "Book.fallen" sFallen f fd) (T : ClsF K C) (PL : HasM P w K mg base C 3 "place_of" ["self", "who"] (spPlace K C) fp fdp) :
    FnOk P w K mg base CX0 4 f fd ["self", "who"] (spNum K C Bk.drops) := by
  refine F.ok scFallen (fun vs H Q E h => ?_) (fun cdv A outer s H vs Q E hr h => ?_)
  · obtain ⟨_, _, _, _, _, rfl, _⟩ := h
    rfl
  · obtain ⟨b, M, z, j, n, rfl, hb, ok, ej, en, q⟩ := h
    refine ⟨_, pss_one (ps_ret (pe_ix ix_tupD (pe_fld (pv 0) rfl) (pe_meth (pv 0) T.cl PL.m PL.ok hr PL.b .nil pass0 (pa_cons (pv 1) pa_nil)) (fun _ _ => rfl))), ?_⟩
    obtain ⟨dx, tn, on, wg, ws, wd, e, h1, hn, h2, h3, h4⟩ := hb.ex
    refine ⟨.ref b, rfl, b, C, dx, _, _, rfl, e, T.cl, T.n4, bf_drops, .ref b, rfl, b, dx, _, rfl, e, bf_no (NoF.mk' (by decide +kernel)), .str z, rfl, b, M, z, j, rfl, hb, ok, ej, fun H1 s1 => ?_⟩
    exact ⟨_, j, .int n, Dt.same s1 _ h4, rfl, map_get en, fun v dv => by cases dv; exact q H1 s1⟩
theorem ok_notes {f fp C : Addr} {fd fdp : FuncData} (F : Fun K "notes" "Book.notes" sNotes f fd) (T : ClsF K C) (B3 : Blt3 mg) (PL : HasM P w K mg base C 3 "place_of" ["self", "who"] (spPlace K C) fp fdp) :
    FnOk P w K mg base CX0 4 f fd ["self", "who"] (spRow K C fun l _ => l) := by
  refine F.ok scNotes (fun vs H Q E h => ?_) (fun cdv A outer s H vs Q E hr h => ?_)
  · obtain ⟨_, _, _, _, _, _, rfl, _⟩ := h
    rfl
  · obtain ⟨b, M, z, j, l, n, rfl, hb, ok, ej, el, en, hl, q⟩ := h
    refine ⟨_, pss_one (ps_ret (pe_callTy call_listD (by rfl) B3.list (by decide +kernel) (pa_cons (pe_ix ix_tupD (pe_fld (pv 0) rfl) (pe_meth (pv 0) T.cl PL.m PL.ok hr PL.b .nil pass0 (pa_cons (pv 1) pa_nil)) (fun _ _ => rfl)) pa_nil))), ?_⟩
    obtain ⟨dx, tn, on, wg, ws, wd, e, h1, hn, h2, h3, h4⟩ := hb.ex
    refine ⟨.ref b, rfl, b, C, dx, _, _, rfl, e, T.cl, T.n3, bf_stacks, .ref b, rfl, b, dx, _, rfl, e, bf_no (NoF.mk' (by decide +kernel)), .str z, rfl, b, M, z, j, rfl, hb, ok, ej, fun H1 s1 => ?_⟩
    refine ⟨_, j, stackD l, Dt.same s1 _ h3, rfl, map_get el, fun v dv => ⟨v, _, rfl, .inl dv, fun r xs nr dx => ?_⟩⟩
    exact q r xs _ (s1.trans (same_upd nr)) (s1.free nr) upd_same (DtAll.same (same_upd nr) _ dx)
theorem ok_pile {f fs fn ff C : Addr} {fd fds fdn fdf : FuncData} (F : Fun K "pile" "Book.pile" sPile f fd) (T : ClsF K C) (SP : Has P w K mg base 1 "split_notes" ["notes", "fallen"] (spSplit K) fs fds)
    (NT : HasM P w K mg base C 4 "notes" ["self", "who"] (spRow K C fun l _ => l) fn fdn) (FL : HasM P w K mg base C 4 "fallen" ["self", "who"] (spNum K C Bk.drops) ff fdf) :
    FnOk P w K mg base CX0 5 f fd ["self", "who"] (spRow K C leftN) := by
  refine F.ok scPile (fun vs H Q E h => ?_) (fun cdv A outer s H vs Q E hr h => ?_)
  · obtain ⟨_, _, _, _, _, _, rfl, _⟩ := h
    rfl
  · obtain ⟨b, M, z, j, l, n, rfl, hb, ok, ej, el, en, hl, q⟩ := h
    refine ⟨_, pss_cons (ps_asg (pe_call SP.ok (hr.mono (by decide)) (by rfl) SP.g SP.kp SP.b .nil pass0 (pa_cons (pe_meth (pv 0) T.cl NT.m NT.ok hr NT.b .nil pass0 (pa_cons (pv 1) pa_nil))
        (pa_cons (pe_meth (pv 0) T.cl FL.m FL.ok hr FL.b .nil pass0 (pa_cons (pv 1) pa_nil)) pa_nil)))
        (pg_tup rfl (pgs_cons (pg_name (i := 2) scPile.nd rfl (.inl rfl)) (pgs_cons (pg_name (i := 3) scPile.nd rfl (.inl rfl)) pgs_nil))))
      (pss_one (ps_ret (pv 3))), ?_⟩
    obtain ⟨dx, tn, on, wg, ws, wd, e, h1, hn, h2, h3, h4⟩ := hb.ex
    refine ⟨.ref b, rfl, b, dx, _, rfl, e, bf_no (NoF.mk' (by decide +kernel)), .str z, rfl, b, M, z, j, l, n, rfl, hb, ok, ej, el, en, hl, fun r xs H1 s1 nr hr' dr => ?_⟩
    refine ⟨.ref b, rfl, b, dx, _, rfl, s1 _ _ e, bf_no (NoF.mk' (by decide +kernel)), .str z, rfl, b, M, z, j, n, rfl, book_same hb s1, ok, ej, en, fun H2 s2 => ?_⟩
    refine ⟨r, xs, true, l, n, rfl, .inl (.inl (s2 _ _ hr')), DtAll.same s2 _ dr, hl, fun t g m gx mx H3 s3 ht ng nm gm hg hm dg dm => ?_⟩
    refine ⟨t, _, rfl, .inl (.inl ht), rfl, _, _, rfl, _, _, rfl, rfl, .ref m, rfl, ?_⟩
    exact q m mx H3 (s1.trans (s2.trans s3)) ((s1.trans s2).free nm) hm dm
end
end Rc

namespace Rc
open PySem PySem.Spec PyProof.Rows L2 RZ
theorem walk_zipT {K : PySem.W.Frag} {a b : Addr} {xs ys : List V} {n : Nat} (hn : n = min xs.length ys.length) : Walk (ItzT K a b) n (fun H => SqT K H a xs ∧ SqT K H b ys) (YPair (fun i => xs[i]?) (fun i => ys[i]?)) := by
  subst hn
  refine ⟨fun i _ hi q => ?_, fun _ q => ⟨xs, ys, q.1, q.2, by omega⟩, fun i H v H' _ q y => ?_⟩
  · have h1 : i < xs.length := by omega
    have h2 : i < ys.length := by omega
    exact ⟨xs, ys, xs[i], ys[i], q.1, q.2, by simp [h1], by simp [h2]⟩
  · obtain ⟨T, x, z, g1, g2, g3, g4, g5⟩ := y
    exact ⟨T, x, z, g1, g2, g3, g4 xs q.1, g5 ys q.2⟩
def sumTo (z : Str) (l : List (Str × Int)) : Int := ((l.filter fun n => decide (n.1 = z)).map (·.2)).sum
def fallTo (M : Bk) (z : Str) : Int := ((M.stacks.zip M.drops).map fun p => sumTo z (goneN p.1 p.2)).sum
theorem len_le_sum : ∀ {l : List (List (Str × Int))} {x : List (Str × Int)}, x ∈ l → x.length ≤ (l.map List.length).sum
  | [], _, h => by cases h
  | y :: r, x, h => by
    rw [List.map_cons, List.sum_cons]
    rcases List.mem_cons.mp h with e | e
    · rw [e]
      exact Nat.le_add_right _ _
    · have := len_le_sum e
      omega
theorem Bk.Ok.row {M : Bk} (h : M.Ok) {l : List (Str × Int)} (hm : l ∈ M.stacks) : l.length ≤ 60 := Nat.le_trans (len_le_sum hm) h.many
theorem Bk.Ok.at_ {M : Bk} (h : M.Ok) {j : Nat} {z : Str} (e : M.names[j]? = some z) : ∃ g l d, M.gifts[j]? = some g ∧ M.stacks[j]? = some l ∧ M.drops[j]? = some d ∧ l.length ≤ 60 := by
  have hj : j < M.names.length := (List.getElem?_eq_some_iff.mp e).1
  have h1 : j < M.gifts.length := by rw [h.lg]; exact hj
  have h2 : j < M.stacks.length := by rw [h.ls]; exact hj
  have h3 : j < M.drops.length := by rw [h.ld]; exact hj
  exact ⟨_, _, _, List.getElem?_eq_getElem h1, List.getElem?_eq_getElem h2, List.getElem?_eq_getElem h3, h.row (List.getElem_mem h2)⟩
section
variable {P : Program} {w : World} {K : PySem.W.Frag} {mg : Str → Option Value} {base : Heap}
/-! ### fallen_to -/
abbrev sFallTo : Stmt := inBook 10
abbrev nFallTo : List Str := ["self", "who", "name", "total", "stack", "drop", "gone", "left", "to", "part"]
theorem scFallTo : FnScope nFallTo ["self", "who"] (defScope sFallTo) := ⟨rfl, rfl, rfl, by decide +kernel, rfl, by decide +kernel, by decide +kernel⟩
def spCalc (K : PySem.W.Frag) (C : Addr) (g : Bk → Nat → Str → Int) : Sp := fun vs H Q _ => ∃ (b : Addr) (M : Bk) (z : Str) (j : Nat), vs = [.ref b, .str z] ∧ BookAt K C H b M ∧ M.Ok ∧ M.names[j]? = some z ∧ ∀ H', Same H H' → Q (.int (g M j z)) H'
theorem ok_fallTo {f fp fs C : Addr} {fd fdp fds : FuncData} (F : Fun K "fallen_to" "Book.fallen_to" sFallTo f fd) (T : ClsF K C) (B3 : Blt3 mg) (PL : HasM P w K mg base C 3 "place_of" ["self", "who"] (spPlace K C) fp fdp)
    (SP : Has P w K mg base 1 "split_notes" ["notes", "fallen"] (spSplit K) fs fds) : FnOk P w K mg base CX0 4 f fd ["self", "who"] (spCalc K C fun M _ z => fallTo M z) := by
  refine F.ok scFallTo (fun vs H Q E h => ?_) (fun cdv A outer s H vs Q E hr h => ?_)
  · obtain ⟨_, _, _, _, rfl, _⟩ := h
    rfl
  · obtain ⟨b, M, z, j, rfl, hb, ok, ej, q⟩ := h
    refine ⟨_, pss_cons (ps_set (i := 2) scFallTo.nd rfl (.inr rfl) (pe_ix ix_tup (pe_fld (pv 0) rfl) (pe_meth (pv 0) T.cl PL.m PL.ok hr PL.b .nil pass0 (pa_cons (pv 1) pa_nil)) (fun _ _ => rfl)))
      (pss_cons (ps_set (i := 3) scFallTo.nd rfl (.inl rfl) pe_int)
      (pss_cons (ps_for PassesOwn.never rfl (pi_zipA (by rfl) B3.zip (pa_cons (pe_fld (pv 0) rfl) (pa_cons (pe_fld (pv 0) rfl) pa_nil))) (pg_tup rfl (pgs_cons (pg_name (i := 4) scFallTo.nd rfl (.inl rfl)) (pgs_cons (pg_name (i := 5) scFallTo.nd rfl (.inl rfl)) pgs_nil)))
        (pss_cons (ps_asg (pe_call SP.ok (hr.mono (by decide)) (by rfl) SP.g SP.kp SP.b .nil pass0 (pa_cons (pv 4) (pa_cons (pv 5) pa_nil))) (pg_tup rfl (pgs_cons (pg_name (i := 6) scFallTo.nd rfl (.inl rfl)) (pgs_cons (pg_name (i := 7) scFallTo.nd rfl (.inl rfl)) pgs_nil))))
        (pss_one (ps_aug (i := 3) scFallTo.nd rfl (.inl rfl) (pe_callB (cr_sum rfl) (by rfl) B3.sum (by decide +kernel) (pa_cons
          (pe_lc (own := [("to", 8), ("part", 9)]) (g := gTup K 2 (gCons (gName 8) (gCons (gName 9) gNil))) rfl scFallTo.nd (pi_list (pv 6)) (blkOk_by (N := nFallTo) (sc := defScope sFallTo) (own := [("to", 8), ("part", 9)]) (by decide +kernel))
            (fun _ _ _ _ _ => pg_tup rfl (pgs_cons (pg_name (i := 8) scFallTo.nd rfl (.inl rfl) (hf := .inr rfl)) (pgs_cons (pg_name (i := 9) scFallTo.nd rfl (.inl rfl) (hf := .inr rfl)) pgs_nil)))
            (fun _ _ _ _ _ => pts_one (pt_cmpR op_eq (pv 8) (pv 2) (nomark _))) (fun _ _ _ _ _ => pv 9)) pa_nil)) ip_add))))
      (pss_one (ps_ret (pv 3))))), ?_⟩
    obtain ⟨dx, tn, on, wg, ws, wd, e, h1, hn, h2, h3, h4⟩ := hb.ex
    refine ⟨.ref b, rfl, b, C, dx, _, _, rfl, e, T.cl, T.n1, bf_names, .ref b, rfl, b, dx, _, rfl, e, bf_no (NoF.mk' (by decide +kernel)), .str z, rfl, b, M, z, j, rfl, hb, ok.names, ej, fun H1 s1 => ?_⟩
    refine ⟨tn, _, _, .str z, rfl, rfl, .inl (.inr ⟨on, s1 _ _ h1⟩), atI_nat (map_get ej), ?_⟩
    have h3' := Dt.same s1 _ h3
    have h4' := Dt.same s1 _ h4
    obtain ⟨ta, xs, rfl, qa, da⟩ := h3'.tup_inv
    obtain ⟨tb, ys, rfl, qb, db⟩ := h4'.tup_inv
    have ey := db.ints_eq
    subst ey
    refine ⟨.ref b, rfl, b, C, dx, _, _, rfl, s1 _ _ e, T.cl, T.n3, bf_stacks, .ref b, rfl, b, C, dx, _, _, rfl, s1 _ _ e, T.cl, T.n4, bf_drops, ta, tb, xs, _, rfl, .inr ⟨qa, qb, ?_⟩⟩
    have lx : xs.length = M.names.length := by
      rw [da.len, List.length_map, ok.ls]
    have ly : (M.drops.map V.int).length = M.names.length := by
      rw [List.length_map, ok.ld]
    refine for_it (walk_zipT (xs := xs) (ys := M.drops.map V.int) (n := M.names.length) (by rw [lx, ly, Nat.min_self])) (fun i σ H' => ∃ y4 y5 y6 y7 y8 y9, σ = [some (.ref b), some (.str z), some (.str z), some (.int (((M.stacks.zip M.drops).take i).map fun p => sumTo z (goneN p.1 p.2)).sum), y4, y5, y6, y7, y8, y9] ∧ Same H1 H')
      ⟨_, _, _, _, _, _, rfl, Same.refl _⟩ (fun i σ H' _ hP => ?_) (fun i x σ H2' H2 hi hP hY => ?_) (fun σ H' hP => ?_)
    · obtain ⟨_, _, _, _, _, _, _, s2⟩ := hP
      exact ⟨same_seqT s2 qa, same_seqT s2 qb⟩
    · obtain ⟨y4, y5, y6, y7, y8, y9, rfl, s2⟩ := hP
      obtain ⟨Tt, x1, x2, rfl, nT, rfl, e1, e2⟩ := hY
      have e1' : xs[i]? = some x1 := e1
      have e2' : (M.drops.map V.int)[i]? = some x2 := e2
      have hs : i < M.stacks.length := by rw [ok.ls]; exact hi
      have hdr : i < M.drops.length := by rw [ok.ld]; exact hi
      rw [List.getElem?_map, List.getElem?_eq_getElem hdr] at e2'
      have ex2 : x2 = .int M.drops[i] := (Option.some.inj e2').symm
      subst ex2
      obtain ⟨v1, g1, d1⟩ := da.get (n := i) (d := stackD M.stacks[i]) (map_get (List.getElem?_eq_getElem hs))
      rw [e1'] at g1
      cases g1
      have s3 := s2.trans (same_upd (o := .tup [x1, V.int M.drops[i]]) nT)
      obtain ⟨sa, sx, rfl, sq, sd⟩ := (Dt.same s3 _ d1).tup_inv
      refine ⟨Tt, _, rfl, .inl (.inl upd_same), rfl, _, _, rfl, _, _, rfl, rfl, ?_⟩
      refine ⟨.ref sa, rfl, _, rfl, sa, sx, false, M.stacks[i], M.drops[i], rfl, sq, sd, by have := ok.row (List.getElem_mem hs); omega, fun t g m gx mx H4 s4 ht ng nm gm hg hm dg dm => ?_⟩
      refine ⟨t, _, rfl, .inl (.inl ht), rfl, _, _, rfl, _, _, rfl, rfl, ?_⟩
      refine ⟨_, rfl, .ref g, rfl, g, rfl, ⟨_, .inl (.inl hg)⟩, fun D nD => ?_⟩
      generalize hG : goneN M.stacks[i] M.drops[i] = G at dg
      have lg : gx.length = G.length := by
        rw [dg.len]
        unfold notesD
        rw [List.length_map]
      have lG : G.length ≤ 60 := by
        rw [← hG]
        exact Nat.le_trans (goneN_len _ _) (ok.row (List.getElem_mem hs))
      refine lc_it (walk_list (xs := gx)) (fun i' H' => Same H4 H' ∧ H' D = some (.lst (((G.take i').filter fun n => decide (n.1 = z)).map fun n => .int n.2))) ⟨same_upd nD, upd_same⟩ (fun i' H' _ hP => hP.1.seq (.inl (.inl hg)))
        (fun i' x' H5' H5 hi' hP hY => ?_) (fun H5 hP => ?_)
      · obtain ⟨rfl, hx⟩ := hY
        obtain ⟨hil, dn⟩ := (DtAll.same hP.1 _ dg).notes_get hx
        obtain ⟨na, rfl, qn⟩ := note_inv dn
        refine ⟨na, _, rfl, qn, rfl, _, _, rfl, _, _, rfl, rfl, rfl, _, rfl, _, rfl, rfl, _, rfl, ?_⟩
        have tk : G.take (i' + 1) = G.take i' ++ [G[i']] := by
          rw [List.take_add_one, List.getElem?_eq_getElem hil]
          rfl
        by_cases hz : G[i'].1 = z
        · rw [show decide (V.str G[i'].1 = V.str z) = true from decide_eq_true (by rw [hz])]
          refine iteT ⟨_, rfl, _, hP.2, ?_, fun c o ec => ?_, ?_⟩
          · rw [List.length_map]
            have := List.length_filter_le (fun n : Str × Int => decide (n.1 = z)) (G.take i')
            rw [List.length_take] at this
            exact small1000 (by omega)
          · rw [upd_ne (ne_of_none ec nD)]
            exact hP.1 c o ec
          · rw [upd_same, tk, List.filter_append, List.map_append]
            simp [hz]
        · rw [show decide (V.str G[i'].1 = V.str z) = false from decide_eq_false (fun c => hz (V.str.inj c))]
          refine iteF ⟨hP.1, ?_⟩
          rw [hP.2, tk, List.filter_append]
          simp [hz]
      · refine ⟨D, (G.filter fun n => decide (n.1 = z)).map (·.2), rfl, .inl (.inl ?_), _, _, rfl, rfl, ?_⟩
        · rw [hP.2, lg, List.take_length, List.map_map]
          rfl
        refine ⟨some (.ref sa), some (.int M.drops[i]), some (.ref g), some (.ref m), y8, y9, ?_, s3.trans (s4.trans hP.1)⟩
        have tk : (M.stacks.zip M.drops).take (i + 1) = (M.stacks.zip M.drops).take i ++ [(M.stacks[i], M.drops[i])] := by
          rw [List.take_add_one, List.getElem?_zip_eq_some (z := (M.stacks[i], M.drops[i])) |>.mpr ⟨List.getElem?_eq_getElem hs, List.getElem?_eq_getElem hdr⟩]
          rfl
        rw [tk, List.map_append, List.sum_append]
        simp only [List.map_cons, List.map_nil, List.sum_cons, List.sum_nil, Int.add_zero]
        rw [hG]
        rfl
    · obtain ⟨y4, y5, y6, y7, y8, y9, rfl, s2⟩ := hP
      refine ⟨_, rfl, ?_⟩
      rw [List.take_of_length_le (by rw [List.length_zip, ok.ls, ok.ld, Nat.min_self]; exact Nat.le_refl _)]
      exact q _ (s1.trans s2)
end
end Rc

namespace Rc
open PySem PySem.Spec PyProof.Rows L2 RZ
def cashM (M : Bk) (j : Nat) (z : Str) : Int := M.gifts.getD j 0 + fallTo M z - M.drops.getD j 0
def putM (M : Bk) (j : Nat) (y : Str) (n : Int) : Bk := { M with stacks := M.stacks.set j (M.stacks.getD j [] ++ [(y, n)]) }
def giveM (M : Bk) (j : Nat) (n : Int) : Bk := { M with gifts := M.gifts.set j (M.gifts.getD j 0 + n) }
theorem getD_of {α : Type} {l : List α} {j : Nat} {x d : α} (h : l[j]? = some x) : l.getD j d = x := by
  rw [List.getD_eq_getElem?_getD, h]
  rfl
def rLenS (K : PySem.W.Frag) : List V → Hp → VK → Prop := fun xs H Q => ∃ p ys, xs = [V.ref p] ∧ (SqL K H p ys ∨ SqT K H p ys) ∧ Q (V.int ys.length) H
theorem call_lenS {X : Cx} {K : PySem.W.Frag} (e : X.K = K) : CallR X (.builtin "len") (rLenS K) := by
  subst e
  exact call_len_seq
def manyM (M : Bk) : Nat := (M.stacks.map List.length).sum
section
variable {P : Program} {w : World} {K : PySem.W.Frag} {mg : Str → Option Value} {base : Heap}
/-! ### cash -/
abbrev sCash : Stmt := inBook 11
theorem scCash : FnScope ["self", "who"] ["self", "who"] (defScope sCash) := ⟨rfl, rfl, rfl, by decide +kernel, rfl, by decide +kernel, by decide +kernel⟩
theorem ok_cash {f f1 f2 f3 C : Addr} {fd fd1 fd2 fd3 : FuncData} (F : Fun K "cash" "Book.cash" sCash f fd) (T : ClsF K C) (GV : HasM P w K mg base C 4 "given" ["self", "who"] (spNum K C Bk.gifts) f1 fd1)
    (FT : HasM P w K mg base C 4 "fallen_to" ["self", "who"] (spCalc K C fun M _ z => fallTo M z) f2 fd2) (FL : HasM P w K mg base C 4 "fallen" ["self", "who"] (spNum K C Bk.drops) f3 fd3) :
    FnOk P w K mg base CX0 5 f fd ["self", "who"] (spCalc K C cashM) := by
  refine F.ok scCash (fun vs H Q E h => ?_) (fun cdv A outer s H vs Q E hr h => ?_)
  · obtain ⟨_, _, _, _, rfl, _⟩ := h
    rfl
  · obtain ⟨b, M, z, j, rfl, hb, ok, ej, q⟩ := h
    refine ⟨_, pss_one (ps_ret (pe_op op_sub (pe_op op_add (pe_meth (pv 0) T.cl GV.m GV.ok hr GV.b .nil pass0 (pa_cons (pv 1) pa_nil)) (pe_meth (pv 0) T.cl FT.m FT.ok hr FT.b .nil pass0 (pa_cons (pv 1) pa_nil))) (pe_meth (pv 0) T.cl FL.m FL.ok hr FL.b .nil pass0 (pa_cons (pv 1) pa_nil)))), ?_⟩
    obtain ⟨g, l, d, eg, el, ed, _⟩ := ok.at_ ej
    obtain ⟨dx, tn, on, wg, ws, wd, e, h1, hn, h2, h3, h4⟩ := hb.ex
    refine ⟨.ref b, rfl, b, dx, _, rfl, e, bf_no (NoF.mk' (by decide +kernel)), .str z, rfl, b, M, z, j, g, rfl, hb, ok.names, ej, eg, fun H1 s1 => ?_⟩
    refine ⟨.ref b, rfl, b, dx, _, rfl, s1 _ _ e, bf_no (NoF.mk' (by decide +kernel)), .str z, rfl, b, M, z, j, rfl, book_same hb s1, ok, ej, fun H2 s2 => ⟨_, _, rfl, rfl, ?_⟩⟩
    have s12 := s1.trans s2
    refine ⟨.ref b, rfl, b, dx, _, rfl, s12 _ _ e, bf_no (NoF.mk' (by decide +kernel)), .str z, rfl, b, M, z, j, d, rfl, book_same hb s12, ok.names, ej, ed, fun H3 s3 => ⟨_, _, rfl, rfl, ?_⟩⟩
    have ec : cashM M j z = g + fallTo M z - d := by
      unfold cashM
      rw [getD_of eg, getD_of ed]
    have qq := q _ (s12.trans s3)
    rw [ec] at qq
    exact qq
/-! ### put, give -/
abbrev sPut : Stmt := inBook 12
abbrev nPut : List Str := ["self", "who", "to", "amount", "place", "name", "stack"]
theorem scPut : FnScope nPut ["self", "who", "to", "amount"] (defScope sPut) := ⟨rfl, rfl, rfl, by decide +kernel, rfl, by decide +kernel, by decide +kernel⟩
def spPut (K : PySem.W.Frag) (C : Addr) : Sp := fun vs H Q _ => ∃ (b : Addr) (M : Bk) (z y : Str) (j k : Nat) (n : Int), vs = [.ref b, .str z, .str y, .int n] ∧ BookAt K C H b M ∧ M.Ok ∧ M.names[j]? = some z ∧ M.names[k]? = some y ∧ 1 ≤ n ∧ manyM M < 60 ∧
  ∀ b' H', Same H H' → H b' = none → BookAt K C H' b' (putM M j y n) → Q (.ref b') H'
theorem map_set {α β : Type} (f : α → β) (l : List α) (j : Nat) (x : α) : (l.map f).set j (f x) = (l.set j x).map f := by
  rw [List.map_set]
theorem ok_put {f f1 f2 f3 f4 C : Addr} {fd fd1 fd2 fd3 fd4 : FuncData} (F : Fun K "put" "Book.put" sPut f fd) (T : ClsF K C) (B : Blt mg) (B3 : Blt3 mg) (gM : ∃ t, mg "MOST" = some (.int 60 t))
    (PL : HasM P w K mg base C 3 "place_of" ["self", "who"] (spPlace K C) f1 fd1) (CA : Has P w K mg base 3 "check_amount" ["amount"] (spCheckA K) f2 fd2) (CH : Has P w K mg base 1 "with_changed" ["row", "place", "thing"] (spChg K) f3 fd3)
    (WT : HasM P w K mg base C 5 "with_these" ["self", "gifts", "stacks", "drops"] (spWith K C) f4 fd4) : FnOk P w K mg base CX0 6 f fd ["self", "who", "to", "amount"] (spPut K C) := by
  obtain ⟨tM, gM⟩ := gM
  refine F.ok scPut (fun vs H Q E h => ?_) (fun cdv A outer s H vs Q E hr h => ?_)
  · obtain ⟨_, _, _, _, _, _, _, rfl, _⟩ := h
    rfl
  · obtain ⟨b, M, z, y, j, k, n, rfl, hb, ok, ej, ek, n1, mm, q⟩ := h
    have hr3 := hr.mono (show 3 ≤ 5 by decide)
    have hr1 := hr.mono (show 1 ≤ 5 by decide)
    refine ⟨_, pss_cons (ps_set (i := 4) scPut.nd rfl (.inl rfl) (pe_meth (pv 0) T.cl PL.m PL.ok hr3 PL.b .nil pass0 (pa_cons (pv 1) pa_nil)))
      (pss_cons (ps_set (i := 5) scPut.nd rfl (.inl rfl) (pe_ix ix_tup (pe_fld (pv 0) rfl) (pe_meth (pv 0) T.cl PL.m PL.ok hr3 PL.b .nil pass0 (pa_cons (pv 2) pa_nil)) (fun _ _ => rfl)))
      (pss_cons (ps_expr (pe_call CA.ok hr3 (by rfl) CA.g CA.kp CA.b .nil pass0 (pa_cons (pv 3) pa_nil)))
      (pss_cons (ps_if (pt_cmpR op_ge (pe_callB (cr_sum rfl) (by rfl) B3.sum (by decide +kernel) (pa_cons
          (pe_lc (own := [("stack", 6)]) (g := gName 6) (tt := tYes) rfl scPut.nd (pi_tup (pe_fld (pv 0) rfl)) (blkOk_by (N := nPut) (sc := defScope sPut) (own := [("stack", 6)]) (by decide +kernel))
            (fun _ _ _ _ _ => pg_name (i := 6) scPut.nd rfl (.inl rfl) (hf := .inr rfl)) (fun _ _ _ _ _ => pts_nil)
            (fun _ _ _ _ _ => pe_callB (call_lenS (K := K) rfl) (by rfl) B.len PySem.boot_len (pa_cons (pv 6) pa_nil))) pa_nil)) (pe_glob (v := .int 60) (by rfl) gM ⟨_, rfl⟩) (nomark _)) pss_never pss_nil)
      (pss_cons (ps_set (i := 6) scPut.nd rfl (.inl rfl) (pe_op op_catD (pe_ix ix_tupD (pe_fld (pv 0) rfl) (pv 4) (fun _ _ => rfl)) (pe_tup (pa_cons (pe_tup (pa_cons (pv 5) (pa_cons (pv 3) pa_nil))) pa_nil))))
      (pss_one (ps_ret (pe_meth (pv 0) T.cl WT.m WT.ok hr WT.b .nil pass0 (pa_cons (pe_fld (pv 0) rfl) (pa_cons (pe_call CH.ok hr1 (by rfl) CH.g CH.kp CH.b .nil pass0 (pa_cons (pe_fld (pv 0) rfl) (pa_cons (pv 4) (pa_cons (pv 6) pa_nil))))
        (pa_cons (pe_fld (pv 0) rfl) pa_nil)))))))))), ?_⟩
    obtain ⟨g, l, d, eg, el, ed, ll⟩ := ok.at_ ej
    obtain ⟨dx, tn, on, wg, ws, wd, e, h1, hn, h2, h3, h4⟩ := hb.ex
    refine ⟨.ref b, rfl, b, dx, _, rfl, e, bf_no (NoF.mk' (by decide +kernel)), .str z, rfl, b, M, z, j, rfl, hb, ok.names, ej, fun H1 s1 => ?_⟩
    refine ⟨.ref b, rfl, b, C, dx, _, _, rfl, s1 _ _ e, T.cl, T.n1, bf_names, .ref b, rfl, b, dx, _, rfl, s1 _ _ e, bf_no (NoF.mk' (by decide +kernel)), .str y, rfl, b, M, y, k, rfl, book_same hb s1, ok.names, ek, fun H2 s2 => ?_⟩
    have s12 := s1.trans s2
    refine ⟨tn, _, _, .str y, rfl, rfl, .inl (.inr ⟨on, s12 _ _ h1⟩), atI_nat (map_get ek), ?_⟩
    refine ⟨.int n, rfl, n, rfl, n1, fun H3 s3 => ?_⟩
    have s13 := s12.trans s3
    obtain ⟨ta, xs, ews, qa, da⟩ := (Dt.same s13 _ h3).tup_inv
    subst ews
    refine ⟨.ref b, rfl, b, C, dx, _, _, rfl, s13 _ _ e, T.cl, T.n3, bf_stacks, ta, rfl, ⟨_, qa⟩, fun D nD => ?_⟩
    refine lc_it (walk_tup (xs := xs)) (fun i H' => Same H3 H' ∧ H' D = some (.lst ((M.stacks.take i).map fun l => .int (l.length : Nat)))) ⟨same_upd nD, upd_same⟩ (fun i H' _ hP => same_seqT hP.1 qa)
      (fun i x H4' H4 hi hP hY => ?_) (fun H4 hP => ?_)
    · obtain ⟨rfl, hx⟩ := hY
      have hs : i < M.stacks.length := by
        have := da.len
        rw [List.length_map] at this
        omega
      obtain ⟨v1, g1, d1⟩ := da.get (n := i) (d := stackD M.stacks[i]) (map_get (List.getElem?_eq_getElem hs))
      rw [hx] at g1
      cases g1
      obtain ⟨sa, sx, rfl, sq, sd⟩ := (Dt.same hP.1 _ d1).tup_inv
      have lsx : sx.length = M.stacks[i].length := by
        rw [sd.len]
        unfold notesD
        rw [List.length_map]
      refine ⟨rfl, .ref sa, rfl, sa, sx, rfl, .inr sq, _, hP.2, ?_, fun c o ec => ?_, ?_⟩
      · rw [List.length_map, List.length_take]
        have := ok.n1
        have := ok.ls
        exact small1000 (by omega)
      · rw [upd_ne (ne_of_none ec nD)]
        exact hP.1 c o ec
      · rw [upd_same, List.take_add_one, List.getElem?_eq_getElem hs, List.map_append, lsx]
        rfl
    · have lx : xs.length = M.stacks.length := by
        rw [da.len, List.length_map]
      refine ⟨D, M.stacks.map fun l => ((l.length : Nat) : Int), rfl, .inl (.inl ?_), _, _, rfl, rfl, _, rfl, ?_⟩
      · rw [hP.2, lx, List.take_length, List.map_map]
        rfl
      have esum : (M.stacks.map fun l => ((l.length : Nat) : Int)).sum = ((manyM M : Nat) : Int) := by
        unfold manyM
        generalize M.stacks = S
        induction S with
        | nil => rfl
        | cons a r ih =>
          rw [List.map_cons, List.sum_cons, ih, List.map_cons, List.sum_cons]
          omega
      rw [esum, show decide ((60 : Int) ≤ ((manyM M : Nat) : Int)) = false from decide_eq_false (by omega)]
      have s14 := s13.trans hP.1
      refine iteF ?_
      refine ⟨.ref b, rfl, b, C, dx, _, _, rfl, s14 _ _ e, T.cl, T.n3, bf_stacks, .int (j : Nat), rfl, _, j, stackD l, Dt.same s14 _ h3, rfl, map_get el, fun v dv => ?_⟩
      refine ⟨.str y, rfl, .int n, rfl, by show 2 ≤ sizeLine; decide, fun t1 nt1 => ⟨by show 1 ≤ sizeLine; decide, fun t2 nt2 => ?_⟩⟩
      have s5 := (same_upd (o := .tup [V.str y, V.int n]) nt1).trans (same_upd (o := .tup [V.ref t1]) nt2)
      refine ⟨notesD l, [noteD (y, n)], Dt.same s5 _ dv, .tup (.inl (.inl upd_same)) (.cons (.tup (.inl (.inl (same_upd nt2 _ _ upd_same))) (.cons (.str y) (.cons (.int n) .nil))) .nil), ?_, fun v6 H6 s6 d6 => ?_⟩
      · unfold notesD
        rw [List.length_map, List.length_singleton]
        omega
      have s16 := s14.trans (s5.trans s6)
      have en : notesD l ++ [noteD (y, n)] = notesD (l ++ [(y, n)]) := by
        unfold notesD
        rw [List.map_append]
        rfl
      rw [en] at d6
      -- self.with_these(self.gifts, with_changed(self.stacks, place, stack), self.drops)
      refine ⟨.ref b, rfl, b, dx, _, rfl, s16 _ _ e, bf_no (NoF.mk' (by decide +kernel)), .ref b, rfl, b, C, dx, _, _, rfl, s16 _ _ e, T.cl, T.n2, bf_gifts, .ref b, rfl, b, C, dx, _, _, rfl, s16 _ _ e, T.cl, T.n3, bf_stacks,
        .int (j : Nat), rfl, v6, rfl, _, _, j, v6, stackD (l ++ [(y, n)]), rfl, Dt.same s16 _ h3, d6, ?_, ?_, fun v7 H7 s7 d7 => ?_⟩
      · rw [List.length_map]
        exact (List.getElem?_eq_some_iff.mp el).1
      · rw [List.length_map, ok.ls]
        have := ok.n1
        omega
      have s17 := s16.trans s7
      rw [map_set] at d7
      refine ⟨.ref b, rfl, b, C, dx, _, _, rfl, s17 _ _ e, T.cl, T.n4, bf_drops, b, M, _, _, _, M.gifts, _, M.drops, rfl, book_same hb s17, ok.names, Dt.same s17 _ h2, d7, Dt.same s17 _ h4, fun b' H8 s8 nb hb' => ?_⟩
      refine q b' H8 (s17.trans s8) (s17.free nb) ?_
      have ep : putM M j y n = ⟨M.names, M.gifts, M.stacks.set j (l ++ [(y, n)]), M.drops⟩ := by
        unfold putM
        rw [getD_of el]
      rw [ep]
      exact hb'
abbrev sGive : Stmt := inBook 13
theorem scGive : FnScope ["self", "who", "amount", "place", "gift"] ["self", "who", "amount"] (defScope sGive) := ⟨rfl, rfl, rfl, by decide +kernel, rfl, by decide +kernel, by decide +kernel⟩
def spGive (K : PySem.W.Frag) (C : Addr) : Sp := fun vs H Q _ => ∃ (b : Addr) (M : Bk) (z : Str) (j : Nat) (n : Int), vs = [.ref b, .str z, .int n] ∧ BookAt K C H b M ∧ M.Ok ∧ M.names[j]? = some z ∧ 1 ≤ n ∧
  ∀ b' H', Same H H' → H b' = none → BookAt K C H' b' (giveM M j n) → Q (.ref b') H'
theorem ok_give {f f1 f2 f3 f4 C : Addr} {fd fd1 fd2 fd3 fd4 : FuncData} (F : Fun K "give" "Book.give" sGive f fd) (T : ClsF K C)
    (PL : HasM P w K mg base C 3 "place_of" ["self", "who"] (spPlace K C) f1 fd1) (CA : Has P w K mg base 3 "check_amount" ["amount"] (spCheckA K) f2 fd2) (CH : Has P w K mg base 1 "with_changed" ["row", "place", "thing"] (spChg K) f3 fd3)
    (WT : HasM P w K mg base C 5 "with_these" ["self", "gifts", "stacks", "drops"] (spWith K C) f4 fd4) : FnOk P w K mg base CX0 6 f fd ["self", "who", "amount"] (spGive K C) := by
  refine F.ok scGive (fun vs H Q E h => ?_) (fun cdv A outer s H vs Q E hr h => ?_)
  · obtain ⟨_, _, _, _, _, rfl, _⟩ := h
    rfl
  · obtain ⟨b, M, z, j, n, rfl, hb, ok, ej, n1, q⟩ := h
    have hr3 := hr.mono (show 3 ≤ 5 by decide)
    have hr1 := hr.mono (show 1 ≤ 5 by decide)
    refine ⟨_, pss_cons (ps_set (i := 3) scGive.nd rfl (.inl rfl) (pe_meth (pv 0) T.cl PL.m PL.ok hr3 PL.b .nil pass0 (pa_cons (pv 1) pa_nil)))
      (pss_cons (ps_expr (pe_call CA.ok hr3 (by rfl) CA.g CA.kp CA.b .nil pass0 (pa_cons (pv 2) pa_nil)))
      (pss_cons (ps_set (i := 4) scGive.nd rfl (.inl rfl) (pe_op op_add (pe_ix ix_tupD (pe_fld (pv 0) rfl) (pv 3) (fun _ _ => rfl)) (pv 2)))
      (pss_one (ps_ret (pe_meth (pv 0) T.cl WT.m WT.ok hr WT.b .nil pass0 (pa_cons (pe_call CH.ok hr1 (by rfl) CH.g CH.kp CH.b .nil pass0 (pa_cons (pe_fld (pv 0) rfl) (pa_cons (pv 3) (pa_cons (pv 4) pa_nil))))
        (pa_cons (pe_fld (pv 0) rfl) (pa_cons (pe_fld (pv 0) rfl) pa_nil)))))))), ?_⟩
    obtain ⟨g, l, d, eg, el, ed, ll⟩ := ok.at_ ej
    obtain ⟨dx, tn, on, wg, ws, wd, e, h1, hn, h2, h3, h4⟩ := hb.ex
    refine ⟨.ref b, rfl, b, dx, _, rfl, e, bf_no (NoF.mk' (by decide +kernel)), .str z, rfl, b, M, z, j, rfl, hb, ok.names, ej, fun H1 s1 => ?_⟩
    refine ⟨.int n, rfl, n, rfl, n1, fun H3 s3 => ?_⟩
    have s13 := s1.trans s3
    refine ⟨.ref b, rfl, b, C, dx, _, _, rfl, s13 _ _ e, T.cl, T.n2, bf_gifts, .int (j : Nat), rfl, _, j, .int g, Dt.same s13 _ h2, rfl, map_get eg, fun v dv => ?_⟩
    cases dv
    refine ⟨.int n, rfl, g, n, rfl, rfl, ?_⟩
    refine ⟨.ref b, rfl, b, dx, _, rfl, s13 _ _ e, bf_no (NoF.mk' (by decide +kernel)), .ref b, rfl, b, C, dx, _, _, rfl, s13 _ _ e, T.cl, T.n2, bf_gifts,
      .int (j : Nat), rfl, .int (g + n), rfl, _, _, j, _, .int (g + n), rfl, Dt.same s13 _ h2, .int _, ?_, ?_, fun v7 H7 s7 d7 => ?_⟩
    · rw [List.length_map]
      exact (List.getElem?_eq_some_iff.mp eg).1
    · rw [List.length_map, ok.lg]
      have := ok.n1
      omega
    have s17 := s13.trans s7
    rw [map_set] at d7
    refine ⟨.ref b, rfl, b, C, dx, _, _, rfl, s17 _ _ e, T.cl, T.n3, bf_stacks, .ref b, rfl, b, C, dx, _, _, rfl, s17 _ _ e, T.cl, T.n4, bf_drops, b, M, _, _, _, _, M.stacks, M.drops, rfl, book_same hb s17, ok.names, d7, Dt.same s17 _ h3, Dt.same s17 _ h4, fun b' H8 s8 nb hb' => ?_⟩
    refine q b' H8 (s17.trans s8) (s17.free nb) ?_
    have ep : giveM M j n = ⟨M.names, M.gifts.set j (g + n), M.stacks, M.drops⟩ := by
      unfold giveM
      rw [getD_of eg]
    rw [ep]
    exact hb'
/-! ### key -/
abbrev sKey : Stmt := inBook 16
theorem scKey : FnScope ["self"] ["self"] (defScope sKey) := ⟨rfl, rfl, rfl, by decide +kernel, rfl, by decide +kernel, by decide +kernel⟩
def keyD (M : Bk) : PyData := .tuple [.tuple (M.names.map .str), .tuple (M.gifts.map .int), .tuple (M.stacks.map stackD), .tuple (M.drops.map .int)]
def spKey (K : PySem.W.Frag) (C : Addr) : Sp := fun vs H Q _ => ∃ b M, vs = [.ref b] ∧ BookAt K C H b M ∧ ∀ v H', Same H H' → Dt K H' v (keyD M) → Q v H'
theorem ok_key {f C : Addr} {fd : FuncData} (F : Fun K "key" "Book.key" sKey f fd) (T : ClsF K C) : FnOk P w K mg base CX0 1 f fd ["self"] (spKey K C) := by
  refine F.ok scKey (fun vs H Q E h => ?_) (fun cdv A outer s H vs Q E hr h => ?_)
  · obtain ⟨_, _, rfl, _⟩ := h
    rfl
  · obtain ⟨b, M, rfl, hb, q⟩ := h
    refine ⟨_, pss_one (ps_ret (pe_tup (pa_cons (pe_fld (pv 0) rfl) (pa_cons (pe_fld (pv 0) rfl) (pa_cons (pe_fld (pv 0) rfl) (pa_cons (pe_fld (pv 0) rfl) pa_nil)))))), ?_⟩
    obtain ⟨dx, tn, on, wg, ws, wd, e, h1, hn, h2, h3, h4⟩ := hb.ex
    refine ⟨.ref b, rfl, b, C, dx, _, _, rfl, e, T.cl, T.n1, bf_names, .ref b, rfl, b, C, dx, _, _, rfl, e, T.cl, T.n2, bf_gifts, .ref b, rfl, b, C, dx, _, _, rfl, e, T.cl, T.n3, bf_stacks, .ref b, rfl, b, C, dx, _, _, rfl, e, T.cl, T.n4, bf_drops, by show 4 ≤ sizeLine; decide, fun t nt => ?_⟩
    have st := same_upd (o := .tup [V.ref tn, wg, ws, wd]) nt
    exact q _ _ st (.tup (.inl (.inl upd_same)) (.cons (.tup (.inl (.inr ⟨on, st _ _ h1⟩)) (DtAll.strs _)) (.cons (Dt.same st _ h2) (.cons (Dt.same st _ h3) (.cons (Dt.same st _ h4) .nil)))))
end
end Rc

namespace Rc
open PySem PySem.Spec PyProof.Rows L2 RZ
theorem out_it {J : It} {n : Nat} {G : Hp → Prop} {Y : Nat → Hp → V → Hp → Prop} (w : Walk J n G Y) {Body : V → Hp → (Hp → Prop) → Prop} {H0 : Hp} {Qd : Hp → Prop} (Pv : Nat → Hp → Prop) (h0 : Pv 0 H0) (hG : ∀ i H, i ≤ n → Pv i H → G H)
    (hs : ∀ i x H H', i < n → Pv i H → Y i H x H' → Body x H' (Pv (i + 1))) (hd : ∀ H, Pv n H → Qd H) :
    ∃ W : Nat → Nat → Hp → Prop, (∃ m, W 0 m H0) ∧ ∀ i m H, W i m H → (J.stop i H ∧ Qd H) ∨ (J.go i H ∧ ∃ Nx : Hp → Prop, (∀ H', Nx H' → ∃ m', m' < m ∧ W (i + 1) m' H') ∧ ∀ x H', J.yld i H x H' → Body x H' Nx) := by
  refine ⟨fun i m H => m = n - i ∧ i ≤ n ∧ Pv i H, ⟨n, by simp, Nat.zero_le _, h0⟩, ?_⟩
  rintro i m H ⟨rfl, hi, p⟩
  have g := hG i H hi p
  by_cases hlt : i < n
  · exact .inr ⟨w.goes i H hlt g, Pv (i + 1), fun H' p' => ⟨n - (i + 1), by omega, rfl, hlt, p'⟩, fun x H' y => hs i x H H' hlt p (w.yields i H x H' hlt g y)⟩
  · obtain rfl : i = n := by omega
    exact .inl ⟨w.stops H g, hd H p⟩
def leftM (M : Bk) (i : Nat) : List (Str × Int) := ((M.stacks.zip M.drops).take i).flatMap fun p => leftN p.1 p.2
theorem leftM_succ {M : Bk} {i : Nat} {l : List (Str × Int)} {d : Int} (h1 : M.stacks[i]? = some l) (h2 : M.drops[i]? = some d) : leftM M (i + 1) = leftM M i ++ leftN l d := by
  unfold leftM
  rw [List.take_add_one, List.getElem?_zip_eq_some (z := (l, d)) |>.mpr ⟨h1, h2⟩, List.flatMap_append]
  simp
theorem leftM_len (M : Bk) (ok : M.Ok) : ∀ i, (leftM M i).length ≤ ((M.stacks.take i).map List.length).sum
  | 0 => by simp [leftM]
  | i + 1 => by
    have ih := leftM_len M ok i
    by_cases h : i < M.stacks.length
    · have h2 : i < M.drops.length := by
        rw [ok.ld, ← ok.ls]
        exact h
      rw [leftM_succ (List.getElem?_eq_getElem h) (List.getElem?_eq_getElem h2), List.take_add_one, List.getElem?_eq_getElem h, List.map_append, List.sum_append, List.length_append]
      have := leftN_len M.stacks[i] M.drops[i]
      simp only [Option.toList_some, List.map_cons, List.map_nil, List.sum_cons, List.sum_nil]
      omega
    · have e1 : (M.stacks.zip M.drops).take (i + 1) = (M.stacks.zip M.drops).take i := by
        rw [List.take_of_length_le (by rw [List.length_zip]; omega), List.take_of_length_le (by rw [List.length_zip]; omega)]
      have e2 : M.stacks.take (i + 1) = M.stacks.take i := by
        rw [List.take_of_length_le (by omega), List.take_of_length_le (by omega)]
      unfold leftM at ih ⊢
      rw [e1, e2]
      exact ih
theorem sum_take_le : ∀ (l : List (List (Str × Int))) (i : Nat), ((l.take i).map List.length).sum ≤ (l.map List.length).sum
  | [], _ => by simp
  | _ :: _, 0 => by simp
  | a :: r, i + 1 => by
    have := sum_take_le r i
    simp only [List.take_succ_cons, List.map_cons, List.sum_cons]
    omega
section
variable {P : Program} {w : World} {K : PySem.W.Frag} {mg : Str → Option Value} {base : Heap}
abbrev sLefts : Stmt := inBook 17
abbrev nLefts : List Str := ["self", "who", "note"]
theorem scLefts : FnScope nLefts ["self"] (defScope sLefts) := ⟨rfl, rfl, rfl, by decide +kernel, rfl, by decide +kernel, by decide +kernel⟩
def spLefts (K : PySem.W.Frag) (C : Addr) : Sp := fun vs H Q _ => ∃ b M, vs = [.ref b] ∧ BookAt K C H b M ∧ M.Ok ∧ ∀ r xs H', Same H H' → H r = none → H' r = some (.lst xs) → xs.length = (leftM M M.names.length).length → Q (.ref r) H'
theorem ok_lefts {f fp C : Addr} {fd fdp : FuncData} (F : Fun K "notes_left" "Book.notes_left" sLefts f fd) (T : ClsF K C) (PI' : HasM P w K mg base C 5 "pile" ["self", "who"] (spRow K C leftN) fp fdp) :
    FnOk P w K mg base CX0 6 f fd ["self"] (spLefts K C) := by
  refine F.ok scLefts (fun vs H Q E h => ?_) (fun cdv A outer s H vs Q E hr h => ?_)
  · obtain ⟨_, _, rfl, _⟩ := h
    rfl
  · obtain ⟨b, M, rfl, hb, ok, q⟩ := h
    refine ⟨_, pss_one (ps_ret (pe_lc2 (own := [("who", 1), ("note", 2)]) (vs1 := [2]) (g := gName 1) (g1 := gName 2) (tt := tYes) (tt1 := tYes) (te := tVar 2) (wi1 := iList K (tMeth C "pile" (spRow K C leftN) [] E0 (tVar 0) (tCons (tVar 1) tNil))) rfl scLefts.nd (pi_tup (pe_fld (pv 0) rfl))
      (blkOk_by (N := nLefts) (sc := defScope sLefts) (own := [("who", 1), ("note", 2)]) (by decide +kernel)) (by decide) (fun _ _ _ _ _ => pg_name (i := 1) scLefts.nd rfl (.inl rfl) (hf := .inr rfl)) (fun _ _ _ _ _ => pts_nil)
      (fun _ _ _ _ _ => pi_list (pe_meth (pv 0) T.cl PI'.m PI'.ok hr PI'.b .nil pass0 (pa_cons (pv 1) pa_nil))) (fun _ _ _ _ _ => pg_name (i := 2) scLefts.nd rfl (.inl rfl) (hf := .inr rfl)) (fun _ _ _ _ _ => pts_nil) (fun _ _ _ _ _ => pv 2))), ?_⟩
    obtain ⟨dx, tn, on, wg, ws, wd, e, h1, hn, h2, h3, h4⟩ := hb.ex
    have qn : SqT K H tn (M.names.map V.str) := .inl (.inr ⟨on, h1⟩)
    refine ⟨.ref b, rfl, b, C, dx, _, _, rfl, e, T.cl, T.n1, bf_names, tn, rfl, ⟨_, qn⟩, fun D nD => ?_⟩
    have bound : ∀ i, (leftM M i).length ≤ 60 := fun i => Nat.le_trans (leftM_len M ok i) (Nat.le_trans (sum_take_le _ _) ok.many)
    refine out_it (walk_tup (K := K) (a := tn) (xs := M.names.map V.str)) (fun i H' => Same H H' ∧ ∃ acc, H' D = some (.lst acc) ∧ acc.length = (leftM M i).length) ⟨same_upd nD, [], upd_same, rfl⟩ (fun i H' _ hP => same_seqT hP.1 qn)
      (fun i x H1' H1 hi hP hY => ?_) (fun H1 hP => ?_)
    · obtain ⟨rfl, hx⟩ := hY
      rw [List.length_map] at hi
      obtain ⟨s1, acc, hD, ha⟩ := hP
      have ex : x = .str M.names[i] := by
        rw [List.getElem?_map, List.getElem?_eq_getElem hi] at hx
        exact (Option.some.inj hx).symm
      subst ex
      obtain ⟨g, l, d, eg, el, ed, ll⟩ := ok.at_ (List.getElem?_eq_getElem hi)
      refine ⟨rfl, ?_⟩
      refine ⟨.ref b, rfl, b, dx, _, rfl, s1 _ _ e, bf_no (NoF.mk' (by decide +kernel)), _, rfl, b, M, _, i, l, d, rfl, book_same hb s1, ok.names, List.getElem?_eq_getElem hi, el, ed, by omega, fun r xs H2 s2 nr hr2 dr => ?_⟩
      have lx : xs.length = (leftN l d).length := by
        rw [dr.len]
        unfold notesD
        rw [List.length_map]
      have rD : r ≠ D := (ne_of_none hD nr).symm
      refine ⟨r, rfl, ⟨_, .inl (.inl hr2)⟩, ?_⟩
      have es := leftM_succ el ed
      have b1 := bound (i + 1)
      rw [es, List.length_append] at b1
      refine out_it (walk_list (K := K) (a := r) (xs := xs)) (fun j H' => Same H H' ∧ H' r = some (.lst xs) ∧ ∃ acc', H' D = some (.lst acc') ∧ acc'.length = (leftM M i).length + j) ⟨s1.trans s2, hr2, acc, s2 _ _ hD, by omega⟩ (fun j H' _ hP => .inl (.inl hP.2.1))
        (fun j y H3' H3 hj hP hY => ?_) (fun H3 hP => ?_)
      · obtain ⟨rfl, hy⟩ := hY
        obtain ⟨s3, hr3, acc', hD3, ha3⟩ := hP
        refine ⟨rfl, y, rfl, acc', hD3, small1000 (by omega), fun c o ec => ?_, ?_, acc' ++ [y], upd_same, ?_⟩
        · rw [upd_ne (ne_of_none ec nD)]
          exact s3 c o ec
        · rw [upd_ne rD]
          exact hr3
        · rw [List.length_append, ha3]
          rfl
      · obtain ⟨s3, hr3, acc', hD3, ha3⟩ := hP
        exact ⟨s3, acc', hD3, by rw [es, List.length_append, ha3, lx]⟩
    · obtain ⟨s1, acc, hD, ha⟩ := hP
      rw [List.length_map] at ha
      exact q D acc H1 s1 nD hD ha
/-! ### len -/
abbrev sLenB : Stmt := inBook 19
theorem scLenB : FnScope ["self"] ["self"] (defScope sLenB) := ⟨rfl, rfl, rfl, by decide +kernel, rfl, by decide +kernel, by decide +kernel⟩
def lenM (M : Bk) : Nat := (leftM M M.names.length).length
def spLenB (K : PySem.W.Frag) (C : Addr) : Sp := fun vs H Q _ => ∃ b M, vs = [.ref b] ∧ BookAt K C H b M ∧ M.Ok ∧ ∀ H', Same H H' → Q (.int (lenM M : Nat)) H'
theorem ok_lenB {f fp C : Addr} {fd fdp : FuncData} (F : Fun K "__len__" "Book.__len__" sLenB f fd) (T : ClsF K C) (B : Blt mg) (LF : HasM P w K mg base C 6 "notes_left" ["self"] (spLefts K C) fp fdp) :
    FnOk P w K mg base CX0 7 f fd ["self"] (spLenB K C) := by
  refine F.ok scLenB (fun vs H Q E h => ?_) (fun cdv A outer s H vs Q E hr h => ?_)
  · obtain ⟨_, _, rfl, _⟩ := h
    rfl
  · obtain ⟨b, M, rfl, hb, ok, q⟩ := h
    refine ⟨_, pss_one (ps_ret (pe_callB call_len_seq (by rfl) B.len PySem.boot_len (pa_cons (pe_meth0 (pv 0) T.cl LF.m LF.ok hr LF.b .nil pass0) pa_nil))), ?_⟩
    obtain ⟨dx, tn, on, wg, ws, wd, e, h1, hn, h2, h3, h4⟩ := hb.ex
    refine ⟨.ref b, rfl, b, dx, _, rfl, e, bf_no (NoF.mk' (by decide +kernel)), b, M, rfl, hb, ok, fun r xs H' s' nr hr' hl => ?_⟩
    refine ⟨r, xs, rfl, .inl (.inl (.inl hr')), ?_⟩
    rw [hl]
    exact q H' s'
theorem lenM_le {M : Bk} (ok : M.Ok) : lenM M ≤ 60 := Nat.le_trans (leftM_len M ok _) (Nat.le_trans (sum_take_le _ _) ok.many)
/-- len(book) -/
def rLenB (K : PySem.W.Frag) (C : Addr) : List V → Hp → VK → Prop := fun xs H Q => ∃ b M, xs = [.ref b] ∧ BookAt K C H b M ∧ M.Ok ∧ ∀ H', Same H H' → Q (.int (lenM M : Nat)) H'
theorem call_lenB {X : Cx} {C f : Addr} {fd : FuncData} (G : FnOk X.prog X.w X.K X.mg X.base CX0 7 f fd ["self"] (spLenB X.K C)) (bd : Binds X.K fd ["self"] []) (hm : Meth X.K C "__len__" f) (hr : Room 8 X.A) : CallR X (.builtin "len") (rLenB X.K C) := by
  intro pins s σ H xs us Q I r h
  obtain ⟨b, M, rfl, hb, ok, q⟩ := h
  obtain ⟨u, rfl, ru⟩ := vals1 r
  cases ru
  obtain ⟨dx, tn, on, wg, ws, wd, e, h1, hn, h2, h3, h4⟩ := hb.ex
  obtain ⟨m, Fm⟩ := I.fr
  obtain ⟨mA, O, _⟩ := ins_get I.hok e
  obtain ⟨od, J, _⟩ := O.look
  refine PySem.W.len_K Fm I.ok.mod.kin J hm.at_ hm.fn ?_
  have e0 := I.env0
  refine wpAny_call (codeAny_mono (G.run X.A.in1 X.stack s H ⟨[.ref b], []⟩ [.ref b] [.ref b] (fun v H' => v = .int (lenM M : Nat) ∧ Q (.int (lenM M : Nat)) H') E0 hr.in1 e0.in1 (bd s [.ref b] I.kIn rfl) (.cons rfl .nil) ⟨b, M, rfl, hb, ok, fun H' s' => ⟨rfl, q H' s'⟩⟩) fun r s' hq => ?_)
  match r, hq with
  | .error e, hq => exact hq.elim
  | .ok .next, hq => exact hq.elim
  | .ok .brk, hq => exact hq.elim
  | .ok .cont, hq => exact hq.elim
  | .ok (.ret u), hq =>
    obtain ⟨v, H', I', rv, ev, q'⟩ := I.after hq
    subst ev
    obtain ⟨t, rfl⟩ := rv
    have := lenM_le ok
    exact ⟨⟨by omega, by omega⟩, ⟨.int _, H', I'.tok _, ⟨_, rfl⟩, q'⟩⟩
end
end Rc

namespace Rc
/-! ### own exceptions by super().__init__(text); self.f = f; .. -/
namespace EX
open PySem PySem.W PySem.Calls PyProof.Rows PySem.HandSPX
open L2 (defScope defBody defArgs)
abbrev supS (t : Str) (p0 p1 p2 p3 p4 p5 : Pos) : Stmt := .Expr (.Call (.Attribute (.Call (.Name "super" p0) [] [] p1) "__init__" p2) [.Constant (.str t) 0 p3] [] p4) p5
abbrev fldS (f : Str) (q1 q2 q3 q4 : Pos) : Stmt := .Assign [.Attribute (.Name "self" q1) f q2] (.Name f q3) q4
/-- an instance, its dict or none -/
abbrev exI (C t : Addr) (d : Option Addr) : Obj := { cls := .ref C, dict := d, data := .fields #[.ref t, .none, .none, .none, .bool false, .none] }
section
variable {prog : Program} {w : World} {A : Around} {E : Value → Shared → Prop} {K : Frag} {x C : Addr} {f : Str} {v : Value} {cd : ClassData} {B newId initId : String} {bmB : List Value} {s : Shared}
theorem st_new {t0 : Addr} {Q : Unit → Shared → Prop} (SF : StoreFacts B bmB "object.__setattr__" "object") (X : K.In s.heap) (hx : s.heap.get? x = some (exI C t0 none))
    (hcd : clsIn K C = some cd) (hh : cd.hasDict = true) (ov : excOver K C bmB = true) (sa : findIn K (.ref C) "__setattr__" = some (some (.builtin "object.__setattr__"))) (nf : findIn K (.ref C) f = some none)
    (hq : ∀ h' tk dx, (∀ b o, b ≠ x → s.heap.get? b = some o → h'.get? b = some o) → s.heap.objs.size ≤ dx → dx ≠ x → s.heap.objs.size ≤ h'.objs.size →
      h'.get? x = some (exI C t0 (some dx)) → h'.Ns1 dx (fun y => if y = f then some v else none) → Q () { s with heap := h', toks := tk }) :
    wpAny (model prog w) A (setAttr (.ref x) f v) Q E s := by
  obtain ⟨hp, g, d, t, os⟩ := s
  have I : InstAt hp x (exI C t0 none) C none := ⟨hx, rfl, rfl, trivial⟩
  have xs : x ≠ hp.objs.size := Nat.ne_of_lt (Heap.lt_size hx)
  have L : Looks (model prog w) hp (classData C) cd := looks_clsIn X hcd
  have tk : takerIn K C f = some none := by unfold takerIn; rw [nf]; rfl
  refine set_plain X I sa (osa_openX (s := ⟨hp, g, d, t + 1, os⟩) SF X I ov tk fun b => ?_)
  obtain ⟨c1, c2, c3, c4, c5, c6, c7, c8, c9, c10, c11⟩ := cd
  dsimp only at hh
  subst hh
  dsimp only
  unfold Builtin.ObjectAttr.storeInOwnDict Builtin.ObjectAttr.ownDictForStores
  repeat (first | with_reducible refine store_in_new ?_ ?_ | with_reducible refine wpAny_loadPart_at hx ?_ | with_reducible refine L.at ?_ | wp_step)
  · exact ⟨_, #[], _, (Heap.get?_update_ne _ _ _ _ xs.symm).trans (Heap.get?_push_at rfl rfl), rfl, fun e he => absurd he (by simp), fun _ => rfl⟩
  · intro h' tk' hn' hs
    have hx1 : (hp.push { cls := .type "dict", data := .dict #[] }).get? x = some (exI C t0 none) := Heap.get?_push_of_some _ hx
    refine hq h' tk' hp.objs.size (fun b o hb ho => ?_) (Nat.le_refl _) xs.symm ?_ ?_ hn'
    · have z1 := Heap.get?_push_of_some { cls := .type "dict", data := .dict #[] } ho
      exact (hs.2 b (Nat.ne_of_lt (Heap.lt_size ho))).trans ((Heap.get?_update_ne _ _ _ _ hb).trans z1)
    · have z := (hn'.lt : hp.objs.size < h'.objs.size)
      exact Nat.le_of_lt z
    · exact (hs.2 x xs).trans (Heap.get?_update_self _ hx1 rfl)
theorem st_old {t0 dx : Addr} {m0 : Str → Option Value} {nl : List Str} {Q : Unit → Shared → Prop} (SF : StoreFacts B bmB "object.__setattr__" "object") (X : K.In s.heap) (hx : s.heap.get? x = some (exI C t0 (some dx)))
    (hns : s.heap.Ns1 dx m0) (hw : Within m0 nl) (hz : nl.length ≤ 1000)
    (hcd : clsIn K C = some cd) (hh : cd.hasDict = true) (ov : excOver K C bmB = true) (sa : findIn K (.ref C) "__setattr__" = some (some (.builtin "object.__setattr__"))) (nf : findIn K (.ref C) f = some none)
    (hq : ∀ h' tk, (∀ b o, b ≠ dx → s.heap.get? b = some o → h'.get? b = some o) → s.heap.objs.size ≤ h'.objs.size → h'.Ns1 dx (fun y => if y = f then some v else m0 y) → Q () { s with heap := h', toks := tk }) :
    wpAny (model prog w) A (setAttr (.ref x) f v) Q E s := by
  obtain ⟨hp, g, d, t, os⟩ := s
  obtain ⟨oD, _, _, hoD, _, _⟩ := hns.count hw
  have I : InstAt hp x (exI C t0 (some dx)) C (some oD) := ⟨hx, rfl, rfl, hoD⟩
  have L : Looks (model prog w) hp (classData C) cd := looks_clsIn X hcd
  have tk : takerIn K C f = some none := by unfold takerIn; rw [nf]; rfl
  refine set_plain X I sa (osa_openX (s := ⟨hp, g, d, t + 1, os⟩) SF X I ov tk fun b => ?_)
  obtain ⟨c1, c2, c3, c4, c5, c6, c7, c8, c9, c10, c11⟩ := cd
  dsimp only at hh
  subst hh
  dsimp only
  unfold Builtin.ObjectAttr.storeInOwnDict Builtin.ObjectAttr.ownDictForStores
  repeat (first | with_reducible refine ESX.store_in_old hns hw hz ?_ | with_reducible refine wpAny_loadPart_at hx ?_ | with_reducible refine L.at ?_ | wp_step)
  intro h' tk' hn' hs
  exact hq h' tk' (fun b o hb ho => (hs.2 b hb).trans ho) (Nat.le_of_eq hs.1.symm) hn'
/-- initId bound to x, called -/
theorem run_bound {u t0 : Addr} {rest : List Value} {Q : Value → Shared → Prop} (FB : ExcBaseFacts B newId initId bmB) (X : K.In s.heap) (q : excInitIn K C bmB newId = true)
    (hx : s.heap.get? x = some (exI C t0 none)) (hu : s.heap.get? u = some (kxs_mw initId x)) (hz : rest.length ≤ sizeLine)
    (hq : ∀ h' t1, (∀ b o, b ≠ x → s.heap.get? b = some o → h'.get? b = some o) → s.heap.objs.size ≤ h'.objs.size → h'.get? x = some (exI C t1 none) → Q .none { s with heap := h' }) :
    wpAny (model prog w) A (call (.ref u) rest) Q E s := by
  obtain ⟨nm, N', qn, bs, bm, hdct, sn, sub, ab, col, dd, k0, k1, k2, k3, k5, hC, hT⟩ := excInit_of X q
  obtain ⟨hh, g, d, tk, os⟩ := s
  refine wpAny_call (codeAny_of_tree ?_)
  show wpAny _ A.in1 (callAny (.ref u) ⟨rest, []⟩) _ _ _
  simp only [callAny]
  refine wpAny_bind (wpAny_load hu ?_)
  simp only [kxs_mw, show (Value.type "method-wrapper" == Value.type "method" || Value.type "method-wrapper" == Value.type "builtin_function_or_method" || Value.type "method-wrapper" == Value.type "method-wrapper") = true from by decide, if_true]
  refine KFB.if_so (by decide) ?_
  refine wpAny_bind (check_bound_init FB.toExcCallFacts hC hx rfl (wpAny_bind (wpAny_pure (wpAny_pure ?_))))
  refine ⟨plainId_quiet FB.init.plain _, codeAny_builtin FB.initEntry ?_⟩
  refine exc_init_tree (cls := .ref C) (t0 := t0) (dv := none) (c2 := .none) (c3 := .none) (b4 := .bool false) hx hz fun h' k e et => ?_
  exact hq h' _ k (Nat.le_of_lt (Heap.lt_size et)) e
/-- .. all in one row -/
def OneRow (tx : Str) (p0 p1 p2 p3 p4 : Pos) : Prop := ∃ pl : Sem Bool, ∀ env : Env, eval (.Call (.Attribute (.Call (.Name "super" p0) [] [] p1) "__init__" p2) [.Constant (.str tx) 0 p3] [] p4) env = (do
  let ov ← attributeBase (.Call (.Name "super" p0) [] [] p1) "__init__" env (eval (.Call (.Name "super" p0) [] [] p1) env)
  standAt p2.atName
  let (f, first) ← holding [ov] (getMethod ov "__init__" pl)
  callWith p4 f first (backTo p4 (starEach [.Constant (.str tx) 0 p3] env)) [])
/-- super().__init__(text), in the def's own frame -/
theorem ex_super {t0 L fI cda cc : Addr} {scope : Scope} {qual : Str} {body : List Stmt} {tx : Str} {p0 p1 p2 p3 p4 p5 : Pos} {m mg mb : Str → Option Value} {fd : FuncData} {oc ccl cl : Value} {od cdd cld : Option Addr} {osl ccs csl : Array (Option Value)} {ar : Arg} {vs : Array Value} {file : Str} {tf : Tok} {Q : Flow → Shared → Prop}
    (row : OneRow tx p0 p1 p2 p3 p4) (FB : ExcBaseFacts B newId initId bmB) (KF : KxsFacts B initId) (X : K.In s.heap) (q : excInitIn K C bmB newId = true) (hcd : clsIn K C = some cd)
    (hg : s.heap.Ns mainGlobals mg) (hm : mg "super" = none) (hb : s.heap.Ns builtinsNs mb) (hbs : mb "super" = some (.type "super"))
    (hL : s.heap.Ns L m) (hv : m "self" = some (.ref x)) (hx : s.heap.get? x = some (exI C t0 none))
    (lf : K.lookup fI = some ⟨oc, od, .func fd, osl⟩) (hp : (fd.params.posonlyargs ++ fd.params.args).head? = some ar) (har : ar.arg = "self")
    (lc : K.lookup cda = some ⟨ccl, cdd, .fields vs, ccs⟩) (hvs : vs[2]? = some (.str file tf)) (hfile : ((prog.main.file : Str) == file) = true) (htop : (prog.main.scope.names.lookup ("super" : Str)).isSome = false)
    (lcell : K.lookup cc = some ⟨cl, cld, .cell (some (.ref C)), csl⟩) (hsub : mroIn K C (.ref C) = some true) (opq : nsIn K cStatics "thirdparty.any" = some none)
    (hsup : alongIn K "__init__" ((cd.mro.dropWhile (· != .ref C)).drop 1) = some (some (.builtin initId))) (hB : subIn K (.ref C) (.type B) = some true)
    (hk : scope.kind = .function) (hks : scope.names.lookup ("super" : Str) = some .globalImplicit) (hkc : scope.names.lookup ("__class__" : Str) = some .free) (hka : scope.names.lookup ("self" : Str) = some .local)
    (hq : ∀ h' tk t1, (∀ b o, b ≠ x → s.heap.get? b = some o → h'.get? b = some o) → s.heap.objs.size ≤ h'.objs.size → h'.get? x = some (exI C t1 none) → Q .next { s with heap := h', toks := tk }) :
    _root_.PySem.wpAt (model prog w) A (.func body (ksEnv qual scope L fI (.ref cda) cc)) (exec (supS tx p0 p1 p2 p3 p4 p5) (ksEnv qual scope L fI (.ref cda) cc)) Q E s := by
  have I : InstAt s.heap x (exI C t0 none) C none := ⟨hx, rfl, rfl, trivial⟩
  have xC : x ≠ C := ks_ne X I hcd
  obtain ⟨hh, g, d, t, os⟩ := s
  obtain ⟨oD, hD1, hD2⟩ : ∃ oD, hh.get? C = some oD ∧ oD.data = .cls cd := by
    unfold clsIn at hcd
    split at hcd
    · rename_i c d cd' sl ho
      cases hcd
      exact ⟨_, X _ _ ho, rfl⟩
    · cases hcd
  obtain ⟨pl, row⟩ := row
  obtain ⟨kd, nms, g1, g2, mo⟩ := scope
  dsimp only at hk hks hkc hka
  subst hk
  refine ks_wpAt_Expr_any (ks_wpAt_MethodCall (pl := pl) ?_ (row _))
  refine ks_wpAt_super_base (env := ksEnv qual ⟨.function, nms, g1, g2, mo⟩ L fI (.ref cda) cc) hks hkc (by decide) rfl (X _ _ lf) rfl hp rfl (X _ _ lc) rfl hvs hfile htop ?_
  refine ks_loadName_global rfl hks (loadGlobal_builtin (env := ksEnv qual ⟨.function, nms, g1, g2, mo⟩ L fI (.ref cda) cc) hg hm hb hbs ⟨rfl, ?_⟩)
  refine wpAny_loadName_free rfl hkc rfl ⟨_, X _ _ lcell, rfl⟩ ?_
  rw [har]
  refine wpAny_loadName_local rfl hka hL hv (ks_wpAny_isType_cls hD1 hD2 ⟨rfl, ?_⟩)
  refine ks_wpAny_call_super hD1 hD2 hx rfl (fun c e => by cases e) (looks_mroIn X hsub) (fun h1 e1 k1 => ?_)
  have X1 : K.In h1 := X.keeps k1
  have I1 : InstAt h1 x (exI C t0 none) C none := ⟨k1 _ _ hx, rfl, rfl, trivial⟩
  refine kxs_getMethod KF e1 (looks_opaque X1 opq) (l₀ := cd.mro) ?_ rfl X1 hsup (I1.type.andThen (looks_subIn X1 hB)) xC (by decide) ?_
  · exact fun A Q E s k q => wpAny_bind ((looks_clsIn X1 hcd) A _ E s k (wpAny_pure q))
  have k2 : ∀ b o, hh.get? b = some o → (h1.push (kxs_mw initId x)).get? b = some o := fun b o e => Heap.get?_push_of_some _ (k1 b o e)
  have hu : (h1.push (kxs_mw initId x)).get? h1.objs.size = some (kxs_mw initId x) := Heap.get?_push_at rfl rfl
  refine kxs_callWith (i := initId) (x := x) rfl ?_
  refine evalArgs_plain (spliced_cons (Calls.Constant_str (k := 0) (pos := p3) (spliced_nil ⟨hu, ?_⟩)))
  refine run_bound FB (X.keeps k2) q (k2 _ _ hx) hu (by rw [sizeLine_eq]; exact (by decide : 1 ≤ 16777216)) fun h' t1 k sz e => ?_
  have sz1 : hh.objs.size ≤ h1.objs.size := Nat.le_of_lt (Heap.lt_size e1)
  have sz2 : h1.objs.size ≤ (h1.push (kxs_mw initId x)).objs.size := Nat.le_of_lt (Heap.lt_size hu)
  exact hq h' _ t1 (fun b o hb ho => k b o hb (k2 b o ho)) (Nat.le_trans sz1 (Nat.le_trans sz2 sz)) e
inductive Flds : List Stmt → List Str → Prop
  | nil : Flds [] []
  | cons {f : Str} {q1 q2 q3 q4 : Pos} {r : List Stmt} {fs : List Str} : Flds r fs → Flds (fldS f q1 q2 q3 q4 :: r) (f :: fs)
/-- the exception at x, with these fields so far -/
def Held (h : Heap) (lo : Nat) (x C : Addr) : List (Str × Value) → Prop
  | [] => ∃ t1, h.get? x = some (exI C t1 none)
  | m => ∃ t1 dx, lo ≤ dx ∧ dx ≠ x ∧ h.get? x = some (exI C t1 (some dx)) ∧ h.Ns1 dx (fun y => m.lookup y)
theorem look_put (f y : Str) (v : Value) (m : List (Str × Value)) : ((f, v) :: m).lookup y = if y = f then some v else m.lookup y := by
  by_cases h : y = f
  · subst h
    simp [List.lookup]
  · have e : (y == f) = false := by simpa using h
    rw [if_neg h]
    simp [List.lookup, e]
theorem look_in : ∀ (m : List (Str × Value)), Within (fun y => m.lookup y) (m.map (·.1))
  | [], y, h => absurd rfl h
  | (f, v) :: m, y, h => by
    have h' : ((f, v) :: m).lookup y ≠ none := h
    rw [look_put] at h'
    by_cases e : y = f
    · rw [e]
      exact List.mem_cons_self
    · rw [if_neg e] at h'
      exact List.mem_cons_of_mem _ (look_in m y h')
theorem run_flds {L fI : Addr} {cdv : Value} {cc : Addr} {h0 : Heap} {nms : List (Str × NameKind)} {g1 g2 : Bool} {mo : List (Str × Const)} {qual : Str} {m : Str → Option Value} {Q : Flow → Shared → Prop}
    (SF : StoreFacts B bmB "object.__setattr__" "object") (X : K.In h0) (hnx : K.lookup x = none) (hL : h0.Ns L m) (hLx : L ≠ x) (hself : m "self" = some (.ref x)) (hka : nms.lookup ("self" : Str) = some .local)
    (hcd : clsIn K C = some cd) (hh : cd.hasDict = true) (ov : excOver K C bmB = true) (sa : findIn K (.ref C) "__setattr__" = some (some (.builtin "object.__setattr__"))) :
    ∀ {rest : List Stmt} {fs : List Str}, Flds rest fs → ∀ (acc : List (Str × Value)) (us : List Value) (s : Shared), (∀ b o, b ≠ x → h0.get? b = some o → s.heap.get? b = some o) → h0.objs.size ≤ s.heap.objs.size → Held s.heap h0.objs.size x C acc →
      (∀ p ∈ fs.zip us, m p.1 = some p.2) → us.length = fs.length → acc.length + fs.length ≤ 900 → (∀ f ∈ fs, nms.lookup f = some .local ∧ findIn K (.ref C) f = some none ∧ (f == ("__debug__" : Str)) = false) →
      (∀ h' tk, (∀ b o, b ≠ x → h0.get? b = some o → h'.get? b = some o) → h0.objs.size ≤ h'.objs.size → Held h' h0.objs.size x C ((fs.zip us).reverse ++ acc) → Q .next { s with heap := h', toks := tk }) →
      wpAny (model prog w) A (execs rest (ksEnv qual ⟨.function, nms, g1, g2, mo⟩ L fI cdv cc)) Q E s := by
  intro rest fs hF
  induction hF with
  | nil =>
    intro acc us s k sz hd _ hl _ _ hq
    obtain rfl : us = [] := List.eq_nil_of_length_eq_zero hl
    exact wpAny_execs_nil (hq s.heap s.toks k sz hd)
  | @cons f q1 q2 q3 q4 r fs hr ih =>
    intro acc us s k sz hd hv hl hz hf hq
    obtain ⟨u, us, rfl⟩ : ∃ u us', us = u :: us' := by
      cases us with
      | nil => simp at hl
      | cons u us => exact ⟨u, us, rfl⟩
    obtain ⟨f1, f2, f3⟩ := hf f List.mem_cons_self
    have eu : m f = some u := hv (f, u) List.mem_cons_self
    have XK : K.In s.heap := fun a o e => k a o (fun z => by rw [z, hnx] at e; cases e) (X a o e)
    have nsL : s.heap.Ns L m := by
      obtain ⟨oL, es, ep, eL, r⟩ := hL
      exact ⟨oL, es, ep, k _ _ hLx eL, r⟩
    refine wpAny_execs_cons (plainObj_wpAny_Assign_Attribute (wpAny_Name (wpAny_loadName_local rfl f1 nsL eu (wpAny_Name (wpAny_loadName_local rfl hka nsL hself ?_) (by decide))) f3))
    have fin : ∀ h' tk, (∀ b o, b ≠ x → h0.get? b = some o → h'.get? b = some o) → h0.objs.size ≤ h'.objs.size → Held h' h0.objs.size x C ((f, u) :: acc) →
        wpAny (model prog w) A (execs r (ksEnv qual ⟨.function, nms, g1, g2, mo⟩ L fI cdv cc)) Q E { s with heap := h', toks := tk } := fun h' tk k' sz' hd' => by
      refine ih ((f, u) :: acc) us { s with heap := h', toks := tk } k' sz' hd' (fun p hp => hv p (List.mem_cons_of_mem _ hp)) (by simpa using hl) (by simp at hz ⊢; omega) (fun g hg => hf g (List.mem_cons_of_mem _ hg)) fun h2 tk2 k2 sz2 hd2 => ?_
      refine hq h2 tk2 k2 sz2 ?_
      show Held h2 _ x C (((f, u) :: fs.zip us).reverse ++ acc)
      rw [List.reverse_cons, List.append_assoc]
      exact hd2
    have lt0 : ∀ {b : Addr} {o : Obj} {dx : Nat}, h0.get? b = some o → h0.objs.size ≤ dx → b ≠ dx := fun {b o dx} e z => Nat.ne_of_lt (Nat.lt_of_lt_of_le (Heap.lt_size e) z)
    cases acc with
    | nil =>
      obtain ⟨t1, hx⟩ := hd
      refine st_new SF XK hx hcd hh ov sa f2 fun h' tk dx kk dn dne szn hx' hn => fin h' tk (fun b o hb e => kk b o hb (k b o hb e)) (Nat.le_trans sz szn) ⟨t1, dx, Nat.le_trans sz dn, dne, hx', ?_⟩
      have e : (fun y => List.lookup y [(f, u)]) = fun y => if y = f then some u else none := by
        funext y
        exact look_put f y u []
      rw [e]
      exact hn
    | cons a acc =>
      obtain ⟨t1, dx, dn, dne, hx, hn⟩ := hd
      refine st_old SF XK hx hn (look_in (a :: acc)) (by simp at hz ⊢; omega) hcd hh ov sa f2 fun h' tk kk szn hn' => fin h' tk (fun b o hb e => kk b o (lt0 e dn) (k b o hb e)) (Nat.le_trans sz szn) ⟨t1, dx, dn, dne, kk x _ dne.symm hx, ?_⟩
      have e : (fun y => List.lookup y ((f, u) :: a :: acc)) = fun y => if y = f then some u else List.lookup y (a :: acc) := by
        funext y
        exact look_put f y u _
      rw [e]
      exact hn'
end
/-- the written text of such an __init__ -/
structure Txt (st : Stmt) (fs : List Str) : Prop where
  ne : fs ≠ []
  few : fs.length ≤ 900
  kind : (defScope st).kind = .function
  co : (defScope st).isCoroutine = false
  gen : (defScope st).isGenerator = false
  nocell : ∀ x ∈ (defScope st).names, x.2 ≠ .cell
  ls : (defScope st).names.lookup ("super" : Str) = some .globalImplicit
  lc : (defScope st).names.lookup ("__class__" : Str) = some .free
  lself : (defScope st).names.lookup ("self" : Str) = some .local
  lf : ∀ f ∈ fs, (defScope st).names.lookup f = some .local ∧ (f == ("__debug__" : Str)) = false ∧ f ≠ "self"
  nd : fs.Nodup
  ar : ∃ a : Arg, ((defArgs st).posonlyargs ++ (defArgs st).args).head? = some a ∧ a.arg = "self"
  bd : ∀ (qual : Str) (doc pm cdv ct : Value) (an : Option Addr) (cc : Addr) (u : Value) (vs : List Value), vs.length = fs.length →
    bindArgs (ksFn "__init__" qual (defArgs st) (defBody st) (defScope st) .none .none doc pm an cdv ct cc) ⟨u :: vs, []⟩ = pure ((("self" : Str), u) :: fs.zip vs)
  body : ∃ tx p0 p1 p2 p3 p4 p5 rest, defBody st = supS tx p0 p1 p2 p3 p4 p5 :: rest ∧ OneRow tx p0 p1 p2 p3 p4 ∧ Flds rest fs
/-- what the top leaves of such a class -/
structure Cx' (P : Program) (K : Frag) (mg : Str → Option Value) (nm : Str) (st : Stmt) (fs : List Str) (B newId initId : String) (bmB : List Value) (C : Addr) : Prop where
  gC : mg nm = some (.ref C)
  ini : excInitIn K C bmB newId = true
  over : excOver K C bmB = true
  hd : hasDictIn K C = true
  sa : findIn K (.ref C) "__setattr__" = some (some (.builtin "object.__setattr__"))
  ga : findIn K (.ref C) "__getattribute__" = some (some (.builtin "BaseException.__getattribute__"))
  gg : findIn K (.ref C) "__getattr__" = some none
  noF : ∀ f ∈ fs, findIn K (.ref C) f = some none
  kC : keepIn K (.ref C) = true
  exC : subIn K (.ref C) (.type "BaseException") = some true
  tyC : typeIn K (.ref C) = some (.type "type")
  hB : subIn K (.ref C) (.type B) = some true
  hsub : mroIn K C (.ref C) = some true
  opq : nsIn K cStatics "thirdparty.any" = some none
  sup : ks_superIn K C C "__init__" = some (some (.builtin initId))
  mgs : mg "super" = none
  top : (P.main.scope.names.lookup ("super" : Str)).isSome = false
  fn : ∃ (fI : Addr) (oc : Value) (od : Option Addr) (qual : Str) (doc pm : Value) (an : Option Addr) (cda : Addr) (ct : Value) (cc : Addr) (osl : Array (Option Value)), findIn K (.ref C) "__init__" = some (some (.ref fI)) ∧ typeIn K (.ref fI) = some (.type "function") ∧
    K.lookup fI = some ⟨oc, od, .func (ksFn "__init__" qual (defArgs st) (defBody st) (defScope st) .none .none doc pm an (.ref cda) ct cc), osl⟩ ∧ codeIn K (.ref cda) qual = true ∧
    (∃ (cl : Value) (cld : Option Addr) (csl : Array (Option Value)), K.lookup cc = some ⟨cl, cld, .cell (some (.ref C)), csl⟩) ∧
    ∃ (ccl : Value) (cdd : Option Addr) (vs : Array Value) (ccs : Array (Option Value)) (file : Str) (tf : Tok), K.lookup cda = some ⟨ccl, cdd, .fields vs, ccs⟩ ∧ vs[2]? = some (.str file tf) ∧ ((P.main.file : Str) == file) = true
structure Base (B newId initId : String) (bmB : List Value) : Prop where
  FB : ExcBaseFacts B newId initId bmB
  KF : KxsFacts B initId
  SF : StoreFacts B bmB "object.__setattr__" "object"
theorem base_Lookup : Base "LookupError" "LookupError.__new__" "LookupError.__init__" [.type "LookupError", .type "Exception", .type "BaseException", .type "object"] := ⟨F.excBase_LookupError, kxs_LookupError, F.store_LookupError⟩
theorem base_Runtime : Base "RuntimeError" "RuntimeError.__new__" "RuntimeError.__init__" [.type "RuntimeError", .type "Exception", .type "BaseException", .type "object"] := ⟨F.excBase_RuntimeError, kxs_RuntimeError, F.store_RuntimeError⟩
theorem base_Arith : Base "ArithmeticError" "ArithmeticError.__new__" "ArithmeticError.__init__" [.type "ArithmeticError", .type "Exception", .type "BaseException", .type "object"] := ⟨F.excBase_ArithmeticError, kxs_ArithmeticError, F.store_ArithmeticError⟩
theorem base_Value : Base "ValueError" "ValueError.__new__" "ValueError.__init__" [.type "ValueError", .type "Exception", .type "BaseException", .type "object"] := ⟨F.excBase_ValueError, kxs_ValueError, F.store_ValueError⟩
theorem zip_look {β : Type} : ∀ {fs : List Str} {us : List β} (p : Str × β), fs.Nodup → p ∈ fs.zip us → (fs.zip us).reverse.lookup p.1 = some p.2
  | [], _, p, _, h => by simp at h
  | _ :: _, [], p, _, h => by simp at h
  | f :: fs, u :: us, p, nd, h => by
    rw [List.zip_cons_cons, List.reverse_cons, List.lookup_append]
    obtain ⟨n1, n2⟩ := List.nodup_cons.mp nd
    rcases List.mem_cons.mp h with rfl | h
    · have e : List.lookup f (fs.zip us).reverse = none := by
        rw [List.lookup_eq_none_iff]
        intro q hq
        have := (List.of_mem_zip (List.mem_reverse.mp hq)).1
        have hne : q.1 ≠ f := fun z => n1 (by rw [← z]; exact this)
        exact by simpa using Ne.symm hne
      rw [e]
      simp [List.lookup]
    · rw [zip_look p n2 h]
      rfl
section
variable {P : Program} {w : World} {A : Around} {R : Result → Shared → Prop} {K : Frag} {mg mb : Str → Option Value} {nm : Str} {st : Stmt} {fs : List Str} {B newId initId : String} {bmB : List Value} {C : Addr} {s : Shared}
theorem run_init {x t0 : Addr} {us : List Value} (T : Cx' P K mg nm st fs B newId initId bmB C) (TT : Txt st fs) (BB : Base B newId initId bmB) {fI : Addr} (iC : findIn K (.ref C) "__init__" = some (some (.ref fI)))
    (X : K.In s.heap) (hg : s.heap.Ns mainGlobals mg) (hb : s.heap.Ns builtinsNs mb) (hbs : mb "super" = some (.type "super")) (hlim : s.heap.NoLimit) (hx : s.heap.get? x = some (exI C t0 none)) (hnx : K.lookup x = none)
    (hroom : A.depth < recursionLimit) (hl : us.length = fs.length)
    (hq : ∀ h' tk t1 dx, (∀ b o, b ≠ x → s.heap.get? b = some o → h'.get? b = some o) → s.heap.objs.size ≤ dx → dx ≠ x → h'.get? x = some (exI C t1 (some dx)) → h'.Ns1 dx (fun y => (fs.zip us).reverse.lookup y) → R (.ok (.ret .none)) { s with heap := h', toks := tk }) :
    codeAny (model P w) A (.call (.ref fI) ⟨.ref x :: us, []⟩) R s := by
  obtain ⟨fI', oc, od, qual, doc, pm, an, cda, ct, cc, osl, i1, i2, i3, i4, ⟨cl, cld, csl, i5⟩, ccl, cdd, vs, ccs, file, tf, i6, i7, i8⟩ := T.fn
  have e := i1.symm.trans iC
  cases e
  obtain ⟨tx, p0, p1, p2, p3, p4, p5, rest, eb, row, hF⟩ := TT.body
  obtain ⟨ar, a1, a2⟩ := TT.ar
  obtain ⟨cd, hcd, hh⟩ : ∃ cd, clsIn K C = some cd ∧ cd.hasDict = true := by
    have z := T.hd
    unfold hasDictIn at z
    cases c : clsIn K C with
    | none => rw [c] at z; cases z
    | some cd => exact ⟨cd, rfl, by rw [c] at z; exact z⟩
  have hsup : alongIn K "__init__" ((cd.mro.dropWhile (· != .ref C)).drop 1) = some (some (.builtin initId)) := by
    have z := T.sup
    unfold ks_superIn at z
    rw [hcd] at z
    exact z
  have kd := TT.kind
  have loc : ∀ y ∈ ((("self" : Str), Value.ref x) :: fs.zip us), (defScope st).names.lookup y.1 = some .local := fun y hy => by
    rcases List.mem_cons.mp hy with rfl | hy
    · exact TT.lself
    · exact (TT.lf _ (List.of_mem_zip hy).1).1
  refine ks_codeAny_call_defAt (fd := ksFn "__init__" qual (defArgs st) (defBody st) (defScope st) .none .none doc pm an (.ref cda) ct cc) (body := defBody st) (binds := (("self" : Str), .ref x) :: fs.zip us) hroom (X _ _ i3) rfl hlim
    (codeRec_of X i4) rfl (BindsTo.of_eq (TT.bd _ _ _ _ _ _ _ _ _ hl)) TT.nocell loc (fun h0 hns k => ?_) TT.co TT.gen TT.kind
  have X0 : K.In h0 := X.keeps k
  have Lx : s.heap.objs.size ≠ x := Nat.ne_of_gt (Heap.lt_size hx)
  have hm0 : ((("self" : Str), Value.ref x) :: fs.zip us).reverse.lookup ("self" : Str) = some (Value.ref x) := by
    rw [List.reverse_cons, List.lookup_append]
    have e : List.lookup ("self" : Str) (fs.zip us).reverse = none := by
      rw [List.lookup_eq_none_iff]
      intro q hq
      have := (TT.lf _ (List.of_mem_zip (List.mem_reverse.mp hq)).1).2.2
      exact by simpa using Ne.symm this
    rw [e]
    rfl
  have hmf : ∀ p ∈ fs.zip us, ((("self" : Str), Value.ref x) :: fs.zip us).reverse.lookup p.1 = some p.2 := fun p hp => by
    rw [List.reverse_cons, List.lookup_append, zip_look p TT.nd hp]
    rfl
  have hlf := TT.lf
  have hls := TT.ls
  have hlc := TT.lc
  have hlself := TT.lself
  have eE : callEnv (ksFn "__init__" qual (defArgs st) (defBody st) (defScope st) .none .none doc pm an (.ref cda) ct cc) s.heap.objs.size fI = ksEnv qual (defScope st) s.heap.objs.size fI (.ref cda) cc := rfl
  rw [eE]
  generalize hsc : defScope st = sc at i3 kd hlf hls hlc hlself
  obtain ⟨kk, nms, g1, g2, mo⟩ := sc
  dsimp only at kd hlf hls hlc hlself
  subst kd
  have szL : s.heap.objs.size < h0.objs.size := hns.lt
  rw [eb]
  refine ks_wpAt_execs_cons (ex_super (s := { s with heap := h0, toks := _ }) (fd := ksFn "__init__" qual (defArgs st) (defBody st) ⟨.function, nms, g1, g2, mo⟩ .none .none doc pm an (.ref cda) ct cc) row BB.FB BB.KF X0 T.ini hcd (hg.keeps k) T.mgs (hb.keeps k) hbs hns hm0 (k _ _ hx) i3 a1 a2 i6 i7 i8 T.top i5 T.hsub T.opq hsup T.hB rfl hls hlc hlself
    fun h1 tk t1 k1 sz1 e1 => ?_)
  refine wpAt_of_wpAny (run_flds (h0 := h0) BB.SF X0 hnx hns Lx hm0 hlself hcd hh T.over T.sa hF [] us { s with heap := h1, toks := tk } k1 sz1 ⟨t1, e1⟩ hmf hl (by have := TT.few; simpa using this) (fun f hf => ⟨(hlf f hf).1, T.noF f hf, (hlf f hf).2.1⟩) fun h2 tk2 k2 sz2 hd2 => ?_)
  rw [List.append_nil] at hd2
  have nn : (fs.zip us).reverse ≠ [] := by
    have := TT.ne
    cases fs with
    | nil => exact absurd rfl this
    | cons f fs =>
      cases us with
      | nil => simp at hl
      | cons u us => simp
  cases er : (fs.zip us).reverse with
  | nil => exact absurd er nn
  | cons a m =>
    rw [er] at hd2
    obtain ⟨t2, dx, dn, dne, hx2, hn2⟩ := hd2
    rw [er] at hq
    exact hq h2 tk2 t2 dx (fun b o hb e => k2 b o hb (k b o e)) (Nat.le_of_lt (Nat.lt_of_lt_of_le szL dn)) dne hx2 hn2
end
end EX
end Rc

namespace Rc
namespace EX
open PySem PySem.W PySem.Calls PyProof.Rows PySem.HandSPX
open L2 (defScope defBody defArgs)
section
variable {P : Program} {w : World} {A : Around} {R : Result → Shared → Prop} {K : Frag} {mg mb : Str → Option Value} {nm : Str} {st : Stmt} {fs : List Str} {B newId initId : String} {bmB : List Value} {C : Addr} {s : Shared}
/-- a new exception of the class, from its place e -/
structure Made (h h' : Heap) (e C d : Addr) (m : List (Str × Value)) : Prop where
  keep : ∀ b o, h.get? b = some o → h'.get? b = some o
  new : h.objs.size ≤ e
  obj : ∃ t1, h'.get? e = some (exI C t1 (some d))
  dbig : h.objs.size ≤ d
  dne : d ≠ e
  ns : h'.Ns1 d (fun y => m.lookup y)
theorem made {us : List Value} (T : Cx' P K mg nm st fs B newId initId bmB C) (TT : Txt st fs) (BB : Base B newId initId bmB)
    (X : K.In s.heap) (hg : s.heap.Ns mainGlobals mg) (hb : s.heap.Ns builtinsNs mb) (hbs : mb "super" = some (.type "super")) (hlim : s.heap.NoLimit)
    (hroom : A.depth + 1 < recursionLimit) (hl : us.length = fs.length)
    (hq : ∀ h' tk e d, Made s.heap h' e C d (fs.zip us).reverse → R (.ok (.ret (.ref e))) { s with heap := h', toks := tk }) :
    codeAny (model P w) A (.call (.ref C) ⟨us, []⟩) R s := by
  obtain ⟨nm', N', qn, bs, bm, hdct, sn, sub, ab, col, dd, k0, k1, k2, k3, k5, hC, hT⟩ := excInit_of X T.ini
  obtain ⟨fI, oc, od, qual, doc, pm, an, cda, ct, cc, osl, i1, i2, _⟩ := T.fn
  obtain ⟨hp, g, dr, tk, os⟩ := s
  have kp : ∀ b o, hp.get? b = some o → ((hp.push (kdv_tup us)).push (excO C hp.objs.size)).get? b = some o := fun b o e => Heap.get?_push_of_some _ (Heap.get?_push_of_some _ e)
  have hget : ((hp.push (kdv_tup us)).push (excO C hp.objs.size)).get? (hp.objs.size + 1) = some (exI C hp.objs.size none) := by heap_get
  have hnx : K.lookup (hp.objs.size + 1) = none := by
    cases e : K.lookup (hp.objs.size + 1) with
    | none => rfl
    | some o => exact absurd (Nat.lt_of_succ_lt (Heap.lt_size (X _ _ e))) (Nat.lt_irrefl _)
  have hfew : us.length ≤ sizeLine := by
    have := TT.few
    rw [hl, sizeLine_eq]
    omega
  refine call_own BB.FB hT hC (looks_findIn X i1) (fun self => bind_fn X self i2) hfew ?_
  refine run_init (s := ⟨(hp.push (kdv_tup us)).push (excO C hp.objs.size), g, dr, tk, os⟩) T TT BB i1 (X.keeps kp) (hg.keeps kp) (hb.keeps kp) hbs (hlim.keeps kp) hget hnx ?_ hl fun h' tk' t1 dx k' dn dne hx hns => ?_
  · show A.depth + 1 < recursionLimit
    exact hroom
  · have sz : hp.objs.size + 1 + 1 ≤ dx := by
      have q := dn
      simp only [Heap.size_push] at q
      exact q
    exact ⟨rfl, hq h' tk' (hp.objs.size + 1) dx ⟨fun b o e => k' b o (Nat.ne_of_lt (Nat.lt_succ_of_lt (Heap.lt_size e))) (kp b o e), Nat.le_succ _, ⟨_, hx⟩, (show hp.objs.size ≤ dx by omega), dne, hns⟩⟩
end
end EX
open PySem PySem.Spec PyProof.Rows L2
theorem look_rel : ∀ {fs : List Str} {vs : List V} {us : List Value}, Vals vs us → ∀ f : Str, RelO ((fs.zip vs).reverse.lookup f) ((fs.zip us).reverse.lookup f)
  | [], _, _, _, f => trivial
  | _ :: _, _, _, .nil, f => trivial
  | g :: fs, v :: vs, u :: us, .cons r rs, f => by
    rw [List.zip_cons_cons, List.zip_cons_cons, List.reverse_cons, List.reverse_cons, List.lookup_append, List.lookup_append]
    have ih := look_rel (fs := fs) rs f
    cases e1 : (fs.zip vs).reverse.lookup f with
    | some a =>
      cases e2 : (fs.zip us).reverse.lookup f with
      | some b => rw [e1, e2] at ih; exact ih
      | none => rw [e1, e2] at ih; exact ih.elim
    | none =>
      cases e2 : (fs.zip us).reverse.lookup f with
      | some b => rw [e1, e2] at ih; exact ih.elim
      | none =>
        show RelO (List.lookup f [(g, v)]) (List.lookup f [(g, u)])
        by_cases h : f = g
        · subst h
          simp [List.lookup]
          exact r
        · have hb : (f == g) = false := by simpa using h
          simp [List.lookup, hb]
          trivial
section
variable {X : Cx} {nm : Str} {st : Stmt} {fs : List Str} {B newId initId : String} {bmB : List Value} {C : Addr}
/-- C(e, ..) -/
def tMkE (C : Addr) (fs : List Str) (ta : TA) : L2.St → Hp → XK → Prop := fun σ H Q => ta σ H fun vs H1 => vs.length = fs.length ∧ ∀ d, H1 d = none → Q (.ref C) (some d) (upd H1 d (.xd (fs.zip vs).reverse))
theorem pmk_ex {e : Expr} {es : List Expr} {ta : TA} {p pos : Pos} {k : Nat} (T : EX.Cx' X.prog X.K X.mg nm st fs B newId initId bmB C) (TT : EX.Txt st fs) (BB : EX.Base B newId initId bmB) (hr : Room (k + 1) X.A) (ha : PA X (e :: es) ta) (hg : Gl X nm)
    (hdb : (nm == ("__debug__" : Str)) = false := by decide) (he : starEach (e :: es) X.env = (false, eval e X.env) :: starEach es X.env := by rfl) (hpl : (backTo pos (starEach es X.env)).any (·.1) = false := by rfl) :
    PMk X (.Call (.Name nm p) (e :: es) [] pos) (tMkE C fs ta) := by
  intro pins s σ H Q I h
  refine wpAny_Call_Name_kw (ld_glob I hg T.gC ?_ hdb)
  refine PySem.W.callWith_K (h₀ := X.base) I.ok.mod.kin T.kC (thn (ha.run pos pins s σ H _ I h) fun us s1 hh => ?_) he hpl
  obtain ⟨vs, H1, I1, r1, hl, q1⟩ := hh
  refine ⟨I1.kIn, ?_⟩
  show wpAny _ _ (call (.ref C) us) _ _ _
  obtain ⟨mb, b1, b2⟩ := I1.ok.mod.blt
  have hlim := I1.nolimit
  have kb := I1.bk
  obtain ⟨hp, g, dr, tk, os⟩ := s1
  refine wpAny_call (EX.made T TT BB I1.kIn (I1.ok.mod.glob.keeps kb) (b1.keeps kb) ((b2 _ (by decide)).trans (by decide +kernel : bootBuiltins "super" = some (.type "super"))) hlim (by have := hr.dp; omega) (r1.length.symm.trans hl) fun h' tk' a d M => ?_)
  show MkP X pins σ Q (.ref a) ⟨h', g, dr, tk', os⟩
  obtain ⟨t1, hoe⟩ := M.obj
  obtain ⟨G, g1, g2⟩ := restrict h' fun b => decide (b ≠ a)
  have gk : ∀ b, b ≠ a → G.get? b = h'.get? b := fun b hb => g1 b (decide_eq_true hb)
  have ge : G.get? a = none := g2 a (by simp)
  have old : ∀ b o, hp.get? b = some o → G.get? b = some o := fun b o q => (gk b (Nat.ne_of_lt (Nat.lt_of_lt_of_le (Heap.lt_size q) M.new))).trans (M.keep b o q)
  have ob : ObjOk X.prog X.w (upd H1 d (.xd (fs.zip vs).reverse)) G d (.xd (fs.zip vs).reverse) := ⟨_, M.ns.at (fun o q => (gk d M.dne).trans q), look_rel r1⟩
  have J : Inv X pins σ (upd H1 d (.xd (fs.zip vs).reverse)) ⟨G, g, dr, tk', os⟩ := I1.laid (t' := tk') old M.dbig ob
  refine ⟨a, _, _, ⟨G, g, dr, tk', os⟩, _, .ref C, some d, rfl, J, fun b o q => ?_, ge, hoe, ⟨rfl, rfl⟩, rfl, rfl, ?_, rfl, I1.bare, raises_own T.exC T.tyC, q1 d (I1.hok.fresh M.dbig)⟩
  · by_cases hb : b = a
    · have q' : G.get? b = some o := q
      rw [hb, ge] at q'
      cases q'
    · exact (gk b hb).symm.trans q
  · rw [upd_ne (Ne.symm M.dne)]
    exact I1.hok.fresh M.new
end
end Rc

namespace Rc
open PySem PySem.Spec PyProof.Rows L2
/-! ### several except clauses, with names or without -/
abbrev Suite := Addr → Value → Option Addr → TS
/-- behind a suite its name has gone -/
abbrev offD (i : Nat) (D : Ends) : Ends := { nx := fun τ G => D.nx (τ.set i none) G, rt := D.rt, bk := fun τ G => D.bk (τ.set i none) G, ct := fun τ G => D.ct (τ.set i none) G }
def wMix (K : PySem.W.Frag) (Wo : WX) (D : Ends) : List (Value × Option Nat × Suite) → WX
  | [] => Wo
  | (c, none, ts) :: r => fun cls d σ H => ∃ y, PySem.W.exmOne K cls c = some y ∧ (y = true → ∀ a, H a = none → ts a cls d D σ H) ∧ (y = false → wMix K Wo D r cls d σ H)
  | (c, some i, ts) :: r => fun cls d σ H => ∃ y, PySem.W.exmOne K cls c = some y ∧ (y = true → ∀ a, H a = none → ts a cls d (offD i D) (σ.set i (some (.ref a))) H) ∧ (y = false → wMix K Wo D r cls d σ H)
abbrev SuiteOk (X : Cx) (ss : List Stmt) (ts : Suite) : Prop := ∀ (a : Addr) (oe : Obj) (cls : Value) (d : Option Addr) (pn : List (Addr × Obj)), Zc cls d oe → (∃ vs, oe.data = .fields vs) → PSs (X.suite a ((a, oe) :: pn)) ss (ts a cls d)
inductive HdsX (X : Cx) : List ExceptHandler → List (Value × Option Nat × Suite) → Prop
  | nil : HdsX X [] []
  | plain {x : Str} {c : Value} {ts : Suite} {s0 : Stmt} {ss : List Stmt} {p1 p2 : Pos} {hs : List ExceptHandler} {l : List (Value × Option Nat × Suite)} (hc : Names X x c) (ok : SuiteOk X (s0 :: ss) ts) (r : HdsX X hs l) :
      HdsX X (.ExceptHandler (some (.Name x p1)) none (s0 :: ss) p2 :: hs) ((c, none, ts) :: l)
  | named {x n : Str} {i : Nat} {c : Value} {ts : Suite} {s0 : Stmt} {ss : List Stmt} {p1 p2 : Pos} {hs : List ExceptHandler} {l : List (Value × Option Nat × Suite)} (hi : X.N[i]? = some n) (hn : X.env.kindOf n = some .local) (hc : Names X x c) (ok : SuiteOk X (s0 :: ss) ts) (r : HdsX X hs l) :
      HdsX X (.ExceptHandler (some (.Name x p1)) (some n) (s0 :: ss) p2 :: hs) ((c, some i, ts) :: l)
section
variable {X : Cx} {body : List Stmt} {hd : ExceptHandler} {hds : List ExceptHandler} {l : List (Value × Option Nat × Suite)} {pos : Pos} {tb : WX → TS} {Wo : WX}
theorem ps_try_mix (est : X.stack = X.env :: X.outer) (efr : X.env.frame = some X.env.locals) (nd : X.N.Nodup) (tk : Takes X Wo)
    (hb : ∀ (W : WX) (pn : List (Addr × Obj)) (xe : Value → Shared → Prop), Takes (X.tr pn xe) W → PassesOwn (model X.prog X.w) X.A X.env xe → PSs (X.tr pn xe) body (tb W))
    (hh : HdsX X (hd :: hds) l) : PS X (.Try body (hd :: hds) [] [] pos) (fun D σ H => tb (wMix X.K Wo D l) D σ H) := by
  refine ⟨fun pins s σ H D I hw => ?_⟩
  have ok := I.ok
  have frs1 : X.A.frames = some (X.env :: X.outer) := ok.frames.trans (congrArg some est)
  refine wpAny_Try_except (wpAny_mono ((hb (wMix X.K Wo D l) (X.pn ++ pins) (fun u s1 => wpAny (model X.prog X.w) X.A (noteFrame u X.env) (fun _ s2 => wpAny (model X.prog X.w) X.A (setFlight u none) (fun _ s3 =>
    wpAny (model X.prog X.w) X.A (handleBy u X.env (hd :: hds)) (SP X pins D) X.xe s3) X.xe s2) X.xe s1) (fun u s' z => ?_) PassesOwn.looking).run [] s σ H D (I.toTry _) hw) (fun fl s1 z => ?_) (fun _ _ z => z))
  · obtain ⟨a, Bs, sI, pins', τ, G, cls, d, rfl, J', nb, up, sky, na, os, ag, ww⟩ := z
    have J : Inv X pins τ G sI := J'.ofTry ok
    have sky1 : Sky Bs (X.env :: X.outer) a (Zc cls d) X.env.locals s'.heap := est ▸ sky
    show wpAny (model X.prog X.w) X.A (noteFrame (.ref a) X.env) _ _ _
    refine Sky.land Zc.steady frs1 efr sky1 fun h3 fl3 up3 => ?_
    have J3 : Inv X pins τ G { s' with heap := h3 } := J.landed nb fl3.1 (up.trans up3) os ag
    obtain ⟨o3, v3, e3, z3, d3⟩ := fl3.there
    have nfr : a ∉ frs (X.env :: X.outer) := fun hm => by
      obtain ⟨_, o', e', no'⟩ := fl3.2.2.1.mem hm
      rw [e3] at e'
      cases e'
      exact no' _ d3
    have nL : a ≠ X.env.locals := fun y => nfr (List.mem_filterMap.mpr ⟨X.env, List.mem_cons_self, by rw [efr, y]⟩)
    have nF : a ∉ X.fs := fun hm => by
      obtain ⟨e, he, q⟩ := List.mem_filterMap.mp hm
      exact nfr (List.mem_filterMap.mpr ⟨e, .tail _ he, q⟩)
    have S3 := J3.suite e3 d3 na nL nF
    have LT : PySem.W.Looks (model X.prog X.w) h3 (typeOf (.ref a)) cls := fun A Q E s k q => wpAny_typeOf_ref (k _ _ e3) (by rw [z3.1]; exact q)
    have look : ∀ {x : Str} {c : Value} {np : Pos} {Q : Value → Shared → Prop} {E : Value → Shared → Prop}, Names X x c → Q c { s' with heap := h3 } → wpAny (model X.prog X.w) (X.A.mark (some (.ref a))) (eval (.Name x np) X.env) Q E { s' with heap := h3 } := fun {x c np Q E} hc q => by
      obtain ⟨hg, hdb, hm | ⟨hm, hv, hnn⟩⟩ := hc
      · exact ld_glob (X := X.suite a ((a, o3) :: (X.pn ++ pins))) S3 hg hm q hdb
      · exact ld_blt (X := X.suite a ((a, o3) :: (X.pn ++ pins))) S3 hg hm hv q hnn hdb
    have go : ∀ {hs' : List ExceptHandler} {l' : List (Value × Option Nat × Suite)}, HdsX X hs' l' → wMix X.K Wo D l' cls d τ G → wpAny (model X.prog X.w) X.A (handleBy (.ref a) X.env hs') (SP X pins D) X.xe { s' with heap := h3 } := by
      intro hs' l' hk
      induction hk with
      | nil =>
        intro wo
        refine wpAny_handleBy_nil ?_
        obtain ⟨k1, k2, k3, oe, vs, TB, oT, ts', he, hz, hdd, h1, hr⟩ := id fl3
        unfold PySem.passOn
        refine wpAny_bind (wpAny_field he hdd h1 ?_)
        rw [if_neg (show ¬ ((Value.ref TB == Value.none) = true) from by simp)]
        have last : wpAny (model X.prog X.w) X.A (setFlight (.ref a) X.env.frame) (fun _ s4 => wpAny (model X.prog X.w) X.A (throw (.ref a) : Sem Flow) (SP X pins D) X.xe s4) X.xe { s' with heap := h3 } := by
          rw [efr]
          refine HandSPX.setFlight_upZ fl3 fun h4 hh4 up4 => wpAny_throw (tk _ _ ⟨a, Bs, sI, pins, τ, G, cls, d, rfl, J, nb, (up.trans up3).trans up4, .inr (.inr (by rw [est]; exact hh4)), na, os, ag, wo⟩)
        first
          | exact wpAny_bind (wpAny_pure (wpAny_bind last))
          | exact wpAny_bind last
      | @plain x c ts s0 ss p1 p2 hs2 l2 hc sok r ih =>
        intro ⟨y, hy, yes, no⟩
        refine wpAny_handleBy_cons (codeAny_handlers_test ?_) (by intro q; cases q)
        refine look hc ((PySem.W.exm_one (M := model X.prog X.w) J3.kIn LT hy).here ?_)
        cases y with
        | false =>
          show wpAny _ X.A (handleBy (.ref a) X.env hs2) _ _ _
          exact ih (no rfl)
        | true =>
          refine codeAny_handlers_suite (HandSPX.lands_againZ fl3 fun h4 fl4 up4 => ?_)
          have J4 : Inv X pins τ G { s' with heap := h4 } := J.landed nb fl4.1 ((up.trans up3).trans up4) os ag
          obtain ⟨o4, v4, e4, z4, d4⟩ := fl4.there
          refine wpAny_mono ((sok a o4 cls d (X.pn ++ pins) z4 ⟨_, d4⟩).run [] _ _ G _ (J4.suite e4 d4 na nL nF) (yes rfl a na)) (fun fl s6 z6 => ?_) (fun _ _ z => False.elim z)
          cases fl with
          | next => exact let ⟨_, _, S6, q6⟩ := z6; ⟨_, _, S6.unsuite ok, q6⟩
          | brk => exact let ⟨_, _, S6, q6⟩ := z6; ⟨_, _, S6.unsuite ok, q6⟩
          | cont => exact let ⟨_, _, S6, q6⟩ := z6; ⟨_, _, S6.unsuite ok, q6⟩
          | ret u => exact let ⟨_, _, _, S6, r6, q6⟩ := z6; ⟨_, _, _, S6.unsuite ok, r6, q6⟩
      | @named x n i c ts s0 ss p1 p2 hs2 l2 hi hn hc sok r ih =>
        intro ⟨y, hy, yes, no⟩
        refine wpAny_handleBy_cons (codeAny_handlers_test ?_) (by intro q; cases q)
        refine look hc ((PySem.W.exm_one (M := model X.prog X.w) J3.kIn LT hy).here ?_)
        cases y with
        | false =>
          show wpAny _ X.A (handleBy (.ref a) X.env hs2) _ _ _
          exact ih (no rfl)
        | true =>
          refine codeAny_handlers_suite_as (HandSPX.lands_againZ fl3 fun h4 fl4 up4 => ?_)
          have J4 : Inv X pins τ G { s' with heap := h4 } := J.landed nb fl4.1 ((up.trans up3).trans up4) os ag
          obtain ⟨o4, v4, e4, z4, d4⟩ := fl4.there
          refine store_ok (X := X.suite a ((a, o4) :: (X.pn ++ pins))) (v := .ref a) (J4.suite e4 d4 na nL nF) nd hi (.inl hn) rfl (fun s5 S5 => ?_) (.inr hn)
          refine wpAny_mono ((sok a o4 cls d (X.pn ++ pins) z4 ⟨_, d4⟩).run [] s5 _ G _ S5 (yes rfl a na)) (fun fl s6 z6 => ?_) (fun _ _ z => False.elim z)
          have off : ∀ {σ6 : L2.St} {H6 : Hp} {Q : Shared → Prop}, Inv (X.suite a ((a, o4) :: (X.pn ++ pins))) [] σ6 H6 s6 → (∀ s7, Inv X pins (σ6.set i none) H6 s7 → Q s7) →
              wpAny (model X.prog X.w) X.A (do bindName X.env n .none; unbindBehindTheSuite X.env n p2) (fun _ s7 => Q s7) X.xe s6 := fun {σ6 H6 Q} S6 q => gone_ok (S6.unsuite ok) nd hi hn q
          cases fl with
          | next => exact let ⟨_, _, S6, q6⟩ := z6; off S6 fun s7 J7 => ⟨_, _, J7, q6⟩
          | brk => exact let ⟨_, _, S6, q6⟩ := z6; off S6 fun s7 J7 => ⟨_, _, J7, q6⟩
          | cont => exact let ⟨_, _, S6, q6⟩ := z6; off S6 fun s7 J7 => ⟨_, _, J7, q6⟩
          | ret u => exact let ⟨_, _, _, S6, r6, q6⟩ := z6; off S6 fun s7 J7 => ⟨_, _, _, J7, r6, q6⟩
    exact go hh ww
  · cases fl with
    | next => exact let ⟨_, _, J', q⟩ := z; wpAny_execs_nil ⟨_, _, J'.ofTry ok, q⟩
    | brk => exact let ⟨_, _, J', q⟩ := z; ⟨_, _, J'.ofTry ok, q⟩
    | cont => exact let ⟨_, _, J', q⟩ := z; ⟨_, _, J'.ofTry ok, q⟩
    | ret u => exact let ⟨_, _, _, J', r, q⟩ := z; ⟨_, _, _, J'.ofTry ok, r, q⟩
end
end Rc

namespace Rc
open PySem PySem.Spec PyProof.Rows L2
/-! ### NoSuch -/
abbrev sNoS : Stmt := inClass (topS 5) 0
theorem txNoS : EX.Txt sNoS ["who"] :=
  ⟨by simp, by decide, rfl, rfl, rfl, by decide +kernel, rfl, rfl, rfl, fun f hf => by
      obtain rfl := List.mem_singleton.mp hf
      exact ⟨rfl, by decide, by decide⟩, by decide, ⟨_, rfl, rfl⟩,
    fun _ _ _ _ _ _ _ _ vs hl => match vs, hl with | [v], _ => rfl, ⟨_, _, _, _, _, _, _, _, rfl, ⟨_, fun _ => rfl⟩, .cons .nil⟩⟩
abbrev ClsN (P : Program) (K : PySem.W.Frag) (mg : Str → Option Value) (CN : Addr) : Prop :=
  EX.Cx' P K mg "NoSuch" sNoS ["who"] "LookupError" "LookupError.__new__" "LookupError.__init__" [.type "LookupError", .type "Exception", .type "BaseException", .type "object"] CN
/-- dead code -/
def tNot : TE := fun _ _ _ => False
theorem pe_not_here {X : Cx} {e : Expr} : PE X e tNot := ⟨fun _ _ _ _ _ _ h => h.elim⟩
section
variable {P : Program} {w : World} {K : PySem.W.Frag} {mg : Str → Option Value} {base : Heap}
/-- what is no person is refused -/
def spNo (K : PySem.W.Frag) (C CN : Addr) : Sp := fun vs H _ E => ∃ b M v d, vs = [.ref b, v] ∧ BookAt K C H b M ∧ NamesOk M.names ∧ Dt K H v d ∧ ShortD d ∧ hasD M d = false ∧
  ∀ H' dd, Same H H' → H dd = none → H' dd = some (.xd [("who", v)]) → E (.ref CN) (some dd) H'
theorem spNo_len {C CN : Addr} {a b : Str} : ∀ vs H Q E, spNo K C CN vs H Q E → vs.length = [a, b].length := fun vs H Q E h => by
  obtain ⟨_, _, _, _, rfl, _⟩ := h
  rfl
/-- a def that refuses -/
structure HasX (P : Program) (w : World) (K : PySem.W.Frag) (mg : Str → Option Value) (base : Heap) (k : Nat) (nm : Str) (ps : List Str) (sp : Sp) (f : Addr) (fd : FuncData) : Prop where
  ok : FnOk P w K mg base (L2.CX P w) k f fd ps sp
  g : mg nm = some (.ref f)
  kp : PySem.W.keepIn K (.ref f) = true
  b : Binds K fd ps []
structure HasMX (P : Program) (w : World) (K : PySem.W.Frag) (mg : Str → Option Value) (base : Heap) (C : Addr) (k : Nat) (nm : Str) (ps : List Str) (sp : Sp) (f : Addr) (fd : FuncData) : Prop where
  ok : FnOk P w K mg base (L2.CX P w) k f fd ps sp
  m : Meth K C nm f
  b : Binds K fd ps []
theorem no_place {f fh C CN : Addr} {fd fdh : FuncData} (F : Fun K "place_of" "Book.place_of" sPlace f fd) (T : ClsF K C) (N : ClsN P K mg CN) (HS : HasM P w K mg base C 2 "has" ["self", "who"] (spHas K C) fh fdh) :
    FnOk P w K mg base (L2.CX P w) 3 f fd ["self", "who"] (spNo K C CN) := by
  refine F.okX scPlace spNo_len (fun cdv A outer s H vs Q E hr h => ?_)
  obtain ⟨b, M, v, d, rfl, hb, ok, hv, hs, hn, q⟩ := h
  refine ⟨_, pss_cons (ps_if (pt_not (pt_val (pe_meth (pv 0) T.cl HS.m HS.ok hr HS.b .nil pass0 (pa_cons (pv 1) pa_nil))))
      (pss_one (ps_raise rfl (takes_of rfl rfl rfl rfl) (pmk_ex N txNoS EX.base_Lookup hr (pa_cons (pv 1) pa_nil) (by rfl)))) pss_nil) pss_never, ?_⟩
  obtain ⟨dx, tn, on, wg, ws, wd, e, h1, hn', h2, h3, h4⟩ := hb.ex
  refine ⟨.ref b, rfl, b, dx, _, rfl, e, bf_no (NoF.mk' (by decide +kernel)), v, rfl, b, M, v, d, rfl, hb, ok, hv, hs, fun H1 s1 => ⟨_, rfl, ?_⟩⟩
  rw [hn]
  refine iteT ⟨v, rfl, rfl, fun dd nd => ?_⟩
  exact q _ dd (s1.trans (same_upd nd)) (s1.free nd) upd_same
theorem no_notes {f fp C CN : Addr} {fd fdp : FuncData} (F : Fun K "notes" "Book.notes" sNotes f fd) (T : ClsF K C) (B3 : Blt3 mg) (PL : HasMX P w K mg base C 3 "place_of" ["self", "who"] (spNo K C CN) fp fdp) :
    FnOk P w K mg base (L2.CX P w) 4 f fd ["self", "who"] (spNo K C CN) := by
  refine F.okX scNotes spNo_len (fun cdv A outer s H vs Q E hr h => ?_)
  obtain ⟨b, M, v, d, rfl, hb, ok, hv, hs, hn, q⟩ := h
  refine ⟨_, pss_one (ps_ret (pe_callTy call_listD (by rfl) B3.list (by decide +kernel) (pa_cons (pe_ix ix_tupD (pe_fld (pv 0) rfl) (pe_meth (pv 0) T.cl PL.m PL.ok hr PL.b .nil (passes_call (takes_of rfl rfl rfl rfl) fun _ _ _ _ z => z) (pa_cons (pv 1) pa_nil)) (fun _ _ => rfl)) pa_nil))), ?_⟩
  obtain ⟨dx, tn, on, wg, ws, wd, e, h1, hn', h2, h3, h4⟩ := hb.ex
  exact ⟨.ref b, rfl, b, C, dx, _, _, rfl, e, T.cl, T.n3, bf_stacks, .ref b, rfl, b, dx, _, rfl, e, bf_no (NoF.mk' (by decide +kernel)), v, rfl, b, M, v, d, rfl, hb, ok, hv, hs, hn, q⟩
theorem no_pile {f fs fn C CN : Addr} {fd fds fdn : FuncData} (F : Fun K "pile" "Book.pile" sPile f fd) (T : ClsF K C) (SP : Has P w K mg base 1 "split_notes" ["notes", "fallen"] (spSplit K) fs fds)
    (NT : HasMX P w K mg base C 4 "notes" ["self", "who"] (spNo K C CN) fn fdn) : FnOk P w K mg base (L2.CX P w) 5 f fd ["self", "who"] (spNo K C CN) := by
  refine F.okX scPile spNo_len (fun cdv A outer s H vs Q E hr h => ?_)
  obtain ⟨b, M, v, d, rfl, hb, ok, hv, hs, hn, q⟩ := h
  refine ⟨_, pss_cons (ps_asg (pe_call SP.ok (hr.mono (by decide)) (by rfl) SP.g SP.kp SP.b .nil pass0 (pa_cons (pe_meth (pv 0) T.cl NT.m NT.ok hr NT.b .nil (passes_call (takes_of rfl rfl rfl rfl) fun _ _ _ _ z => z) (pa_cons (pv 1) pa_nil)) (pa_cons pe_not_here pa_nil)))
      (pg_tup rfl (pgs_cons (pg_name (i := 2) scPile.nd rfl (.inl rfl)) (pgs_cons (pg_name (i := 3) scPile.nd rfl (.inl rfl)) pgs_nil)))) pss_never, ?_⟩
  obtain ⟨dx, tn, on, wg, ws, wd, e, h1, hn', h2, h3, h4⟩ := hb.ex
  exact ⟨.ref b, rfl, b, dx, _, rfl, e, bf_no (NoF.mk' (by decide +kernel)), v, rfl, b, M, v, d, rfl, hb, ok, hv, hs, hn, q⟩
end
end Rc

namespace Rc
open PySem PySem.Spec PyProof.Rows L2
/-! ### except clauses with a tuple of classes, of any length -/
theorem any_one {K : PySem.W.Frag} {cls c : Value} {b : Bool} (h : PySem.W.exmOne K cls c = some b) : PySem.W.exmAny K cls [c] = some b := by
  unfold PySem.W.exmAny
  rw [h]
  show some (b || false) = some b
  rw [Bool.or_false]
theorem any_hit {K : PySem.W.Frag} {cls c : Value} {r : List Value} {d : Bool} (h : PySem.W.exmOne K cls c = some true) (hr : PySem.W.exmAny K cls r = some d) : PySem.W.exmAny K cls (c :: r) = some true := by
  show (match PySem.W.exmOne K cls c, PySem.W.exmAny K cls r with
    | some b, some d => some (b || d)
    | _, _ => none) = _
  rw [h, hr]
  rfl
theorem any_miss {K : PySem.W.Frag} {cls c : Value} {r : List Value} {d : Bool} (h : PySem.W.exmOne K cls c = some false) (hr : PySem.W.exmAny K cls r = some d) : PySem.W.exmAny K cls (c :: r) = some d := by
  show (match PySem.W.exmOne K cls c, PySem.W.exmAny K cls r with
    | some b, some d => some (b || d)
    | _, _ => none) = _
  rw [h, hr]
  rfl
section
variable {M : Model} {K : PySem.W.Frag} {A : Around} {E : Value → Shared → Prop} {s : Shared}
theorem loop_unit {cs : List Value} {body : Value → PUnit → Sem (ForInStep PUnit)} {Q : PUnit → Shared → Prop} (hb : ∀ c ∈ cs, ∀ R : ForInStep PUnit → Shared → Prop, R (.yield .unit) s → wpAny M A (body c .unit) R E s) (q : Q .unit s) :
    wpAny M A (forIn cs PUnit.unit body) Q E s := by
  induction cs with
  | nil => rw [List.forIn_nil]; exact wpAny_pure q
  | cons c r ih =>
    rw [List.forIn_cons]
    refine wpAny_bind (hb c (.head _) _ ?_)
    exact ih fun c' m => hb c' (.tail _ m)
theorem loop_any {cls : Value} {cs : List Value} {b : Bool} {body : Value → Option Bool × PUnit → Sem (ForInStep (Option Bool × PUnit))} {Q : Option Bool × PUnit → Shared → Prop} (hx : PySem.W.exmAny K cls cs = some b)
    (hb : ∀ c ∈ cs, ∀ d, PySem.W.exmOne K cls c = some d → ∀ R : ForInStep (Option Bool × PUnit) → Shared → Prop, R (if d = true then .done (some true, .unit) else .yield (none, .unit)) s → wpAny M A (body c (none, .unit)) R E s)
    (q : Q (if b = true then some true else none, .unit) s) : wpAny M A (forIn cs ((none, PUnit.unit) : Option Bool × PUnit) body) Q E s := by
  induction cs generalizing b with
  | nil =>
    rw [List.forIn_nil]
    cases (show some false = some b from hx)
    exact wpAny_pure q
  | cons c r ih =>
    obtain ⟨b1, d1, x1, y1, z1⟩ := PySem.W.exmAny_cons hx
    subst z1
    rw [List.forIn_cons]
    refine wpAny_bind (hb c (.head _) b1 x1 _ ?_)
    cases b1 with
    | true => exact wpAny_pure q
    | false => exact ih y1 (fun c' m => hb c' (.tail _ m)) q
theorem exm_list {cs : List Value} {cls : Value} {tp e : Addr} {b : Bool} {h : Heap} (X : K.In h) (LT : PySem.W.Looks M h (typeOf (.ref e)) cls) (hp : h.get? tp = some { cls := .type "tuple", data := .seq cs.toArray }) (hx : PySem.W.exmAny K cls cs = some b) :
    PySem.W.Looks M h (excMatches (.ref e) (.ref tp)) b := by
  have all : ∀ c ∈ cs, ∃ d, PySem.W.exmOne K cls c = some d := by
    clear hp
    induction cs generalizing b with
    | nil => exact fun c m => nomatch m
    | cons c0 r ih =>
      obtain ⟨b1, d1, x1, y1, z1⟩ := PySem.W.exmAny_cons hx
      intro c m
      cases m with
      | head => exact ⟨b1, x1⟩
      | tail _ m => exact ih y1 c m
  intro A Q E s k q
  have LT0 : PySem.W.Looks M h (isInstance (.ref tp) (.type "tuple")) true := ((PySem.W.Looks.ld hp).andThen .now).andThen (PySem.W.Looks.of_pure isSubtype_tuple_tuple)
  have LT1 := LT.keeps k
  have LT0 := LT0.keeps k
  have hp' := k _ _ hp
  unfold excMatches
  refine wpAny_bind (LT0.at ?_)
  dsimp only
  rw [if_pos rfl]
  first
    | refine wpAny_bind (wpAny_seqItems hp' rfl ?_)
    | refine wpAny_bind (wpAny_bind (wpAny_seqItems hp' rfl (wpAny_pure ?_)))
  dsimp only [Option.getD_some, Option.getD]
  first
    | refine wpAny_bind (wpAny_pure (wpAny_bind (loop_unit (cs := cs) (fun c m R r => ?_) ?_)))
    | refine wpAny_pure (wpAny_bind (loop_unit (cs := cs) (fun c m R r => ?_) ?_))
    | refine wpAny_bind (loop_unit (cs := cs) (fun c m R r => ?_) ?_)
  · obtain ⟨d, x⟩ := all c m
    obtain ⟨e1, _⟩ := PySem.W.exm_cls (M := M) X x
    refine wpAny_bind ((e1.keeps k).at ?_)
    simp only [Bool.not_true, Bool.false_eq_true, if_false]
    first
      | exact wpAny_pure r
      | exact wpAny_bind (wpAny_pure (wpAny_pure r))
      | exact wpAny_bind (wpAny_pure r)
  · refine wpAny_bind (LT1.at ?_)
    refine wpAny_bind (loop_any (cls := cls) (cs := cs) hx (fun c m d x R r => ?_) ?_)
    · obtain ⟨_, S1⟩ := PySem.W.exm_cls (M := M) X x
      refine wpAny_bind ((S1.keeps k).at ?_)
      cases d <;> exact wpAny_pure r
    · cases b <;> exact wpAny_pure q
end

def wMixT (K : PySem.W.Frag) (Wo : WX) (D : Ends) : List (List Value × Option Nat × Suite) → WX
  | [] => Wo
  | (c, none, ts) :: r => fun cls d σ H => ∃ y, PySem.W.exmAny K cls c = some y ∧ (y = true → ∀ a, H a = none → ts a cls d D σ H) ∧ (y = false → wMixT K Wo D r cls d σ H)
  | (c, some i, ts) :: r => fun cls d σ H => ∃ y, PySem.W.exmAny K cls c = some y ∧ (y = true → ∀ a, H a = none → ts a cls d (offD i D) (σ.set i (some (.ref a))) H) ∧ (y = false → wMixT K Wo D r cls d σ H)
/-- the names of a tuple -/
inductive NamesL (X : Cx) : List Expr → List Value → Prop
  | nil : NamesL X [] []
  | cons {x : Str} {c : Value} {p : Pos} {es : List Expr} {cs : List Value} (hc : Names X x c) (r : NamesL X es cs) : NamesL X (.Name x p :: es) (c :: cs)
inductive SpecX (X : Cx) : Expr → List Value → Prop
  | one {x : Str} {c : Value} {p : Pos} (hc : Names X x c) : SpecX X (.Name x p) [c]
  | many {es : List Expr} {cs : List Value} {k : Nat} {p : Pos} (h : NamesL X es cs) (hl : cs.length ≤ sizeLine) : SpecX X (.Tuple es k p) cs
/-- a suite, the caught one not of the base -/
abbrev SuiteOkB (X : Cx) (ss : List Stmt) (ts : Suite) : Prop := ∀ (a : Addr) (oe : Obj) (cls : Value) (d : Option Addr) (pn : List (Addr × Obj)), X.base.get? a = none → Zc cls d oe → (∃ vs, oe.data = .fields vs) → PSs (X.suite a ((a, oe) :: pn)) ss (ts a cls d)
inductive HdsT (X : Cx) : List ExceptHandler → List (List Value × Option Nat × Suite) → Prop
  | nil : HdsT X [] []
  | plain {t : Expr} {c : List Value} {ts : Suite} {s0 : Stmt} {ss : List Stmt} {p2 : Pos} {hs : List ExceptHandler} {l : List (List Value × Option Nat × Suite)} (hc : SpecX X t c) (ok : SuiteOkB X (s0 :: ss) ts) (r : HdsT X hs l) :
      HdsT X (.ExceptHandler (some t) none (s0 :: ss) p2 :: hs) ((c, none, ts) :: l)
  | named {t : Expr} {n : Str} {i : Nat} {c : List Value} {ts : Suite} {s0 : Stmt} {ss : List Stmt} {p2 : Pos} {hs : List ExceptHandler} {l : List (List Value × Option Nat × Suite)} (hi : X.N[i]? = some n) (hn : X.env.kindOf n = some .local) (hc : SpecX X t c) (ok : SuiteOkB X (s0 :: ss) ts) (r : HdsT X hs l) :
      HdsT X (.ExceptHandler (some t) (some n) (s0 :: ss) p2 :: hs) ((c, some i, ts) :: l)
theorem fly_push {base h : Heap} {l : List Env} {e : Addr} {Z : Obj → Prop} {o : Obj} (x : HandSPX.FlyingZ base l e Z h) : HandSPX.FlyingZ base l e Z (h.push o) := by
  obtain ⟨f1, f2, f3, oe, vs, T, oT, ts, he, hz, hd, h1, hnT, hTe, hT, hdT, h3⟩ := x
  exact ⟨fun b o e => Heap.get?_push_of_some _ (f1 b o e), f2, f3.of_keeps fun b o e _ => ⟨o, Heap.get?_push_of_some _ e, rfl⟩, oe, vs, T, oT, ts, Heap.get?_push_of_some _ he, hz, hd, h1, hnT, hTe, Heap.get?_push_of_some _ hT, hdT, h3⟩
theorem up_push {h h' : Heap} {o : Obj} (u : h.UpToSlots h') : h.UpToSlots (h'.push o) := u.trans (Heap.UpToSlots.of_keeps fun b o e => Heap.get?_push_of_some _ e)
theorem kp_push {h : Heap} {o : Obj} : ∀ b u, h.get? b = some u → (h.push o).get? b = some u := fun _ _ e => Heap.get?_push_of_some _ e
section
variable {X : Cx} {body : List Stmt} {hd : ExceptHandler} {hds : List ExceptHandler} {l : List (List Value × Option Nat × Suite)} {pos : Pos} {tb : WX → TS} {Wo : WX}
/-- the names of a tuple are looked up -/
theorem names_run {A : Around} {E : Value → Shared → Prop} {s : Shared} {env : Env} {p : Pos} (look : ∀ {x : Str} {c : Value} {np : Pos} {Q : Value → Shared → Prop}, Names X x c → Q c s → wpAny (model X.prog X.w) A (eval (.Name x np) env) Q E s) :
    ∀ {es : List Expr} {cs : List Value}, NamesL X es cs → ∀ {Q : List Value → Shared → Prop}, Q cs s → wpAny (model X.prog X.w) A (spliced (backTo p (starEach es env))) Q E s := by
  intro es cs h
  induction h with
  | nil => exact fun q => wpAny_items_nil q
  | cons hc r ih => exact fun q => wpAny_items_cons (look hc (ih q))
theorem ps_try_mixT (est : X.stack = X.env :: X.outer) (efr : X.env.frame = some X.env.locals) (nd : X.N.Nodup) (tk : Takes X Wo)
    (hb : ∀ (W : WX) (pn : List (Addr × Obj)) (xe : Value → Shared → Prop), Takes (X.tr pn xe) W → PassesOwn (model X.prog X.w) X.A X.env xe → PSs (X.tr pn xe) body (tb W))
    (hh : HdsT X (hd :: hds) l) : PS X (.Try body (hd :: hds) [] [] pos) (fun D σ H => tb (wMixT X.K Wo D l) D σ H) := by
  refine ⟨fun pins s σ H D I hw => ?_⟩
  have ok := I.ok
  have frs1 : X.A.frames = some (X.env :: X.outer) := ok.frames.trans (congrArg some est)
  refine wpAny_Try_except (wpAny_mono ((hb (wMixT X.K Wo D l) (X.pn ++ pins) (fun u s1 => wpAny (model X.prog X.w) X.A (noteFrame u X.env) (fun _ s2 => wpAny (model X.prog X.w) X.A (setFlight u none) (fun _ s3 =>
    wpAny (model X.prog X.w) X.A (handleBy u X.env (hd :: hds)) (SP X pins D) X.xe s3) X.xe s2) X.xe s1) (fun u s' z => ?_) PassesOwn.looking).run [] s σ H D (I.toTry _) hw) (fun fl s1 z => ?_) (fun _ _ z => z))
  · obtain ⟨a, Bs, sI, pins', τ, G, cls, d, rfl, J', nb, up, sky, na, os, ag, ww⟩ := z
    have J : Inv X pins τ G sI := J'.ofTry ok
    have sky1 : Sky Bs (X.env :: X.outer) a (Zc cls d) X.env.locals s'.heap := est ▸ sky
    show wpAny (model X.prog X.w) X.A (noteFrame (.ref a) X.env) _ _ _
    refine Sky.land Zc.steady frs1 efr sky1 fun h3 fl3 up3 => ?_
    have off : ∀ {h5 : Heap} {o4 : Obj} {v4 : Array Value}, HandSPX.FlyingZ Bs (X.env :: X.outer) a (Zc cls d) h5 → h5.get? a = some o4 → o4.data = .fields v4 → a ≠ X.env.locals ∧ a ∉ X.fs := fun {h5 o4 v4} fl5 e4 d4 => by
      have nfr : a ∉ frs (X.env :: X.outer) := fun hm => by
        obtain ⟨_, o', e', no'⟩ := fl5.2.2.1.mem hm
        rw [e4] at e'
        cases e'
        exact no' _ d4
      refine ⟨fun y => nfr (List.mem_filterMap.mpr ⟨X.env, List.mem_cons_self, by rw [efr, y]⟩), fun hm => ?_⟩
      obtain ⟨e, he, q⟩ := List.mem_filterMap.mp hm
      exact nfr (List.mem_filterMap.mpr ⟨e, .tail _ he, q⟩)
    have nB : ∀ {h5 : Heap}, HandSPX.FlyingZ Bs (X.env :: X.outer) a (Zc cls d) h5 → X.base.get? a = none := fun {h5} fl5 => by
      cases e : X.base.get? a with
      | none => rfl
      | some o =>
        have h1 := (J.bs a o e).1
        have nf : a ∉ frs X.stack := fun hm => by
          rcases List.mem_cons.mp (J.stkSub a hm) with z | z
          · have lt : a < X.base.objs.size := Heap.lt_size e
            have le := Nat.le_trans ok.bsz ok.above
            rw [z] at lt
            exact absurd lt (Nat.not_lt.mpr le)
          · exact ok.nofr e z
        have h2 := nb a o h1 nf
        rw [fl5.2.1] at h2
        cases h2
    have look : ∀ {h3 : Heap} {x : Str} {c : Value} {np : Pos} {Q : Value → Shared → Prop} {E : Value → Shared → Prop}, HandSPX.FlyingZ Bs (X.env :: X.outer) a (Zc cls d) h3 → sI.heap.UpToSlots h3 → Names X x c → Q c { s' with heap := h3 } → wpAny (model X.prog X.w) (X.A.mark (some (.ref a))) (eval (.Name x np) X.env) Q E { s' with heap := h3 } := fun {h3 x c np Q E} fl3 up3 hc q => by
      have J3 : Inv X pins τ G { s' with heap := h3 } := J.landed nb fl3.1 up3 os ag
      obtain ⟨o3, v3, e3, z3, d3⟩ := fl3.there
      obtain ⟨nL, nF⟩ := off fl3 e3 d3
      have S3 := J3.suite e3 d3 na nL nF
      obtain ⟨hg, hdb, hm | ⟨hm, hv, hnn⟩⟩ := hc
      · exact ld_glob (X := X.suite a ((a, o3) :: (X.pn ++ pins))) S3 hg hm q hdb
      · exact ld_blt (X := X.suite a ((a, o3) :: (X.pn ++ pins))) S3 hg hm hv q hnn hdb
    have test : ∀ {h3 : Heap} {t : Expr} {c : List Value} {y : Bool} {Q : Bool → Shared → Prop} {E E' : Value → Shared → Prop}, HandSPX.FlyingZ Bs (X.env :: X.outer) a (Zc cls d) h3 → sI.heap.UpToSlots h3 → SpecX X t c → PySem.W.exmAny X.K cls c = some y →
        (∀ h4, HandSPX.FlyingZ Bs (X.env :: X.outer) a (Zc cls d) h4 → sI.heap.UpToSlots h4 → Q y { s' with heap := h4 }) →
        wpAny (model X.prog X.w) (X.A.mark (some (.ref a))) (eval t X.env) (fun u s1 => wpAny (model X.prog X.w) (X.A.mark (some (.ref a))) (excMatches (.ref a) u) Q E s1) E' { s' with heap := h3 } := fun {h3 t c y Q E E'} fl3 up3 hc hy q => by
      have J3 : Inv X pins τ G { s' with heap := h3 } := J.landed nb fl3.1 up3 os ag
      obtain ⟨o3, v3, e3, z3, d3⟩ := fl3.there
      have LT : PySem.W.Looks (model X.prog X.w) h3 (typeOf (.ref a)) cls := fun A Q E s k q => wpAny_typeOf_ref (k _ _ e3) (by rw [z3.1]; exact q)
      cases hc with
      | @one x c p hc =>
        obtain ⟨b1, d1, x1, y1, z1⟩ := PySem.W.exmAny_cons hy
        cases (show some false = some d1 from y1)
        have e1 : PySem.W.exmOne X.K cls c = some y := by rw [x1, z1, Bool.or_false]
        exact look fl3 up3 hc ((PySem.W.exm_one (M := model X.prog X.w) J3.kIn LT e1).here (q h3 fl3 up3))
      | @many es cs k p hn hl =>
        refine wpAny_Tuple (names_run (fun hc q => look fl3 up3 hc q) hn ⟨hl, ?_⟩)
        exact (exm_list (M := model X.prog X.w) (J3.kIn.keeps kp_push) (LT.keeps kp_push) (Heap.get?_push_size _ rfl) hy).here (q _ (fly_push fl3) (up_push up3))
    have go : ∀ {hs' : List ExceptHandler} {l' : List (List Value × Option Nat × Suite)}, HdsT X hs' l' → wMixT X.K Wo D l' cls d τ G → ∀ h3, HandSPX.FlyingZ Bs (X.env :: X.outer) a (Zc cls d) h3 → sI.heap.UpToSlots h3 → wpAny (model X.prog X.w) X.A (handleBy (.ref a) X.env hs') (SP X pins D) X.xe { s' with heap := h3 } := by
      intro hs' l' hk
      induction hk with
      | nil =>
        intro wo h3 fl3 up3
        have J3 : Inv X pins τ G { s' with heap := h3 } := J.landed nb fl3.1 up3 os ag
        refine wpAny_handleBy_nil ?_
        obtain ⟨k1, k2, k3, oe, vs, TB, oT, ts', he, hz, hdd, h1, hr⟩ := id fl3
        unfold PySem.passOn
        refine wpAny_bind (wpAny_field he hdd h1 ?_)
        rw [if_neg (show ¬ ((Value.ref TB == Value.none) = true) from by simp)]
        have last : wpAny (model X.prog X.w) X.A (setFlight (.ref a) X.env.frame) (fun _ s4 => wpAny (model X.prog X.w) X.A (throw (.ref a) : Sem Flow) (SP X pins D) X.xe s4) X.xe { s' with heap := h3 } := by
          rw [efr]
          refine HandSPX.setFlight_upZ fl3 fun h4 hh4 up4 => wpAny_throw (tk _ _ ⟨a, Bs, sI, pins, τ, G, cls, d, rfl, J, nb, up3.trans up4, .inr (.inr (by rw [est]; exact hh4)), na, os, ag, wo⟩)
        first
          | exact wpAny_bind (wpAny_pure (wpAny_bind last))
          | exact wpAny_bind last
      | @plain t c ts s0 ss p2 hs2 l2 hc sok r ih =>
        intro ⟨y, hy, yes, no⟩ h3 fl3 up3
        refine wpAny_handleBy_cons (codeAny_handlers_test ?_) (by intro q; cases q)
        refine test fl3 up3 hc hy fun h4 fl4 up4 => ?_
        cases y with
        | false =>
          show wpAny _ X.A (handleBy (.ref a) X.env hs2) _ _ _
          exact ih (no rfl) h4 fl4 up4
        | true =>
          refine codeAny_handlers_suite (HandSPX.lands_againZ fl4 fun h5 fl5 up5 => ?_)
          obtain ⟨o4, v4, e4, z4, d4⟩ := fl5.there
          have J4 : Inv X pins τ G { s' with heap := h5 } := J.landed nb fl5.1 (up4.trans up5) os ag
          obtain ⟨nL, nF⟩ := off fl5 e4 d4
          refine wpAny_mono ((sok a o4 cls d (X.pn ++ pins) (nB fl5) z4 ⟨_, d4⟩).run [] _ _ G _ (J4.suite e4 d4 na nL nF) (yes rfl a na)) (fun fl s6 z6 => ?_) (fun _ _ z => False.elim z)
          cases fl with
          | next => exact let ⟨_, _, S6, q6⟩ := z6; ⟨_, _, S6.unsuite ok, q6⟩
          | brk => exact let ⟨_, _, S6, q6⟩ := z6; ⟨_, _, S6.unsuite ok, q6⟩
          | cont => exact let ⟨_, _, S6, q6⟩ := z6; ⟨_, _, S6.unsuite ok, q6⟩
          | ret u => exact let ⟨_, _, _, S6, r6, q6⟩ := z6; ⟨_, _, _, S6.unsuite ok, r6, q6⟩
      | @named t n i c ts s0 ss p2 hs2 l2 hi hn hc sok r ih =>
        intro ⟨y, hy, yes, no⟩ h3 fl3 up3
        refine wpAny_handleBy_cons (codeAny_handlers_test ?_) (by intro q; cases q)
        refine test fl3 up3 hc hy fun h4 fl4 up4 => ?_
        cases y with
        | false =>
          show wpAny _ X.A (handleBy (.ref a) X.env hs2) _ _ _
          exact ih (no rfl) h4 fl4 up4
        | true =>
          refine codeAny_handlers_suite_as (HandSPX.lands_againZ fl4 fun h5 fl5 up5 => ?_)
          obtain ⟨o4, v4, e4, z4, d4⟩ := fl5.there
          have J4 : Inv X pins τ G { s' with heap := h5 } := J.landed nb fl5.1 (up4.trans up5) os ag
          obtain ⟨nL, nF⟩ := off fl5 e4 d4
          refine store_ok (X := X.suite a ((a, o4) :: (X.pn ++ pins))) (v := .ref a) (J4.suite e4 d4 na nL nF) nd hi (.inl hn) rfl (fun s5 S5 => ?_) (.inr hn)
          refine wpAny_mono ((sok a o4 cls d (X.pn ++ pins) (nB fl5) z4 ⟨_, d4⟩).run [] s5 _ G _ S5 (yes rfl a na)) (fun fl s6 z6 => ?_) (fun _ _ z => False.elim z)
          have off : ∀ {σ6 : L2.St} {H6 : Hp} {Q : Shared → Prop}, Inv (X.suite a ((a, o4) :: (X.pn ++ pins))) [] σ6 H6 s6 → (∀ s7, Inv X pins (σ6.set i none) H6 s7 → Q s7) →
              wpAny (model X.prog X.w) X.A (do bindName X.env n .none; unbindBehindTheSuite X.env n p2) (fun _ s7 => Q s7) X.xe s6 := fun {σ6 H6 Q} S6 q => gone_ok (S6.unsuite ok) nd hi hn q
          cases fl with
          | next => exact let ⟨_, _, S6, q6⟩ := z6; off S6 fun s7 J7 => ⟨_, _, J7, q6⟩
          | brk => exact let ⟨_, _, S6, q6⟩ := z6; off S6 fun s7 J7 => ⟨_, _, J7, q6⟩
          | cont => exact let ⟨_, _, S6, q6⟩ := z6; off S6 fun s7 J7 => ⟨_, _, J7, q6⟩
          | ret u => exact let ⟨_, _, _, S6, r6, q6⟩ := z6; off S6 fun s7 J7 => ⟨_, _, _, J7, r6, q6⟩
    exact go hh ww h3 fl3 (up.trans up3)
  · cases fl with
    | next => exact let ⟨_, _, J', q⟩ := z; wpAny_execs_nil ⟨_, _, J'.ofTry ok, q⟩
    | brk => exact let ⟨_, _, J', q⟩ := z; ⟨_, _, J'.ofTry ok, q⟩
    | cont => exact let ⟨_, _, J', q⟩ := z; ⟨_, _, J'.ofTry ok, q⟩
    | ret u => exact let ⟨_, _, _, J', r, q⟩ := z; ⟨_, _, _, J'.ofTry ok, r, q⟩
end
end Rc

set_option maxHeartbeats 2000000
namespace Rc
open PySem PySem.Spec PyProof.Rows L2 LamX
/-! ### a list walked while its key is asked -/
theorem walks_listR {prog : Program} {w : World} {A : Around} (hh : A.handled = none) (I ax : Addr) (hne : ax ≠ I) (xs : List V) :
    Walks prog w A I [I, ax] [I] xs.length (fun i v => ∃ x, xs[i]? = some x ∧ RelV x v) (fun i h => h.IsListIter I ax i ∧ ∃ items : Array Value, h.IsList ax items ∧ Vals xs items.toList) where
  sub := fun b hb => by simp at hb; simp [hb]
  frame := fun _ _ _ st hk => by
    obtain ⟨h1, items, h2, h3⟩ := st
    exact ⟨h1.at fun o e => hk I (by simp) o e, items, h2.at fun o e => hk ax (by simp) o e, h3⟩
  item := fun i s Q E hi st hQ => by
    obtain ⟨h1, items, h2, h3⟩ := st
    obtain ⟨u, hu, ru⟩ := h3.get (List.getElem?_eq_getElem hi)
    have hs : items[i]? = some u := by
      rw [← Array.getElem?_toList]
      exact hu
    refine wpAny_pyNext_list_item h1 h2 (x := u) hs fun h' hit' hs' => ?_
    exact hQ _ h' s.toks ⟨_, List.getElem?_eq_getElem hi, ru⟩ ⟨hit', items, h2.extBut hs'.extBut hne, h3⟩ fun b o hb e => hs'.extBut b o (fun h => hb (by simp [h])) e
  done := fun s Q E st hQ => by
    obtain ⟨h1, items, h2, h3⟩ := st
    have l : items.size = xs.length := by
      rw [← Array.length_toList]
      exact h3.length.symm
    exact wpAny_pyNext_list_end hh h1 h2 (by rw [← l]; simp) fun h' he' => hQ h' s.toks fun b o hb e => he' b o (fun h => hb (by simp [h])) e
  self := fun _ _ _ _ st hQ => wpAny_pyIter_listiter st.1 hQ
/-! ### a lambda with one parameter -/
structure LamS1 (sc scope : Scope) (x : Str) : Prop where
  kind : scope.kind = .function
  co : scope.isCoroutine = false
  gen : scope.isGenerator = false
  own : ∀ y ∈ scope.names, (y.2 = .local → y.1 = x) ∧ y.2 ≠ .cell
  loc : scope.names.lookup x = some .local
  free : ∀ y ∈ scope.names, y.2 = .free → sc.names.lookup y.1 = some .cell ∨ sc.names.lookup y.1 = some .free
theorem LamS1.has {X : Cx} {scope : Scope} {x : Str} (L : LamS1 X.env.scope scope x) (ok : X.Ok) : ∀ y ∈ scope.names, y.2 = .free → ∃ c, X.env.cells.lookup y.1 = some c := fun y hy e => by
  rcases L.free y hy e with k | k
  · exact ok.has _ (.inl k)
  · exact ok.has _ (.inr k)
section
variable {X : Cx} {pins : List (Addr × Obj)} {σ : L2.St} {H HZ : Hp} {s s1 : Shared}
theorem lam_start1 {A : Around} {outer : List Env} {E : XK} {scope : Scope} {f c' : Addr} {h₁ : Heap} {tk : Nat} {x : Str} {io : Nat} {v : V} {u : Value} (I : Inv X pins σ H s) (L : LamS1 X.env.scope scope x) (hN : X.N.Nodup) (hio : X.N[io]? = some x) (rv : RelV v u)
    (e0 : Env0 X.prog X.w X.K X.mg X.base A outer s1 HZ) (hd : A.handled = none)
    (un : Un (frs X.stack) [] H HZ s.heap s1.heap) (hns : h₁.Ns s1.heap.objs.size fun y => ([(x, u)] : List (Str × Value)).reverse.lookup y) (kp : ∀ b o, s1.heap.get? b = some o → h₁.get? b = some o) :
    Inv (lamCx X A outer s1 HZ E scope f c') [] (σ.set io (some v)) HZ { s1 with heap := h₁, toks := tk } := by
  have hfree := L.has I.ok
  have cm : ∀ {y c}, (cloFrom X.env.cells scope.names []).lookup y = some c → X.env.cells.lookup y = some c := fun {y c} e => by
    rcases cloFrom_mem (PySem.mem_of_lookup e) with hm | ⟨h1, h2⟩
    · cases hm
    · obtain ⟨c1, hc⟩ := hfree _ h1 rfl
      have hc : X.env.cells.lookup y = some c1 := hc
      have e2 : c = c1 := by
        rw [h2, hc] <;> rfl
      rw [e2]
      exact hc
  have look : ∀ {y}, scope.names.lookup y = some .free → ∃ c, (cloFrom X.env.cells scope.names []).lookup y = some c := fun {y} hl => by
    have hy : (y, NameKind.free) ∈ scope.names := PySem.mem_of_lookup hl
    exact mem_lookup (cloFrom_has (cells := X.env.cells) (acc := []) hy)
  have cellK : ∀ {c : Addr} {v : Option Value}, H c = none → s.heap.IsCell c v → h₁.IsCell c v := fun {c v} n ⟨o, ho, hd⟩ => by
    obtain ⟨sl, q⟩ := un.any ho n (by simp)
    exact ⟨_, kp _ _ q, hd⟩
  have noA : ∀ b : Addr, b ∉ (lamCx X A outer s1 HZ E scope f c').ex := fun b z => absurd (show b ∈ ([] : List Addr) from z) (by simp)
  refine ⟨⟨e0.mod, L.kind, rfl, rfl, Nat.le_refl _, fun y z c e1 e2 => I.ok.inj y z c (cm e1) (cm e2), fun y hy => ?_, fun y c z _ => ?_, fun _ => hd, Around.frames_deeper e0.frames, .inr ⟨rfl, rfl⟩, fun b z => absurd z (noA b), e0.bs, e0.bsz, fun b _ _ => noA b,
      fun b z => absurd z (noA b), e0.funs, e0.frf⟩,
    rfl, e0.bare, Un.kept kp, ⟨_, hns, fun i y v' e1 e2 e3 => ?_⟩, fun y c e => ?_, e0.hok.fresh (Nat.le_refl _), fun y c e => ?_, fun q hq => absurd (show q ∈ ([] : List (Addr × Obj)) ++ [] from hq) (by simp), e0.hok.kept kp, by rw [List.length_set]; exact I.len⟩
  · have hy : scope.names.lookup y = some .cell ∨ scope.names.lookup y = some .free := hy
    rcases hy with hy | hy
    · exact absurd rfl (L.own _ (PySem.mem_of_lookup hy)).2
    · exact look hy
  · have z : false = true := z
    cases z
  · have e1 : X.N[i]? = some y := e1
    have e3 : Vis scope y := e3
    rcases e3 with k | k | k
    · have hy : y = x := (L.own _ (PySem.mem_of_lookup k)).1 rfl
      subst hy
      have hi : i = io := nodup_ix hN e1 hio
      subst hi
      have hl : i < σ.length := by
        rw [I.len]
        exact (List.getElem?_eq_some_iff.mp e1).1
      rw [List.getElem?_set_self hl] at e2
      cases e2
      exact ⟨u, rv, .inl ⟨k, by simp [List.lookup]⟩⟩
    · exact absurd rfl (L.own _ (PySem.mem_of_lookup k)).2
    · obtain ⟨m, hn, hl⟩ := I.loc
      have hvis : Vis X.env.scope y := (L.free _ (PySem.mem_of_lookup k) rfl).elim (fun k => .inr (.inl k)) (fun k => .inr (.inr k))
      have hyx : y ≠ x := fun z => by
        rw [z, L.loc] at k
        cases k
      have hii : io ≠ i := fun z => by
        rw [← z, hio] at e1
        exact hyx (Option.some.inj e1).symm
      rw [List.getElem?_set_ne hii] at e2
      obtain ⟨w', r, q⟩ := hl i y v' e1 e2 hvis
      obtain ⟨c2, h2⟩ := look k
      refine ⟨w', r, .inr ⟨.inr k, c2, h2, ?_⟩⟩
      have c1 := cm h2
      rcases q with ⟨k', _⟩ | ⟨_, c3, e', z⟩
      · have k' : X.env.scope.names.lookup y = some .local := k'
        rcases L.free _ (PySem.mem_of_lookup k) rfl with k2 | k2 <;> rw [show X.env.scope.names.lookup y = _ from k2] at k' <;> cases k'
      · rw [c1] at e'
        cases e'
        exact cellK (I.freeC y _ c1) z
  · obtain ⟨w', z⟩ := I.cell y c (cm e)
    exact ⟨w', cellK (I.freeC y c (cm e)) z⟩
  · obtain ⟨v, o, ho, hd⟩ := I.cell y c (cm e)
    exact un.free c o ho (I.freeC y c (cm e)) (by simp)
/-- the lambda called with a value, from our own frame -/
theorem lam_call1 {A : Around} {f c' : Addr} {pm ctv : Value} {params : Arguments} {body : Expr} {scope : Scope} {k io : Nat} {x : Str} {v : V} {u : Value} {tb : TE} {Q : VK} {E : Value → Shared → Prop} (I : Inv X pins σ H s) (L : LamS1 X.env.scope scope x) (hN : X.N.Nodup) (hio : X.N[io]? = some x)
    (hf : s.heap.get? f = some (PySem.W.kla_obj "<lambda>" (X.env.qual ++ "<lambda>") params body scope (cloFrom X.env.cells scope.names []) pm c' ctv)) (hc : H c' = some (CodeO c' (X.env.qual ++ "<lambda>")))
    (hbind : bindArgs (PySem.W.kla_fn "<lambda>" (X.env.qual ++ "<lambda>") params body scope (cloFrom X.env.cells scope.names []) pm (.ref c') ctv) ⟨[u], []⟩ = pure [(x, u)]) (rv : RelV v u)
    (e0 : Env0 X.prog X.w X.K X.mg X.base A X.stack s H) (hr : Room (k + 1) A)
    (hbody : Room k (A.deeper (lamEnv X scope s.heap.objs.size f c')) → PE (lamCx X A X.stack s H E0 scope f c') body tb) (h : tb (σ.set io (some v)) H Q) :
    wpAny (model X.prog X.w) A (call (.ref f) [u]) (fun r s' => ∃ y H', Inv X pins σ H' s' ∧ Un (frs X.stack) [] H H' s.heap s'.heap ∧ RelV y r ∧ Q y H') E s := by
  obtain ⟨⟨oc, vs, t, hoc, hdc, hvc⟩, _, _⟩ := I.hok c' _ hc
  have rc : codeAny (model X.prog X.w) A (.call (.ref f) ⟨[u], []⟩) (CR (L2.CX X.prog X.w) X.stack X.prog X.w H s Q E0) s := by
    refine PySem.W.kla_callFunE hr.depth hf rfl L.co L.gen rfl ⟨c', oc, vs, t, rfl, hoc, hdc, hvc⟩ ?_
    rw [hbind]
    refine wpAny_pure (wpAny_newFunctionEnv (fun y hy => (L.own y hy).2) (fun y hy => ?_) (fun h₁ hns hsb => ⟨I.nolimit.fresh _ hsb, ?_⟩) L.kind)
    · rw [List.mem_singleton.mp hy]
      exact L.loc
    show codeAny _ _ (.expr body (lamEnv X scope s.heap.objs.size f c')) _ _
    have kp : ∀ b o, s.heap.get? b = some o → h₁.get? b = some o := fun b o e => hsb.extBut b o (Nat.ne_of_lt (Heap.lt_size e)) (Heap.get?_push_of_some _ e)
    have J : Inv (lamCx X A X.stack s H E0 scope f c') [] (σ.set io (some v)) H { s with heap := h₁, toks := s.toks + ([(x, u)] : List (Str × Value)).length } :=
      lam_start1 I L hN hio rv e0 hr.hd Un.refl hns kp
    refine PySem.W.kla_codeExpr (wpAny_mono ((hbody (hr.deeper _)).run [] _ _ H Q J h) (fun v s' hq => ?_) fun e s' hq => hq)
    obtain ⟨w', H', J', rv', q⟩ := hq
    exact ⟨w', H', J'.os, J'.bare, J'.base, J'.hok, rv', q⟩
  refine wpAny_call (codeAny_mono rc fun r s' hq => ?_)
  cases r with
  | error e =>
    obtain ⟨_, _, _, _, _, _, _, _, _, _, _, _, z⟩ := hq
    exact z.elim
  | ok fl =>
    cases fl with
    | ret u =>
      obtain ⟨v, H', os, bare, un, hok, r, q⟩ := hq
      obtain ⟨hh, g, d, t, os'⟩ := s'
      obtain rfl : os' = s.os := os
      exact ⟨v, H', I.call (h' := hh) (g' := g) (d' := d) (t' := t) (ch := []) un hok bare (fun b z => absurd z (by simp)), un, r, q⟩
    | next => exact False.elim hq
    | brk => exact False.elim hq
    | cont => exact False.elim hq
/-- the first of the greatest keys -/
def bestI (key : Nat → Int) (n : Nat) : Nat := argBest (fun i j => decide (key j < key i)) n
theorem bestI_top (key : Nat → Int) (n : Nat) : ∀ j, j ≤ n → key j ≤ key (bestI key n) := (argBest_gt key n).2
/-- max(e, key=lambda x: body) -/
def tMaxL (T : List (Addr × Str)) (ta : TA) (io : Nat) (tb : TE) : TE := fun σ H Q => ta σ H fun vs H1 => ∃ (L : Addr) (xs : List V) (key : Nat → Int), vs = [.ref L] ∧ H1 L = some (.lst xs) ∧ xs ≠ [] ∧ Tabs T H1 ∧ ∀ H2, ExtN H1 H2 → Tabs T H2 →
  (∀ i x H3, xs[i]? = some x → Same H2 H3 → tb (σ.set io (some x)) H3 fun v H4 => v = .int (key i) ∧ Same H3 H4) ∧ ∀ x, xs[bestI key (xs.length - 1)]? = some x → ∀ H3, Same H2 H3 → Q x H3
theorem pe_maxlam {T : List (Addr × Str)} {c P : Addr} {k io : Nat} {x : Str} {e : Expr} {ta : TA} {tb : TE} {params : Arguments} {body : Expr} {scope : Scope} {p lpos kp pos : Pos} (hc : X.calm = true) (hg : Gl X "max") (hm : X.mg "max" = none) (ha : PA X [e] ta)
    (TB : TabB X.base X.mg c P) (hcode : X.env.code = .ref c) (hmT : (P, X.env.qual ++ "<lambda>") ∈ T) (hu : ∀ p ∈ T, p.1 = P → p.2 = X.env.qual ++ "<lambda>") (hr : Room (k + 2) X.A) (L : LamS1 X.env.scope scope x) (hN : X.N.Nodup) (hio : X.N[io]? = some x) (hdef : defaultsOf params X.env = ([], []))
    (hbind : ∀ (q : Str) (cl : List (Str × Addr)) (pm cv ctv u : Value), bindArgs (PySem.W.kla_fn "<lambda>" q params body scope cl pm cv ctv) ⟨[u], []⟩ = pure [(x, u)])
    (hbody : ∀ (A : Around) (s : Shared) (H : Hp) (f c' : Addr), Room k (A.deeper (lamEnv X scope s.heap.objs.size f c')) → PE (lamCx X A X.stack s H E0 scope f c') body tb)
    (he : starEach [e] X.env = (false, eval e X.env) :: starEach [] X.env := by rfl) :
    PE X (.Call (.Name "max" p) [e] [⟨some "key", .Lambda params body scope lpos, kp⟩] pos) (tMaxL T ta io tb) := by
  refine ⟨fun pins s σ H Q I h => ?_⟩
  refine wpAny_Call_Name_kw (ld_blt I hg hm (by decide +kernel : bootBuiltins "max" = some (.builtin "max")) ?_)
  refine callWith_kw (thn (ha.run pos pins s σ H _ I h) fun us s1 ⟨vs, H1, I1, r1, q1⟩ => ?_) (by rw [he]; rfl) (by rw [he]; rfl)
  obtain ⟨LL, xs, key, rfl, hL1, ne, hT1, q1⟩ := q1
  obtain ⟨u, rfl, ru⟩ := vals1 r1
  obtain rfl : u = Value.ref LL := ru
  refine kws_cons (lam_make2 I1 TB hcode hmT hu hT1 hdef (L.has I1.ok) fun f c' pm ctv H2 s2 I2 eN T2 hf hfn hfr hco => ?_)
  refine kws_nil ?_
  obtain ⟨qb, q2⟩ := q1 H2 eN T2
  have hL2 : H2 LL = some (.lst xs) := eN _ _ hL1 (fun ps z => by cases z)
  show wpAny (model X.prog X.w) X.A (call (.builtin "max") [.ref LL] [(Str.ofString "key", .ref f)]) (EP X pins σ Q) X.xe s2
  refine call_max_walkK ?_
  obtain ⟨_, its, n0, vi, hli⟩ := I2.hok LL _ hL2
  have isl : s2.heap.IsList LL its.toArray := ⟨_, hli, rfl, _, rfl⟩
  have hlt : LL < s2.heap.objs.size := Heap.lt_size hli
  refine wpAny_pyIter_list isl ?_
  have hh : X.A.in1.handled = none := hr.hd
  have W := (walks_listR (prog := X.prog) (w := X.w) (A := X.A.in1) hh s2.heap.objs.size LL (Nat.ne_of_lt hlt) xs).toS
  generalize hIt : s2.heap.objs.size = It at W
  have k3 : ∀ b o, s2.heap.get? b = some o → (s2.heap.push { cls := .type "list_iterator", data := .fields #[.ref LL, .int 0 0] }).get? b = some o := fun b o e => Heap.get?_push_of_some _ e
  have I3 : Inv X pins σ H2 { s2 with heap := s2.heap.push { cls := .type "list_iterator", data := .fields #[.ref LL, .int 0 0] } } := I2.kept (t' := s2.toks) k3
  have hf3 := k3 _ _ hf
  have it3 : (s2.heap.push { cls := .type "list_iterator", data := .fields #[.ref LL, .int 0 0] }).IsListIter It LL 0 := by
    rw [← hIt]
    exact ⟨_, Heap.get?_push_size _ rfl, rfl, rfl⟩
  have is3 := isl.push { cls := .type "list_iterator", data := .fields #[.ref LL, .int 0 0] }
  have nIt : H2 It = none := by
    rw [← hIt]
    exact I2.hok.fresh (Nat.le_refl _)
  have fIt : FpOk X pins H2 It := I2.fpOk (Nat.le_of_eq hIt) nIt
  have sz3 : (s2.heap.push { cls := .type "list_iterator", data := .fields #[.ref LL, .int 0 0] }).objs.size = It + 1 := by
    rw [Heap.size_push, hIt]
  generalize s2.heap.push { cls := .type "list_iterator", data := .fields #[.ref LL, .int 0 0] } = h3 at I3 hf3 it3 is3 sz3
  have nfr : ∀ b, It ≤ b → b ∉ frs X.stack := fun b hb z => by
    rcases List.mem_cons.mp (I2.stkSub _ z) with e | e
    · have h1 := I2.lt
      rw [← e, hIt] at h1
      exact Nat.lt_irrefl _ (Nat.lt_of_lt_of_le h1 hb)
    · exact I2.nofs (by rw [hIt]; exact hb) e
  have fS : FpOk X pins H2 (It + 1) := I2.fpOk (by rw [hIt]; exact Nat.le_succ _) (I2.hok.fresh (by rw [hIt]; exact Nat.le_succ _))
  refine ⟨It, [It, LL], [It], _, xs.length, _, _, (fun s => ∃ H3, Inv X pins σ H3 s ∧ Same H2 H3 ∧ H3 It = none ∧ H3 (It + 1) = none ∧ H3 f = none ∧ s.heap.get? f = some (PySem.W.kla_obj "<lambda>" (X.env.qual ++ "<lambda>") params body scope (cloFrom X.env.cells scope.names []) pm c' ctv)), (fun i kk _ => ∃ t, kk = .int (key i) t), (fun i j => decide (key j < key i)), rfl, W, ⟨it3, _, is3, by simpa using vi⟩, ?_, ?_, ?_, ?_, ?_⟩
  · intro b hb
    show b < h3.objs.size
    rw [sz3]
    rcases List.mem_cons.mp hb with rfl | hb
    · exact Nat.lt_succ_self _
    · rw [List.mem_singleton.mp hb, ← hIt]
      exact Nat.lt_succ_of_lt hlt
  · exact Nat.pos_of_ne_zero fun z => ne (List.eq_nil_of_length_eq_zero z)
  · show KeyRun X.prog X.w X.A.in1 (.ref f) .Gt h3.objs.size [It] _ xs.length _ _ _ _ _
    rw [sz3]
    refine ⟨fun s s' hJ hm => ?_, fun i kk s s' hv _ => hv, fun i v s o Q' E' hi hP hJ hst hS cont => ?_, fun i j ki kj s Q' E' hJ hki hkj hq => ?_⟩
    · obtain ⟨H3, I4, ex, n1, n2, n3, hf4⟩ := hJ
      obtain ⟨hp, g, d, tt, os⟩ := s'
      obtain rfl : g = s.gens := hm.gens
      obtain rfl : d = s.drawn := hm.drawn
      obtain rfl : os = s.os := hm.os
      have I5 := I4.turnedL (t' := tt) (ch := [It + 1, It]) (fun b o hb e => hm.heap b o hb e) (fun b hb => by
        rcases List.mem_cons.mp hb with rfl | hb
        · exact ⟨n2, fS.2⟩
        · rw [List.mem_singleton.mp hb]
          exact ⟨n1, fIt.2⟩)
      have fl : f < It := by
        rw [← hIt]
        exact Heap.lt_size hf
      refine ⟨H3, I5, ex, n1, n2, n3, hm.heap f _ (fun z => ?_) hf4⟩
      rcases List.mem_cons.mp z with z | z
      · rw [z] at fl
        exact absurd fl (Nat.not_lt.mpr (Nat.le_succ It))
      · rw [List.mem_singleton.mp z] at fl
        exact Nat.lt_irrefl _ fl
    · obtain ⟨y, hy, ry⟩ := hP
      obtain ⟨H3, I4, ex, n1, n2, n3, hf4⟩ := hJ
      obtain ⟨hit, items, hl, hv⟩ := hst
      refine wpAny_mono (lam_call1 (k := k) I4 L hN hio hf4 (ex _ _ hco) (hbind _ _ _ _ _ _) ry I4.env0.in1 hr.in1 (fun hr' => hbody _ _ _ _ _ hr') (qb i y H3 hy ex)) (fun r s' hq => ?_) (fun _ _ z => z)
      obtain ⟨yy, H4, I5, un, ryy, rfl, ex4⟩ := hq
      obtain ⟨tt, rfl⟩ := ryy
      obtain ⟨oi, hoi, _⟩ := id hit
      have ex24 : Same H2 H4 := fun b o e => ex4 b o (ex b o e)
      obtain ⟨_, its4, n4, vi4, hli4⟩ := I5.hok LL _ (ex24 _ _ hL2)
      refine cont _ s' ⟨H4, I5, ex24, un.free It oi hoi n1 (by simp), un.free (It + 1) o hS n2 (by simp), un.free f _ hf4 n3 (by simp), un.keep f _ hf4 n3 hfr (by simp)⟩ ⟨hit.at fun o e => un.keep It o e n1 (nfr It (Nat.le_refl _)) (by simp), its4.toArray, ⟨_, hli4, rfl, _, rfl⟩, by simpa using vi4⟩ (un.keep (It + 1) o hS n2 (nfr _ (Nat.le_succ _)) (by simp)) ⟨_, rfl⟩ (fun j k' h => h)
    · obtain ⟨ti, rfl⟩ := hki
      obtain ⟨tj, rfl⟩ := hkj
      exact PySem.P.gt_int hq
  · exact ⟨H2, I3, fun _ _ e => e, nIt, fS.1, hfn, hf3⟩
  · intro v s' hP hJ
    obtain ⟨y, hy, ry⟩ := hP
    obtain ⟨H3, I4, ex, _⟩ := hJ
    exact ⟨y, H3, I4, ry, q2 y hy H3 ex⟩
end
end Rc

namespace Rc
open PySem PySem.Spec PyProof.Rows L2 LamX
/-- the law's own heap at its entry: the script, and empty tables -/
def entryT (K : PySem.W.Frag) (ts : List Addr) (a : Addr) (o : Obj) (xs : List V) : Hp := fun b => if b ∈ ts then some (.tbl #[]) else entryH K a o xs b
/-- a law called where no repr is under way, with tables of code: cs, the code objects and their tables -/
theorem law_callGT {P : Program} {w : World} {K : PySem.W.Frag} {mg mb : Str → Option Value} {CX : CXT} {k : Nat} {fa a : Addr} {cs : List (Addr × Addr)} {fd : FuncData} {x : Str} {sp : Sp} {s₁ : Shared} {vs : List Value} {ns : List Int}
    (KX : K.In s₁.heap) (hns : s₁.heap.Ns mainGlobals mg) (hb : s₁.heap.Ns builtinsNs mb) (hbb : ∀ x : Str, x ≠ "__name__" → mb x = bootBuiltins x) (hlim : s₁.heap.NoLimit) (hg : s₁.gens = #[])
    (hT : ∀ p ∈ cs, s₁.heap.get? p.2 = some { cls := .none, data := .fields #[] }) (nT : ∀ p ∈ cs, K.lookup p.2 = none) (C : ∀ p ∈ cs, PySem.W.CodeHd s₁.heap p.1 p.2)
    (hbm : ∃ (bm : Addr) (ob : Obj), mg "__builtins__" = some (.ref bm) ∧ bm ≠ builtinsNs ∧ s₁.heap.get? bm = some ob ∧ ob.cls = .type "module" ∧ ob.dict = some builtinsNs ∧ ob.data = .plain)
    (ha : s₁.heap.get? a = some { cls := .type "list", data := .seq vs.toArray }) (hi : IntsAre vs ns) (hl : ns.length ≤ sizeLine) (hr : Room k callerA)
    (F : ∀ base : Heap, K.In base → base.Ns mainGlobals mg → (∀ p ∈ cs, TabB base mg p.1 p.2) → FnG P w K mg base CX k fa fd [x] sp) (hbind : ∀ (s : Shared) (u : Value), BindsTo s fd ⟨[u], []⟩ [(x, u)])
    (hsp : ∀ H : Hp, (∀ p ∈ cs, H p.2 = some (.tbl #[])) → SqL K H a (ns.map V.int) → sp [.ref a] H (fun v _ => v = .bl true) fun _ _ _ => False)
    (hCX : ∀ H e s', CX [] H s₁ (fun _ _ _ => False) e s' → False) :
    codeAny (model P w) callerA (.call (.ref fa) ⟨[.ref a], []⟩) (fun r s' => r = .ok (.ret (.bool true)) ∧ OldK s₁.heap s'.heap ∧ s'.os = s₁.os ∧ AllBare s'.gens) s₁ := by
  have rv := vals_ints hi
  have lv := hi.length
  have tab : ∀ {b : Addr}, b ∈ cs.map (·.2) → s₁.heap.get? b = some { cls := .none, data := .fields #[] } := fun {b} z => by
    obtain ⟨p, hp, rfl⟩ := List.mem_map.mp z
    exact hT p hp
  have mem : ∀ {p : Addr × Addr}, p ∈ cs → p.2 ∈ cs.map (·.2) := fun {p} hp => List.mem_map.mpr ⟨p, hp, rfl⟩
  have na : a ∉ cs.map (·.2) := fun z => by
    have e := tab z
    rw [ha] at e
    cases e
  generalize hH : entryT K (cs.map (·.2)) a { cls := .type "list", data := .seq vs.toArray } (ns.map V.int) = H
  have hat : ∀ {b : Addr} {u : HO}, H b = some u → (b ∈ cs.map (·.2) ∧ u = .tbl #[]) ∨ (b = a ∧ K.lookup a = none ∧ u = .frz { cls := .type "list", data := .seq vs.toArray } (.lst (ns.map V.int))) := fun {b u} e => by
    rw [← hH] at e
    unfold entryT at e
    split at e
    · rename_i z
      exact .inl ⟨z, (Option.some.inj e).symm⟩
    · exact .inr (entryH_at e)
  have hTb : ∀ p ∈ cs, H p.2 = some (.tbl #[]) := fun p hp => by
    rw [← hH]
    exact if_pos (mem hp)
  have sq : SqL K H a (ns.map V.int) := by
    cases hk : K.lookup a with
    | none =>
      refine .inl (.inr ⟨{ cls := .type "list", data := .seq vs.toArray }, ?_⟩)
      rw [← hH]
      exact (if_neg na).trans (if_pos ⟨rfl, hk⟩)
    | some o =>
      have e := KX a o hk
      rw [ha] at e
      cases e
      exact .inr ⟨_, vs.toArray, _, hk, rfl, rfl, rfl, by rw [List.size_toArray, lv]; exact hl, by simpa using rv⟩
  have hok : HOk P w H s₁.heap := fun b u e => by
    rcases hat e with ⟨z, rfl⟩ | ⟨rfl, _, rfl⟩
    · exact tab z
    · exact ⟨ha, by rw [List.length_map]; exact hl, vs, _, rv, ha⟩
  -- what is neither a list of values nor an empty table is not tracked
  have away : ∀ {b : Addr} {o : Obj}, s₁.heap.get? b = some o → (∀ z n, o.data ≠ .seq z n) → o.data ≠ .fields #[] → H b = none := fun {b o} e d1 d2 => by
    cases q : H b with
    | none => rfl
    | some u =>
      rcases hat q with ⟨z, _⟩ | ⟨rfl, _, _⟩
      · rw [tab z] at e
        cases e
        exact (d2 rfl).elim
      · rw [ha] at e
        cases e
        exact (d1 _ _ rfl).elim
  have nsK : ∀ {b : Addr} {m : Str → Option Value}, s₁.heap.Ns b m → (hidT s₁.heap H).Ns b m :=
    fun {b m} z => let ⟨o, es, ep, e, d, r⟩ := z; ⟨o, es, ep, hidT_get e (away e (fun z n y => by rw [d] at y; cases y) (fun y => by rw [d] at y; cases y)), d, r⟩
  have kb : K.In (hidT s₁.heap H) := fun b o e => hidT_get (KX b o e) (by
    cases q : H b with
    | none => rfl
    | some u =>
      rcases hat q with ⟨z, _⟩ | ⟨rfl, z, _⟩
      · obtain ⟨p, hp, rfl⟩ := List.mem_map.mp z
        rw [nT p hp] at e
        cases e
      · rw [z] at e
        cases e)
  have md : Mod K mg (hidT s₁.heap H) := ⟨kb, nsK hns, ⟨mb, nsK hb, hbb⟩, let ⟨mc, h1, h2⟩ := hlim; ⟨mc, nsK h1, h2⟩⟩
  have TB : ∀ p ∈ cs, TabB (hidT s₁.heap H) mg p.1 p.2 := fun p hp => by
    obtain ⟨gO, gE, gP, ge, gd, _⟩ := id hns
    have mp : mainGlobals ≠ p.2 := fun z => by
      rw [z, hT p hp] at ge
      cases ge
      cases gd
    refine ⟨?_, ?_, mp⟩
    · obtain ⟨o, us, file, tf, flags, tg, inF, text, tt, e1, r1, r2, r3, r4, r5, r6, r7, r8, r9⟩ := C p hp
      refine ⟨o, us, file, tf, flags, tg, inF, text, tt, hidT_get e1 (away e1 (fun z n y => by rw [r2] at y; cases y) fun y => ?_), r1, r2, r3, r4, r5, r6, r7, r8, r9⟩
      rw [r2] at y
      cases y
      simp at r3
    · obtain ⟨bm, ob, b1, b2, b3, b4, b5, b6⟩ := hbm
      refine ⟨bm, ob, b1, b2, fun z => ?_, fun z => ?_, hidT_get b3 (away b3 (fun z n y => by rw [b6] at y; cases y) fun y => by rw [b6] at y; cases y), b4, b5, b6⟩
      · rw [z, ge] at b3
        cases b3
        rw [gd] at b6
        cases b6
      · rw [z, hT p hp] at b3
        cases b3
        cases b6
  have e0 : Env0 P w K mg (hidT s₁.heap H) callerA [] s₁ H :=
    { frames := rfl, mod := md, bs := fun b o e => of_hidT e, bsz := Nat.le_of_eq (hidT_size _ _), funs := trivial, frf := fun b z => absurd (show b ∈ ([] : List Addr) from z) (by simp), hok := hok, bare := .of_eq hg }
  refine codeAny_mono ((F _ kb (nsK hns) TB).go callerA [] s₁ H ⟨[.ref a], []⟩ [.ref a] [.ref a] _ _ hr rfl e0 (hbind s₁ (.ref a)) (.cons rfl .nil) (hsp H hTb sq)) fun r s' h => ?_
  match r, h with
  | .error e, h => exact (hCX H e s' h).elim
  | .ok .next, h => exact h.elim
  | .ok .brk, h => exact h.elim
  | .ok .cont, h => exact h.elim
  | .ok (.ret u), h =>
    obtain ⟨v, H', os, bare, un, hok', r', q⟩ := h
    have q' : v = .bl true := q
    subst q'
    obtain rfl : u = Value.bool true := r'
    have rest : ∀ b o, b ∉ cs.map (·.2) → s₁.heap.get? b = some o → s'.heap.get? b = some o := fun b o nb e => by
      cases z : H b with
      | none => exact un.keep b o e z (fun y => absurd (show b ∈ ([] : List Addr) from y) (by simp)) (by simp)
      | some u =>
        rcases hat z with ⟨y, _⟩ | ⟨rfl, _, rfl⟩
        · exact absurd y nb
        · have e2 := (hok' _ _ (un.frzs _ _ _ z)).1
          rw [ha] at e
          cases e
          exact e2
    have grown : ∀ p ∈ cs, ∃ more : Array Value, s'.heap.get? p.2 = some { cls := .none, data := .fields more } := fun p hp => by
      obtain ⟨more, z⟩ := un.tbls p.2 #[] (hTb p hp)
      exact ⟨_, hok' p.2 _ z⟩
    refine ⟨rfl, ⟨fun b o e => ?_, fun b o e => ?_⟩, os, bare⟩
    · by_cases hm : b ∈ cs.map (·.2)
      · obtain ⟨p, hp, rfl⟩ := List.mem_map.mp hm
        obtain ⟨more, z⟩ := grown p hp
        rw [hT p hp] at e
        cases e
        exact .inr (.inl ⟨((C p hp).tab (hT p hp)).isCodeTable, rfl, #[], more, rfl, by rw [Array.empty_append]; exact z⟩)
      · exact .inl (rest b o hm e)
    · by_cases hm : b ∈ cs.map (·.2)
      · obtain ⟨p, hp, rfl⟩ := List.mem_map.mp hm
        obtain ⟨more, z⟩ := grown p hp
        exact ⟨_, z⟩
      · exact ⟨o, rest b o hm e⟩
/-- what a law's end file must bring, tables of code among it -/
def LawAtG (l : PySem.W.OpenLaw) (w : World) (K : PySem.W.Frag) (CX : CXT) (k n : Nat) (x : Str) (mg : Str → Option Value) (fa : Addr) (h : Heap) : Prop :=
  ∃ (fd : FuncData) (cs : List (Addr × Addr)) (sp : Sp), (∀ p ∈ cs, h.get? p.2 = some { cls := .none, data := .fields #[] } ∧ K.lookup p.2 = none ∧ PySem.W.CodeHd h p.1 p.2) ∧ (∀ (s : Shared) (u : Value), BindsTo s fd ⟨[u], []⟩ [(x, u)]) ∧
    (∀ (H : Hp) (a : Addr) (ns : List Int), ns.length ≤ n → (∀ p ∈ cs, H p.2 = some (.tbl #[])) → SqL K H a (ns.map V.int) → sp [.ref a] H (fun v _ => v = .bl true) fun _ _ _ => False) ∧
    ∀ base : Heap, K.In base → base.Ns mainGlobals mg → (∀ p ∈ cs, TabB base mg p.1 p.2) → FnG l.prog w K mg base CX k fa fd [x] sp
theorem walk_ofGT {l : PySem.W.OpenLaw} {n k : Nat} {q : Program} {loose : List Str} {XP : (Str → Option Value) → Heap → Prop} {YP : World → Heap → Prop} {d : DefRec} {K : Params → PySem.W.Frag} {CX : World → CXT} {x : Str}
    (hn : l.most = some n) (hn2 : n ≤ sizeLine) (hdf : d.params.defaults = []) (hr : Room k callerA) (hY : ∀ (w : World) (h : Heap), YP w h → (K w.params).In h)
    (F : ∀ (w : World) (mg : Str → Option Value) (fa : Addr) (h : Heap), YP w h → (K w.params).In h → h.Ns mainGlobals mg → mg d.name = some (.ref fa) → LawAtG l w (K w.params) (CX w) k n x mg fa h)
    (hCX : ∀ (w : World) (H : Hp) (s : Shared) (e : Value) (s' : Shared), CX w [] H s (fun _ _ _ => False) e s' → False) :
    PySem.W.WalkO q loose XP YP l.row.toRowW d [] (fun f vs => PySem.call f vs) := by
  refine Att.attach_call hn hdf fun w s₀ s₁ mg mb fa o pm cd doc a vs ns G Y ho hd hcd hmg hobj hints hlen hg => ?_
  obtain ⟨fd, cs, sp, hT, b1, hsp, b2⟩ := F w mg fa _ Y (hY w _ Y) G.T.g hmg
  exact law_callGT (hY w _ Y) G.T.g G.T.b G.T.builtins G.T.nolimit hg (fun p hp => (hT p hp).1) (fun p hp => (hT p hp).2.1) (fun p hp => (hT p hp).2.2) G.T.bmain hobj hints (Nat.le_trans hlen hn2) hr b2 b1 (fun H hH hS => hsp H a ns hlen hH hS) fun H e s' => hCX w H s₁ e s'
end Rc

namespace Rc
open PySem PySem.Spec PyProof.Rows L2 RZ
def abcS : Str := "abcdefghijklmnopqrstuvwxyz"
theorem abcS_len : abcS.length = 26 := by decide +kernel
theorem abcS_abc : abcS.cps.toList = abc := letters_abc
theorem nodup_le {α : Type} [DecidableEq α] : ∀ (l zs : List α), l.Nodup → (∀ x ∈ l, x ∈ zs) → l.length ≤ zs.length
  | [], _, _, _ => Nat.zero_le _
  | a :: r, zs, nd, h => by
    have hn := List.nodup_cons.mp nd
    have ha : a ∈ zs := h a List.mem_cons_self
    have ih := nodup_le r (zs.erase a) hn.2 fun x hx => by
      have ne : x ≠ a := fun e => hn.1 (e ▸ hx)
      exact (List.mem_erase_of_ne ne).mpr (h x (List.mem_cons_of_mem _ hx))
    rw [List.length_erase_of_mem ha] at ih
    have : 0 < zs.length := List.length_pos_of_mem ha
    rw [List.length_cons]
    omega
def oneS (c : Nat) : Str := ⟨#[c]⟩
theorem oneS_name {c : Nat} (h : c ∈ abc) : nameT (oneS c) = true := by
  have e1 : (oneS c).length = 1 := rfl
  have e2 : (oneS c).cps.toList = [c] := rfl
  unfold nameT
  rw [e1, e2]
  simp [h]
theorem abc_nodup : (abc.map oneS).Nodup := by decide +kernel
/-- some letter is not among thirteen names -/
theorem free_letter {zs : List Str} (h : zs.length ≤ 13) : (abc.filter fun c => !decide (oneS c ∈ zs)) ≠ [] := fun e => by
  have hall : ∀ x ∈ abc.map oneS, x ∈ zs := fun x hx => by
    obtain ⟨c, hc, rfl⟩ := List.mem_map.mp hx
    by_cases hz : oneS c ∈ zs
    · exact hz
    · have hm : c ∈ abc.filter fun c => !decide (oneS c ∈ zs) := List.mem_filter.mpr ⟨hc, by simp [hz]⟩
      rw [e] at hm
      cases hm
  have := nodup_le _ _ abc_nodup hall
  rw [List.length_map] at this
  have e26 : abc.length = 26 := by decide
  omega
theorem nameT_of {z : Str} (h1 : 1 ≤ z.length) (h2 : z.length ≤ 8) (h3 : ∀ c ∈ z.cps.toList, c ∈ abc) : nameT z = true := by
  unfold nameT
  rw [decide_eq_true h1, decide_eq_true h2]
  simp only [Bool.true_and, List.all_eq_true, decide_eq_true_eq]
  exact h3
def wordsL : List Str := ["person", "persons", "pay", "clear", "settle", "put", "give", "yes"]
theorem words_ok : ∀ z ∈ wordsL, nameT z = true := by decide +kernel
section
variable {P : Program} {w : World} {K : PySem.W.Frag} {mg : Str → Option Value} {base : Heap}
/-! ### _law_name -/
abbrev sLNm : Stmt := topS 25
abbrev nLNm : List Str := ["_law_pot_here", "_law_used", "_law_letters", "_law_name_here", "_law_k", "_law_letter"]
theorem scLNm : FnScope nLNm ["_law_pot_here", "_law_used"] (defScope sLNm) := ⟨rfl, rfl, rfl, by decide +kernel, rfl, by decide +kernel, by decide +kernel⟩
def spLNm : Sp := fun vs H Q _ => ∃ p u zs, vs = [.ref p, .ref u] ∧ Pot H p ∧ u ≠ p ∧ H u = some (.lst (List.map V.str zs)) ∧ zs.length ≤ 13 ∧ ∀ z H', nameT z = true → z ∉ zs → Pot H' p → But p H H' → Q (.str z) H'
theorem ok_lnm {f fT : Addr} {fd fdT : FuncData} (F : Fun K "_law_name" "_law_name" sLNm f fd) (B : Blt mg) (B2 : Blt2 mg) (T : HasTake P w K mg base fT fdT) : FnOk P w K mg base CX0 2 f fd ["_law_pot_here", "_law_used"] spLNm := by
  refine F.ok scLNm (fun vs H Q E h => ?_) (fun cdv Ar outer s H vs Q E hr h => ?_)
  · obtain ⟨_, _, _, rfl, _⟩ := h
    rfl
  · obtain ⟨p, u, zs, rfl, hp, up, hu, hz, q⟩ := h
    refine ⟨_, pss_cons (ps_set (i := 2) scLNm.nd rfl (.inr rfl) pe_str)
      (pss_cons (ps_set (i := 3) scLNm.nd rfl (.inl rfl) (pe_join pe_str
        (pe_lc (own := [("_law_k", 4)]) (g := gName 4) (tt := tYes) rfl scLNm.nd (pi_range1 (by rfl) B2.range (pa_cons (pe_op op_add pe_int (pe_call T.ok hr (by rfl) T.g T.kp T.b .nil pass0 (pa_cons (pv 0) (pa_cons pe_int pa_nil)))) pa_nil))
          (blkOk_by (N := nLNm) (sc := defScope sLNm) (own := [("_law_k", 4)]) (by decide +kernel))
          (fun _ _ _ _ _ => pg_name (i := 4) scLNm.nd rfl (.inl rfl)) (fun _ _ _ _ _ => pts_nil)
          (fun _ _ _ _ _ => pe_ix ix_str (pv 2) (pe_call T.ok hr (by rfl) T.g T.kp T.b .nil pass0 (pa_cons (pv 0) (pa_cons pe_int pa_nil))) (fun _ _ => rfl)))))
      (C8.pss_cut (ps_if (pt_cmpR op_eq (pe_call T.ok hr (by rfl) T.g T.kp T.b .nil pass0 (pa_cons (pv 0) (pa_cons pe_int pa_nil))) pe_int (nomark _))
        (pss_one (ps_set (i := 3) scLNm.nd rfl (.inl rfl) (pe_ix ix_list (pe_lst (pa_cons pe_str (pa_cons pe_str (pa_cons pe_str (pa_cons pe_str (pa_cons pe_str (pa_cons pe_str (pa_cons pe_str (pa_cons pe_str pa_nil)))))))))
          (pe_call T.ok hr (by rfl) T.g T.kp T.b .nil pass0 (pa_cons (pv 0) (pa_cons pe_int pa_nil))) (fun _ _ => rfl)))) pss_nil)
      (pss_cons (ps_if (pt_cmpR op_in_seq (pv 3) (pv 1) (by rfl))
        (pss_one (ps_ret (pe_ix ix_list (pe_lc (own := [("_law_letter", 5)]) (g := gName 5) (tt := tTest (tOp (rIn K true) (tVar 5) (tVar 1))) (te := tVar 5) rfl scLNm.nd (pi_str (pv 2)) (blkOk_by (N := nLNm) (sc := defScope sLNm) (own := [("_law_letter", 5)]) (by decide +kernel))
          (fun _ _ _ _ _ => pg_name (i := 5) scLNm.nd rfl (.inl rfl)) (fun _ _ _ _ _ => pts_one (pt_cmpR op_notIn_seq (pv 5) (pv 1) (by rfl))) (fun _ _ _ _ _ => pv 5)) pe_int (fun _ _ => rfl)))) pss_nil)
      (pss_one (ps_ret (pv 3)))))), ?_⟩
    refine ⟨⟨_, rfl⟩, .ref p, rfl, p, 8, rfl, hp, litM _ (by decide) (by decide), fun d H1 d0 d1 hp1 hb1 => ⟨_, _, rfl, rfl, 1 + d, rfl, by omega, by omega, fun D nD => ?_⟩⟩
    have nDp : D ≠ p := by
      obtain ⟨x, y, e, _⟩ := hp1
      exact (ne_of_none e nD).symm
    refine lc_it walk_range (fun i H' => ∃ cs : List Nat, cs.length = i ∧ (∀ c ∈ cs, c ∈ abc) ∧ H' D = some (.lst (cs.map fun c => .str ⟨#[c]⟩)) ∧ Pot H' p ∧ But p H H')
      ⟨[], rfl, fun c hc => absurd hc List.not_mem_nil, upd_same, hp1.new nD, hb1.trans (But.new nD)⟩ (fun _ _ _ _ => trivial) (fun i x H2 H3 hi hP hY => ?_) (fun H2 hP => ?_)
    · obtain ⟨rfl, rfl⟩ := hY
      obtain ⟨cs, lc, hc, hD, hp2, hb2⟩ := hP
      refine ⟨rfl, .str abcS, rfl, .ref p, rfl, p, 26, rfl, hp2, litM _ (by decide) (by decide), fun e H4 e0 e1 hp4 hb4 => ?_⟩
      have el : abcS.cps.toList.length = 26 := abcS_len
      obtain ⟨c, p1, p2⟩ := pick (xs := abcS.cps.toList) e0 (by rw [el]; exact e1)
      refine ⟨abcS, e, c, rfl, rfl, small_line (by rw [abcS_len]; decide), p1, _, hb4 _ _ nDp hD, ?_, cs ++ [c], by rw [List.length_append, lc]; rfl, fun k hk => ?_, ?_, ?_, fun b o n eb => ?_⟩
      · rw [List.length_map, lc]
        exact small1000 (by omega)
      · rcases List.mem_append.mp hk with z | z
        · exact hc k z
        · rw [List.mem_singleton.mp z, ← abcS_abc]
          exact p2
      · rw [upd_same, List.map_append]
        rfl
      · obtain ⟨x, y, z, r⟩ := hp4
        exact ⟨x, y, by rw [upd_ne nDp.symm]; exact z, r⟩
      · have nb : b ≠ D := ne_of_none (hb1 b o n eb) nD
        rw [upd_ne nb]
        exact hb4 _ _ n (hb2 _ _ n eb)
    · obtain ⟨cs, lc, hc, hD, hp2, hb2⟩ := hP
      have ej := join_ones cs
      have nm : nameT (Txt.join "" (cs.map fun c => (⟨#[c]⟩ : Str))) = true := by
        have el : (Txt.join "" (cs.map fun c => (⟨#[c]⟩ : Str))).length = cs.length := by
          show (Txt.join "" (cs.map fun c => (⟨#[c]⟩ : Str))).cps.size = cs.length
          rw [← Array.length_toList, ej]
        refine nameT_of (by rw [el]; omega) (by rw [el]; omega) (by rw [ej]; exact hc)
      refine ⟨"", D, cs.map fun c => ⟨#[c]⟩, rfl, rfl, .inl (.inl (.inl (by rw [hD, List.map_map]; rfl))), ?_, ?_⟩
      · rw [lens_ones]
        show cs.length + _ * 0 ≤ _
        omega
      generalize Txt.join "" (cs.map fun c => (⟨#[c]⟩ : Str)) = z at nm
      refine ⟨fun σ' H' => ∃ z' y4 y5, σ' = [some (.ref p), some (.ref u), some (.str abcS), some (.str z'), y4, y5] ∧ nameT z' = true ∧ Pot H' p ∧ But p H H', ?_, ?_⟩
      · refine ⟨.ref p, rfl, p, 8, rfl, hp2, litM _ (by decide) (by decide), fun k H3 k0 k1 hp3 hb3 => ⟨rfl, _, rfl, ite2 (fun e => ?_) (fun e => ?_)⟩⟩
        · refine ⟨by show 8 ≤ sizeLine; decide, fun l nl => ?_⟩
          have nlp : l ≠ p := by
            obtain ⟨x, y, e, _⟩ := hp3
            exact (ne_of_none e nl).symm
          refine ⟨.ref p, rfl, p, 8, rfl, hp3.new nl, litM _ (by decide) (by decide), fun e H5 e0 e1 hp5 hb5 => ?_⟩
          obtain ⟨v, p1, p2⟩ := pick (xs := wordsL.map V.str) e0 e1
          refine ⟨l, _, e, v, rfl, rfl, .inl (.inl (hb5 _ _ nlp upd_same)), p1, ?_⟩
          obtain ⟨z', hz', rfl⟩ := List.mem_map.mp p2
          exact ⟨z', _, _, rfl, words_ok z' hz', hp5, hb2.trans (hb3.trans ((But.new nl).trans hb5))⟩
        · exact ⟨z, _, _, rfl, nm, hp3, hb2.trans hb3⟩
      · rintro σ' H' ⟨z', y4, y5, rfl, nm', hp', hb'⟩
        have hu' := hb' _ _ up hu
        refine ⟨.str z', rfl, .ref u, rfl, u, _, rfl, .inl (.inl (.inl hu')), rfl, flat_strs _, _, rfl, ?_⟩
        show if inV (.str z') (zs.map V.str) = true then _ else _
        rw [inV_strs]
        refine ite2 (fun e => ?_) (fun e => ?_)
        · refine ⟨.str abcS, rfl, abcS, rfl, fun D' nD' => ?_⟩
          refine lc_it walk_str (fun i H'' => Same H' H'' ∧ H'' D' = some (.lst (((abc.take i).filter fun c => !decide (oneS c ∈ zs)).map fun c => .str (oneS c)))) ⟨same_upd nD', upd_same⟩ (fun _ _ _ _ => trivial) (fun i x H3' H3 hi hP hY => ?_) (fun H3 hP => ?_)
          · obtain ⟨rfl, c, hc', rfl⟩ := hY
            have hc2 : abc[i]? = some c := by
              rw [← abcS_abc, Array.getElem?_toList]
              exact hc'
            refine ⟨rfl, _, rfl, .ref u, rfl, u, _, rfl, .inl (.inl (.inl (hP.1 _ _ hu'))), rfl, flat_strs _, _, rfl, ?_⟩
            have tk : abc.take (i + 1) = abc.take i ++ [c] := by
              rw [List.take_add_one, hc2]
              rfl
            show if (!inV (.str (oneS c)) (zs.map V.str)) = true then _ else _
            rw [inV_strs]
            refine ite2 (fun e' => ?_) (fun e' => ?_)
            · refine ⟨_, rfl, _, hP.2, ?_, fun b o eb => ?_, ?_⟩
              · rw [List.length_map]
                have h1 := List.length_filter_le (fun c => !decide (oneS c ∈ zs)) (abc.take i)
                have h2 : (abc.take i).length ≤ 26 := by
                  rw [List.length_take]
                  exact Nat.min_le_right _ _
                exact small1000 (by omega)
              · rw [upd_ne (ne_of_none eb nD')]
                exact hP.1 b o eb
              · rw [upd_same, tk, List.filter_append, List.map_append]
                simp only [List.filter_cons, e', if_true, List.filter_nil, List.map_cons, List.map_nil]
                rfl
            · refine ⟨hP.1, ?_⟩
              rw [hP.2, tk, List.filter_append]
              simp only [List.filter_cons, e', List.filter_nil, Bool.false_eq_true, if_false, List.append_nil]
          · have esz : abc.take abcS.cps.size = abc := List.take_of_length_le (by decide +kernel)
            rw [esz] at hP
            have ne := free_letter hz
            cases hl : (abc.filter fun c => !decide (oneS c ∈ zs)) with
            | nil => exact absurd hl ne
            | cons c r =>
              have hm : c ∈ abc.filter fun c => !decide (oneS c ∈ zs) := by
                rw [hl]
                exact List.mem_cons_self
              obtain ⟨m1, m2⟩ := List.mem_filter.mp hm
              rw [hl] at hP
              refine ⟨D', _, 0, .str (oneS c), rfl, rfl, .inl (.inl hP.2), atI_nat (j := 0) rfl, ?_⟩
              exact q _ _ (oneS_name m1) (by simpa using m2) (hp'.same hP.1) (hb'.trans (same_but hP.1))
        · exact ⟨_, rfl, q z' H' nm' (fun c => e (decide_eq_true c)) hp' hb'⟩
end
end Rc

namespace Rc
open PySem PySem.Spec PyProof.Rows L2 RZ
section
variable {P : Program} {w : World} {K : PySem.W.Frag} {mg : Str → Option Value} {base : Heap}
/-! ### _law_names -/
abbrev sLNms : Stmt := topS 26
theorem scLNms : FnScope ["_law_pot_here", "_law_many", "_law_found", "_law_k"] ["_law_pot_here", "_law_many"] (defScope sLNms) := ⟨rfl, rfl, rfl, by decide +kernel, rfl, by decide +kernel, by decide +kernel⟩
def spLNms : Sp := fun vs H Q _ => ∃ (p : Addr) (m : Nat), vs = [.ref p, .int (m : Nat)] ∧ Pot H p ∧ m ≤ 13 ∧ ∀ r zs H', H r = none → r ≠ p → H' r = some (.lst (List.map V.str zs)) → zs.length = m → zs.Nodup → (∀ z ∈ zs, nameT z = true) → Pot H' p → But p H H' → Q (.ref r) H'
theorem ok_lnms {f fN : Addr} {fd fdN : FuncData} (F : Fun K "_law_names" "_law_names" sLNms f fd) (B2 : Blt2 mg) (N : Has P w K mg base 2 "_law_name" ["_law_pot_here", "_law_used"] spLNm fN fdN) :
    FnOk P w K mg base CX0 3 f fd ["_law_pot_here", "_law_many"] spLNms := by
  refine F.ok scLNms (fun vs H Q E h => ?_) (fun cdv Ar outer s H vs Q E hr h => ?_)
  · obtain ⟨_, _, rfl, _⟩ := h
    rfl
  · obtain ⟨p, m, rfl, hp, hm, q⟩ := h
    refine ⟨_, pss_cons (ps_set (i := 2) scLNms.nd rfl (.inl rfl) (pe_lst pa_nil))
      (pss_cons (ps_for PassesOwn.never rfl (pi_range1 (by rfl) B2.range (pa_cons (pv 1) pa_nil)) (pg_name (i := 3) scLNms.nd rfl (.inl rfl))
        (pss_one (ps_expr (pe_bm PySem.F.plainAttrs_list PySem.F.slot_list_append PySem.F.type_list_append mt_append (pv 2) (pa_cons (pe_call N.ok hr (by rfl) N.g N.kp N.b .nil pass0 (pa_cons (pv 0) (pa_cons (pv 2) pa_nil))) pa_nil)))))
      (pss_one (ps_ret (pv 2)))), ?_⟩
    refine ⟨Nat.zero_le _, fun r nr => ?_⟩
    have rp : r ≠ p := by
      obtain ⟨x, y, e, _⟩ := hp
      exact (ne_of_none e nr).symm
    refine ⟨_, rfl, _, rfl, by omega, by omega, ?_⟩
    refine for_it walk_range (fun i σ H' => ∃ zs y3, σ = [some (.ref p), some (.int (m : Nat)), some (.ref r), y3] ∧ H' r = some (.lst (List.map V.str zs)) ∧ zs.length = i ∧ zs.Nodup ∧ (∀ z ∈ zs, nameT z = true) ∧ Pot H' p ∧ But p H H')
      ⟨[], _, rfl, upd_same, rfl, List.nodup_nil, fun z hz => absurd hz List.not_mem_nil, hp.new nr, But.new nr⟩ (fun _ _ _ _ _ => trivial) (fun i x σ H1' H1 hi hP hY => ?_) (fun σ H1 hP => ?_)
    · obtain ⟨rfl, rfl⟩ := hY
      obtain ⟨zs, y3, rfl, hr1, lz, nd, nm, hp1, hb1⟩ := hP
      have hi' : i < m := by simpa using hi
      refine ⟨.ref r, rfl, .inl ⟨rfl, _, .inl (.inl hr1)⟩, .ref p, rfl, .ref r, rfl, p, r, zs, rfl, hp1, rp, hr1, by omega, fun z H2 nz nin hp2 hb2 => ?_⟩
      refine ⟨r, _, _, rfl, rfl, hb2 _ _ rp hr1, by rw [List.length_map]; exact small1000 (by omega), ?_⟩
      refine ⟨zs ++ [z], _, rfl, by rw [upd_same, List.map_append]; rfl, by rw [List.length_append, lz]; rfl, ?_, fun y hy => ?_, ?_, fun b o n e => ?_⟩
      · rw [List.nodup_append]
        refine ⟨nd, by simp, fun a ha b hb e => ?_⟩
        rw [List.mem_singleton.mp hb] at e
        exact nin (e ▸ ha)
      · rcases List.mem_append.mp hy with h | h
        · exact nm y h
        · rw [List.mem_singleton.mp h]
          exact nz
      · obtain ⟨x, y, e, rr⟩ := hp2
        exact ⟨x, y, by rw [upd_ne rp.symm]; exact e, rr⟩
      · rw [upd_ne (ne_of_none e nr)]
        exact hb2 _ _ n (hb1 _ _ n e)
    · obtain ⟨zs, y3, rfl, hr1, lz, nd, nm, hp1, hb1⟩ := hP
      exact ⟨.ref r, rfl, q r zs H1 nr rp hr1 (by simpa using lz) nd nm hp1 hb1⟩
end
end Rc

namespace Rc
open PySem PySem.Spec PyProof.Rows L2 RZ
section
variable {P : Program} {w : World} {K : PySem.W.Frag} {mg : Str → Option Value} {base : Heap}
/-! ### _law_amount -/
abbrev sLAm : Stmt := topS 28
theorem scLAm : FnScope ["_law_pot_here", "_law_size", "_law_kind"] ["_law_pot_here", "_law_size"] (defScope sLAm) := ⟨rfl, rfl, rfl, by decide +kernel, rfl, by decide +kernel, by decide +kernel⟩
def Amt (n : Int) : Prop := 1 ≤ n ∧ n ≤ 10 ^ 58
def spLAm : Sp := fun vs H Q _ => ∃ (p : Addr) (s : Int), vs = [.ref p, .int s] ∧ (s = 0 ∨ s = 1) ∧ Pot H p ∧ ∀ n H', Amt n → Pot H' p → But p H H' → Q (.int n) H'
theorem ok_lam {f fT : Addr} {fd fdT : FuncData} (F : Fun K "_law_amount" "_law_amount" sLAm f fd) (T : HasTake P w K mg base fT fdT) : FnOk P w K mg base CX0 2 f fd ["_law_pot_here", "_law_size"] spLAm := by
  refine F.ok scLAm (fun vs H Q E h => ?_) (fun cdv Ar outer s H vs Q E hr h => ?_)
  · obtain ⟨_, _, rfl, _⟩ := h
    rfl
  · obtain ⟨p, sz, rfl, hsz, hp, q⟩ := h
    refine ⟨_, pss_cons (ps_set (i := 2) scLAm.nd rfl (.inl rfl) (pe_call T.ok hr (by rfl) T.g T.kp T.b .nil pass0 (pa_cons (pv 0) (pa_cons pe_int pa_nil))))
      (pss_one (ps_ret (pe_op op_add pe_int (pe_call T.ok hr (by rfl) T.g T.kp T.b .nil pass0 (pa_cons (pv 0) (pa_cons
        (pe_ix ix_list (pe_ix ix_list (pe_lst (pa_cons (pe_lst (pa_cons pe_int (pa_cons pe_int (pa_cons pe_int (pa_cons pe_int pa_nil))))) (pa_cons (pe_lst (pa_cons pe_int (pa_cons pe_int (pa_cons pe_int (pa_cons (pe_op op_pow pe_int pe_int) pa_nil))))) pa_nil))) (pv 1) (fun _ _ => rfl)) (pv 2) (fun _ _ => rfl)) pa_nil)))))), ?_⟩
    refine ⟨.ref p, rfl, p, 4, rfl, hp, litM _ (by decide) (by decide), fun d H1 d0 d1 hp1 hb1 => ?_⟩
    refine ⟨.ref p, rfl, by show 4 ≤ sizeLine; decide, fun l1 n1 => ⟨_, _, rfl, rfl, ⟨by decide, by decide, by decide⟩, by show 4 ≤ sizeLine; decide, fun l2 n2 => ⟨by show 2 ≤ sizeLine; decide, fun l3 n3 => ?_⟩⟩⟩
    have s3 := (same_upd (o := .lst [V.int 1, V.int 3, V.int 9, V.int 9]) n1).trans ((same_upd (o := .lst [V.int 1, V.int 9, V.int 1000, V.int (10 ^ (58 : Int).toNat)]) n2).trans (same_upd (o := .lst [V.ref l1, V.ref l2]) n3))
    have fin : ∀ m : Int, 0 < m → m ≤ 10 ^ 58 → ∃ (p' : Addr) (m' : Int), [V.ref p, V.int m] = [.ref p', .int m'] ∧ Pot (upd (upd (upd H1 l1 (.lst [V.int 1, V.int 3, V.int 9, V.int 9])) l2 (.lst [V.int 1, V.int 9, V.int 1000, V.int (10 ^ (58 : Int).toNat)])) l3 (.lst [V.ref l1, V.ref l2])) p' ∧ LitM m' ∧
        ∀ t H4, 0 ≤ t → t < m' → Pot H4 p' → But p' (upd (upd (upd H1 l1 (.lst [V.int 1, V.int 3, V.int 9, V.int 9])) l2 (.lst [V.int 1, V.int 9, V.int 1000, V.int (10 ^ (58 : Int).toNat)])) l3 (.lst [V.ref l1, V.ref l2])) H4 → ∃ x y : Int, V.int 1 = .int x ∧ V.int t = .int y ∧ Q (.int (x + y)) H4 := fun m m0 m1 => by
      have m2 : (10 : Int) ^ 58 < 2 ^ 250 := by decide
      exact ⟨p, m, rfl, hp1.same s3, litM _ m0 (by omega), fun t H4 t0 t1 hp4 hb4 => ⟨1, t, rfl, rfl, q _ _ ⟨by omega, by omega⟩ hp4 (hb1.trans ((same_but s3).trans hb4))⟩⟩
    rcases hsz with rfl | rfl
    · obtain ⟨c, e1, e2⟩ := pick (xs := [V.int 1, V.int 3, V.int 9, V.int 9]) d0 d1
      refine ⟨.int 0, rfl, l3, _, 0, .ref l1, rfl, rfl, .inl (.inl upd_same), rfl, .int d, rfl, l1, _, d, c, rfl, rfl, .inl (.inl (same_upd n3 _ _ (same_upd n2 _ _ upd_same))), e1, ?_⟩
      have ec : ∃ m : Int, c = .int m ∧ 0 < m ∧ m ≤ 10 ^ 58 := by
        simp only [List.mem_cons, List.not_mem_nil, or_false] at e2
        rcases e2 with e | e | e | e <;> exact ⟨_, e, by decide, by decide⟩
      obtain ⟨m, rfl, m0, m1⟩ := ec
      exact fin m m0 m1
    · obtain ⟨c, e1, e2⟩ := pick (xs := [V.int 1, V.int 9, V.int 1000, V.int (10 ^ (58 : Int).toNat)]) d0 d1
      refine ⟨.int 1, rfl, l3, _, 1, .ref l2, rfl, rfl, .inl (.inl upd_same), rfl, .int d, rfl, l2, _, d, c, rfl, rfl, .inl (.inl (same_upd n3 _ _ upd_same)), e1, ?_⟩
      have ec : ∃ m : Int, c = .int m ∧ 0 < m ∧ m ≤ 10 ^ 58 := by
        simp only [List.mem_cons, List.not_mem_nil, or_false] at e2
        rcases e2 with e | e | e | e <;> exact ⟨_, e, by decide, by decide⟩
      obtain ⟨m, rfl, m0, m1⟩ := ec
      exact fin m m0 m1
end
end Rc

namespace Rc
open PySem PySem.Spec PyProof.Rows L2 RZ
/-! ### dicts by names -/
def dct (zs : List Str) (vs : List V) : List (Key × V) := (zs.zip vs).map fun p => (Sum.inr p.1, p.2)
theorem dct_cons (z : Str) (zs : List Str) (v : V) (vs : List V) : dct (z :: zs) (v :: vs) = (Sum.inr z, v) :: dct zs vs := rfl
theorem dct_mem {zs : List Str} {vs : List V} {kv : Key × V} (h : kv ∈ dct zs vs) : ∃ z ∈ zs, kv.1 = Sum.inr z := by
  unfold dct at h
  obtain ⟨p, hp, rfl⟩ := List.mem_map.mp h
  exact ⟨p.1, (List.of_mem_zip hp).1, rfl⟩
theorem dct_val : ∀ {zs : List Str} {vs : List V} {j : Nat} {z : Str} {v : V}, zs.Nodup → zs[j]? = some z → vs[j]? = some v → valV (dct zs vs) (Sum.inr z : Key) = some v
  | [], _, _, _, _, _, h, _ => by simp at h
  | _ :: _, [], _, _, _, _, _, h => by simp at h
  | y :: zs, u :: vs, 0, z, v, nd, h1, h2 => by
    simp at h1 h2
    subst h1 h2
    rw [dct_cons]
    exact valV_pos rfl
  | y :: zs, u :: vs, j + 1, z, v, nd, h1, h2 => by
    have hn := List.nodup_cons.mp nd
    have h1' : zs[j]? = some z := by simpa using h1
    rw [dct_cons, valV_neg (fun e => hn.1 (by
      have e' : y = z := Sum.inr.inj e
      rw [e']
      exact List.mem_of_getElem? h1'))]
    exact dct_val hn.2 h1' (by simpa using h2)
theorem dct_nokey {zs : List Str} {vs : List V} {z : Str} (h : z ∉ zs) : ∀ kv ∈ dct zs vs, ¬ kv.1 = (Sum.inr z : Key) := fun kv hk e => by
  obtain ⟨y, hy, e'⟩ := dct_mem hk
  rw [e'] at e
  exact h (Sum.inr.inj e ▸ hy)
theorem map_nokey {kvs : List (Key × V)} {k : Key} {v : V} (h : ∀ kv ∈ kvs, ¬ kv.1 = k) : kvs.map (fun kv => if kv.1 = k then (kv.1, v) else kv) = kvs := by
  induction kvs with
  | nil => rfl
  | cons a r ih =>
    rw [List.map_cons, if_neg (h a List.mem_cons_self), ih fun kv hk => h kv (List.mem_cons_of_mem _ hk)]
theorem dct_map : ∀ {zs : List Str} {vs : List V} {j : Nat} {z : Str} {v : V}, zs.Nodup → zs[j]? = some z → (dct zs vs).map (fun kv => if kv.1 = (Sum.inr z : Key) then (kv.1, v) else kv) = dct zs (vs.set j v)
  | [], _, _, _, _, _, h => by simp at h
  | y :: zs, [], _, _, _, _, _ => by simp [dct]
  | y :: zs, u :: vs, 0, z, v, nd, h1 => by
    simp at h1
    subst h1
    have hn := List.nodup_cons.mp nd
    rw [List.set_cons_zero, dct_cons, dct_cons, List.map_cons, if_pos rfl, map_nokey (dct_nokey hn.1)]
  | y :: zs, u :: vs, j + 1, z, v, nd, h1 => by
    have hn := List.nodup_cons.mp nd
    have h1' : zs[j]? = some z := by simpa using h1
    have ne : ¬ (Sum.inr y : Key) = Sum.inr z := fun e => hn.1 (by
      have e' : y = z := Sum.inr.inj e
      rw [e']
      exact List.mem_of_getElem? h1')
    rw [List.set_cons_succ, dct_cons, dct_cons, List.map_cons, if_neg ne, dct_map hn.2 h1']
theorem dct_put {zs : List Str} {vs : List V} {j : Nat} {z : Str} {v : V} (nd : zs.Nodup) (h1 : zs[j]? = some z) (h2 : j < vs.length) : putK (dct zs vs) (Sum.inr z) v = dct zs (vs.set j v) := by
  unfold putK
  have hv := dct_val nd h1 (List.getElem?_eq_getElem h2)
  rw [valV_any, hv, if_pos (show (some vs[j]).isSome = true from rfl)]
  exact dct_map nd h1
theorem put_new {kvs : List (Key × V)} {k : Key} {v : V} (h : ∀ kv ∈ kvs, ¬ kv.1 = k) : putK kvs k v = kvs ++ [(k, v)] := by
  unfold putK
  rw [if_neg]
  rw [List.any_eq_true]
  rintro ⟨kv, hk, e⟩
  exact h kv hk (of_decide_eq_true e)
theorem merge_dct : ∀ (zs : List Str) (vs : List V) (acc : List (Key × V)), zs.Nodup → (∀ kv ∈ acc, ∀ z ∈ zs, ¬ kv.1 = (Sum.inr z : Key)) → mergeK acc (dct zs vs) = acc ++ dct zs vs
  | [], _, acc, _, _ => by simp [dct, mergeK]
  | _ :: _, [], acc, _, _ => by simp [dct, mergeK]
  | z :: zs, v :: vs, acc, nd, h => by
    have hn := List.nodup_cons.mp nd
    rw [dct_cons]
    show mergeK (putK acc (Sum.inr z) v) (dct zs vs) = acc ++ (Sum.inr z, v) :: dct zs vs
    rw [put_new fun kv hk => h kv hk z List.mem_cons_self, merge_dct zs vs _ hn.2 fun kv hk y hy => ?_]
    · rw [List.append_assoc]
      rfl
    · rcases List.mem_append.mp hk with hk | hk
      · exact h kv hk y (List.mem_cons_of_mem _ hy)
      · rw [List.mem_singleton.mp hk]
        intro e
        exact hn.1 (Sum.inr.inj e ▸ hy)
theorem merge_new {zs : List Str} {vs : List V} (nd : zs.Nodup) : mergeK [] (dct zs vs) = dct zs vs := by
  rw [merge_dct zs vs [] nd fun kv hk => absurd hk List.not_mem_nil]
  rfl
theorem dct_len {zs : List Str} {vs : List V} (h : vs.length = zs.length) : (dct zs vs).length = zs.length := by
  unfold dct
  rw [List.length_map, List.length_zip, h, Nat.min_self]
/-! ### the law's model -/
structure MdA where
  m : Addr
  lo : Addr
  dg : Addr
  df : Addr
  dn : Addr
  rs : List Addr
structure Md where
  given : List Int
  fallen : List Int
  notes : List (List (Str × Int))
def MdA.Has (a : MdA) (b : Addr) : Prop := b = a.m ∨ b = a.lo ∨ b = a.dg ∨ b = a.df ∨ b = a.dn ∨ b ∈ a.rs
def keysM : List Str := ["order", "given", "fallen", "notes"]
theorem keysM_nd : keysM.Nodup := by decide +kernel
def MdA.main (a : MdA) : List (Key × V) := dct keysM [.ref a.lo, .ref a.dg, .ref a.df, .ref a.dn]
structure ModelAt (K : PySem.W.Frag) (H : Hp) (zs : List Str) (a : MdA) (D : Md) : Prop where
  hm : H a.m = some (.dK a.main)
  ho : H a.lo = some (.lst (zs.map V.str))
  hg : H a.dg = some (.dK (dct zs (D.given.map V.int)))
  hf : H a.df = some (.dK (dct zs (D.fallen.map V.int)))
  hn : H a.dn = some (.dK (dct zs (a.rs.map V.ref)))
  rows : ∀ (i : Nat) (r : Addr) (l : List (Str × Int)), a.rs[i]? = some r → D.notes[i]? = some l → ∃ xs, H r = some (.lst xs) ∧ DtAll K H xs (notesD l)
  nd : a.rs.Nodup
  olo : a.lo ∉ a.rs
  ogf : a.dg ≠ a.df
  ogn : a.dg ≠ a.dn
  ogm : a.dg ≠ a.m
  omn : a.m ≠ a.dn
  zn : zs.Nodup
  lg : D.given.length = zs.length
  lf : D.fallen.length = zs.length
  ln : D.notes.length = zs.length
  lr : a.rs.length = zs.length
theorem ModelAt.keep {K : PySem.W.Frag} {H H' : Hp} {zs : List Str} {a : MdA} {D : Md} (h : ModelAt K H zs a D) (k : ∀ b o, a.Has b → H b = some o → H' b = some o) (kt : KT H H') : ModelAt K H' zs a D where
  hm := k _ _ (.inl rfl) h.hm
  ho := k _ _ (.inr (.inl rfl)) h.ho
  hg := k _ _ (.inr (.inr (.inl rfl))) h.hg
  hf := k _ _ (.inr (.inr (.inr (.inl rfl)))) h.hf
  hn := k _ _ (.inr (.inr (.inr (.inr (.inl rfl))))) h.hn
  rows := fun i r l e1 e2 => by
    obtain ⟨xs, e, d⟩ := h.rows i r l e1 e2
    exact ⟨xs, k _ _ (.inr (.inr (.inr (.inr (.inr (List.mem_of_getElem? e1)))))) e, DtAll.keepT kt _ (tup_notes l) d⟩
  nd := h.nd
  olo := h.olo
  ogf := h.ogf
  ogn := h.ogn
  ogm := h.ogm
  omn := h.omn
  zn := h.zn
  lg := h.lg
  lf := h.lf
  ln := h.ln
  lr := h.lr
theorem model_same {K : PySem.W.Frag} {H H' : Hp} {zs : List Str} {a : MdA} {D : Md} (h : ModelAt K H zs a D) (s : Same H H') : ModelAt K H' zs a D := h.keep (fun b o _ e => s b o e) (kt_same s)
theorem But.kt {p : Addr} {H H' : Hp} (b : But p H H') (hp : Pot H p) : KT H H' := fun c o e t => b c o (fun z => by
  obtain ⟨x, y, e', _⟩ := hp
  rw [z, e'] at e
  cases e
  exact t) e
theorem model_but {K : PySem.W.Frag} {H H' : Hp} {zs : List Str} {a : MdA} {D : Md} {p : Addr} (h : ModelAt K H zs a D) (b : But p H H') (hp : Pot H p) (n : ¬ a.Has p) : ModelAt K H' zs a D :=
  h.keep (fun c o hc e => b c o (fun z => n (z ▸ hc)) e) (b.kt hp)
def zeros (n : Nat) : List Int := List.replicate n 0
def newMd (n : Nat) : Md := ⟨zeros n, zeros n, List.replicate n []⟩
/-- pairs that a comprehension makes -/
def PairsAt (K : PySem.W.Frag) (H : Hp) (ps : List Addr) (kvs : List (Key × V)) : Prop := Paired (fun p kv => SqT K H p [kV kv.1, kv.2]) ps kvs
theorem Paired.snoc {α β : Type} {R : α → β → Prop} : ∀ {l : List α} {m : List β} {a : α} {b : β}, Paired R l m → R a b → Paired R (l ++ [a]) (m ++ [b])
  | _, _, _, _, .nil, h => .cons h .nil
  | _, _, _, _, .cons r t, h => .cons r (Paired.snoc t h)
theorem pairs_kt {K : PySem.W.Frag} {H H' : Hp} (k : KT H H') : ∀ {ps : List Addr} {kvs : List (Key × V)}, PairsAt K H ps kvs → PairsAt K H' ps kvs
  | _, _, .nil => .nil
  | _, _, .cons r t => .cons (by
      rcases r with (r | ⟨o, r⟩) | r
      · exact .inl (.inl (k _ _ r trivial))
      · exact .inl (.inr ⟨o, k _ _ r trivial⟩)
      · exact .inr r) (pairs_kt k t)
theorem dct_snoc {zs : List Str} {vs : List V} {z : Str} {v : V} (h : vs.length = zs.length) : dct (zs ++ [z]) (vs ++ [v]) = dct zs vs ++ [(Sum.inr z, v)] := by
  unfold dct
  rw [List.zip_append h.symm, List.map_append]
  rfl
theorem take_succ {α : Type} {l : List α} {i : Nat} (h : i < l.length) : l.take (i + 1) = l.take i ++ [l[i]] := by
  rw [List.take_add_one, List.getElem?_eq_getElem h]
  rfl
theorem pairs_step {K : PySem.W.Frag} {H0 H' : Hp} {D t : Addr} {ps : List Addr} {zs : List Str} {vs : List V} {z : Str} {v : V} (nD : H0 D = none) (s : Same H0 H') (hD : H' D = some (.lst (ps.map V.ref))) (hp : PairsAt K H' ps (dct zs vs)) (l : vs.length = zs.length) (nt : H' t = none) :
    Same H0 (upd (upd H' t (.tup [.str z, v])) D (.lst (ps.map V.ref ++ [.ref t]))) ∧ upd (upd H' t (.tup [.str z, v])) D (.lst (ps.map V.ref ++ [.ref t])) D = some (.lst ((ps ++ [t]).map V.ref)) ∧
      PairsAt K (upd (upd H' t (.tup [.str z, v])) D (.lst (ps.map V.ref ++ [.ref t]))) (ps ++ [t]) (dct (zs ++ [z]) (vs ++ [v])) ∧ KT H' (upd (upd H' t (.tup [.str z, v])) D (.lst (ps.map V.ref ++ [.ref t]))) := by
  have tD : t ≠ D := (ne_of_none hD nt).symm
  have kt : KT H' (upd (upd H' t (.tup [.str z, v])) D (.lst (ps.map V.ref ++ [.ref t]))) := (kt_same (same_upd nt)).trans (kt_upd (o := .lst (ps.map V.ref)) (by rw [upd_ne tD.symm]; exact hD) fun z => z)
  refine ⟨fun b o e => ?_, by rw [upd_same, List.map_append]; rfl, ?_, kt⟩
  · rw [upd_ne (ne_of_none e nD), upd_ne (ne_of_none (s b o e) nt)]
    exact s b o e
  · rw [dct_snoc l]
    refine Paired.snoc (pairs_kt kt hp) (.inl (.inl ?_))
    rw [upd_ne tD, upd_same]
    rfl
theorem Paired.len {α β : Type} {R : α → β → Prop} : ∀ {l : List α} {m : List β}, Paired R l m → l.length = m.length
  | _, _, .nil => rfl
  | _, _, .cons _ t => by rw [List.length_cons, List.length_cons, Paired.len t]
section
variable {P : Program} {w : World} {K : PySem.W.Frag} {mg : Str → Option Value} {base : Heap}
abbrev sLMd : Stmt := topS 29
abbrev nLMd : List Str := ["_law_names_here", "_law_name_here"]
theorem scLMd : FnScope nLMd ["_law_names_here"] (defScope sLMd) := ⟨rfl, rfl, rfl, by decide +kernel, rfl, by decide +kernel, by decide +kernel⟩
def spLMd (K : PySem.W.Frag) : Sp := fun vs H Q _ => ∃ (nl : Addr) (zs : List Str), vs = [.ref nl] ∧ H nl = some (.lst (zs.map V.str)) ∧ zs.Nodup ∧ zs.length ≤ 13 ∧ ∀ a H', Same H H' → (∀ b, MdA.Has a b → H b = none) → ModelAt K H' zs a (newMd zs.length) → Q (.ref a.m) H'
theorem ok_lmd {f : Addr} {fd : FuncData} (F : Fun K "_law_model" "_law_model" sLMd f fd) (B3 : Blt3 mg) : FnOk P w K mg base CX0 1 f fd ["_law_names_here"] (spLMd K) := by
  refine F.ok scLMd (fun vs H Q E h => ?_) (fun cdv Ar outer s H vs Q E hr h => ?_)
  · obtain ⟨_, _, rfl, _⟩ := h
    rfl
  · obtain ⟨nl, zs, rfl, hn, nd, lz, q⟩ := h
    refine ⟨_, pss_one (ps_ret (pe_disp (pps_cons pe_str (pe_callTy call_list_of (by rfl) B3.list (by decide +kernel) (pa_cons (pv 0) pa_nil))
      (pps_cons pe_str (pe_callTy (call_dictP rfl) (by rfl) B3.dict (by decide +kernel) (pa_cons (pe_lc (own := [("_law_name_here", 1)]) (g := gName 1) (tt := tYes) rfl scLMd.nd (pi_list (pv 0)) (blkOk_by (N := nLMd) (sc := defScope sLMd) (own := [("_law_name_here", 1)]) (by decide +kernel))
          (fun _ _ _ _ _ => pg_name (i := 1) scLMd.nd rfl (.inl rfl) (hf := .inr rfl)) (fun _ _ _ _ _ => pts_nil) (fun _ _ _ _ _ => pe_tup (pa_cons (pv 1) (pa_cons pe_int pa_nil)))) pa_nil))
      (pps_cons pe_str (pe_callTy (call_dictP rfl) (by rfl) B3.dict (by decide +kernel) (pa_cons (pe_lc (own := [("_law_name_here", 1)]) (g := gName 1) (tt := tYes) rfl scLMd.nd (pi_list (pv 0)) (blkOk_by (N := nLMd) (sc := defScope sLMd) (own := [("_law_name_here", 1)]) (by decide +kernel))
          (fun _ _ _ _ _ => pg_name (i := 1) scLMd.nd rfl (.inl rfl) (hf := .inr rfl)) (fun _ _ _ _ _ => pts_nil) (fun _ _ _ _ _ => pe_tup (pa_cons (pv 1) (pa_cons pe_int pa_nil)))) pa_nil))
      (pps_cons pe_str (pe_callTy (call_dictP rfl) (by rfl) B3.dict (by decide +kernel) (pa_cons (pe_lc (own := [("_law_name_here", 1)]) (g := gName 1) (tt := tYes) rfl scLMd.nd (pi_list (pv 0)) (blkOk_by (N := nLMd) (sc := defScope sLMd) (own := [("_law_name_here", 1)]) (by decide +kernel))
          (fun _ _ _ _ _ => pg_name (i := 1) scLMd.nd rfl (.inl rfl) (hf := .inr rfl)) (fun _ _ _ _ _ => pts_nil) (fun _ _ _ _ _ => pe_tup (pa_cons (pv 1) (pa_cons (pe_lst pa_nil) pa_nil)))) pa_nil)) pps_nil)))) (by rfl) (by rfl) (fun z => by cases z) (by show 4 ≤ 15; decide))), ?_⟩
    intro m nm
    have s1 := same_upd (o := .dK []) nm
    have sq : SqL K H nl (zs.map V.str) := .inl (.inl hn)
    refine ⟨.ref nl, rfl, nl, _, rfl, .inl (s1.seq sq), fun lo nlo => ?_⟩
    have s2 := s1.trans (same_upd (o := .lst (zs.map V.str)) nlo)
    generalize hH2 : upd (upd H m (.dK [])) lo (.lst (zs.map V.str)) = H2 at s2
    have hm2 : H2 m = some (.dK []) := by
      rw [← hH2, upd_ne (by intro e; rw [← e, upd_same] at nlo; cases nlo), upd_same]
    have hl2 : H2 lo = some (.lst (zs.map V.str)) := by
      rw [← hH2, upd_same]
    have nloH : H lo = none := s1.free nlo
    have step0 : ∀ (H0 H' : Hp) (D : Addr) (ps : List Addr) (i : Nat) (hi : i < zs.length), H0 D = none → Same H0 H' → H' D = some (.lst (ps.map V.ref)) → PairsAt K H' ps (dct (zs.take i) ((zeros i).map V.int)) → ∀ t, H' t = none →
        Same H0 (upd (upd H' t (.tup [.str zs[i], .int 0])) D (.lst (ps.map V.ref ++ [.ref t]))) ∧ ∃ ps', upd (upd H' t (.tup [.str zs[i], .int 0])) D (.lst (ps.map V.ref ++ [.ref t])) D = some (.lst (List.map V.ref ps')) ∧
          PairsAt K (upd (upd H' t (.tup [.str zs[i], .int 0])) D (.lst (ps.map V.ref ++ [.ref t]))) ps' (dct (zs.take (i + 1)) ((zeros (i + 1)).map V.int)) := fun H0 H' D ps i hi nD sm hD hp t nt => by
      obtain ⟨a1, a2, a3, _⟩ := pairs_step (z := zs[i]) (v := .int 0) nD sm hD hp (by unfold zeros; rw [List.length_map, List.length_replicate, List.length_take]; omega) nt
      refine ⟨a1, ps ++ [t], a2, ?_⟩
      rw [take_succ hi, show (zeros (i + 1)).map V.int = (zeros i).map V.int ++ [.int 0] by unfold zeros; rw [List.replicate_succ', List.map_append]; rfl]
      exact a3
    have full : zs.take zs.length = zs := List.take_length
    have lenz : (zs.map V.str).length = zs.length := List.length_map ..
    have smallP : ∀ {H' : Hp} {ps : List Addr} {i : Nat} {vs : List V}, i < zs.length → vs.length = i → PairsAt K H' ps (dct (zs.take i) vs) → (ps.map V.ref).length < sizeLine := fun {H' ps i vs} hi hv hp => by
      rw [List.length_map, Paired.len hp]
      unfold dct
      rw [List.length_map, List.length_zip]
      exact small1000 (by omega)
    have lenZ : ∀ i, ((zeros i).map V.int).length = i := fun i => by
      unfold zeros
      rw [List.length_map, List.length_replicate]
    have strAt : ∀ {i : Nat} {x : V} (hi : i < zs.length), (zs.map V.str)[i]? = some x → x = .str zs[i] := fun {i x} hi e => by
      rw [List.getElem?_map, List.getElem?_eq_getElem hi] at e
      exact (Option.some.inj e).symm
    -- 'given'
    refine ⟨.ref nl, rfl, nl, rfl, ⟨_, s2.seq sq⟩, fun D1 nD1 => ?_⟩
    refine lc_it (walk_list (K := K) (a := nl) (xs := zs.map V.str)) (fun i H' => Same H2 H' ∧ ∃ ps, H' D1 = some (.lst (List.map V.ref ps)) ∧ PairsAt K H' ps (dct (zs.take i) ((zeros i).map V.int))) ⟨same_upd nD1, [], upd_same, .nil⟩ (fun i H' _ hP => hP.1.seq (s2.seq sq))
      (fun i x H3' H3 hi hP hY => ?_) (fun H3 hP => ?_)
    · obtain ⟨rfl, hx⟩ := hY
      rw [lenz] at hi
      obtain ⟨sm, ps, hD, hp⟩ := hP
      cases strAt hi hx
      refine ⟨rfl, _, rfl, by show 2 ≤ sizeLine; decide, fun t nt => ⟨_, by rw [upd_ne (ne_of_none hD nt)]; exact hD, smallP hi (lenZ i) hp, ?_⟩⟩
      exact step0 H2 H3 D1 ps i hi nD1 sm hD hp t nt
    obtain ⟨s3, ps1, hD1, hp1⟩ := hP
    rw [lenz, full] at hp1
    refine ⟨D1, ps1, _, rfl, .inl (.inl hD1), hp1, fun dg ndg => ?_⟩
    rw [merge_new nd]
    have s4 := s3.trans (same_upd (o := .dK (dct zs ((zeros zs.length).map V.int))) ndg)
    generalize hH4 : upd H3 dg (.dK (dct zs ((zeros zs.length).map V.int))) = H4 at s4
    have hg4 : H4 dg = some (.dK (dct zs ((zeros zs.length).map V.int))) := by
      rw [← hH4, upd_same]
    have ndgH : H2 dg = none := s3.free ndg
    -- 'fallen'
    refine ⟨.ref nl, rfl, nl, rfl, ⟨_, s4.seq (s2.seq sq)⟩, fun D2 nD2 => ?_⟩
    refine lc_it (walk_list (K := K) (a := nl) (xs := zs.map V.str)) (fun i H' => Same H4 H' ∧ ∃ ps, H' D2 = some (.lst (List.map V.ref ps)) ∧ PairsAt K H' ps (dct (zs.take i) ((zeros i).map V.int))) ⟨same_upd nD2, [], upd_same, .nil⟩ (fun i H' _ hP => hP.1.seq (s4.seq (s2.seq sq)))
      (fun i x H5' H5 hi hP hY => ?_) (fun H5 hP => ?_)
    · obtain ⟨rfl, hx⟩ := hY
      rw [lenz] at hi
      obtain ⟨sm, ps, hD, hp⟩ := hP
      cases strAt hi hx
      refine ⟨rfl, _, rfl, by show 2 ≤ sizeLine; decide, fun t nt => ⟨_, by rw [upd_ne (ne_of_none hD nt)]; exact hD, smallP hi (lenZ i) hp, ?_⟩⟩
      exact step0 H4 H5 D2 ps i hi nD2 sm hD hp t nt
    obtain ⟨s5, ps2, hD2, hp2⟩ := hP
    rw [lenz, full] at hp2
    refine ⟨D2, ps2, _, rfl, .inl (.inl hD2), hp2, fun df ndf => ?_⟩
    rw [merge_new nd]
    have s6 := s5.trans (same_upd (o := .dK (dct zs ((zeros zs.length).map V.int))) ndf)
    generalize hH6 : upd H5 df (.dK (dct zs ((zeros zs.length).map V.int))) = H6 at s6
    have hf6 : H6 df = some (.dK (dct zs ((zeros zs.length).map V.int))) := by
      rw [← hH6, upd_same]
    have ndfH : H4 df = none := s5.free ndf
    -- 'notes'
    have s26 := s4.trans s6
    refine ⟨.ref nl, rfl, nl, rfl, ⟨_, s26.seq (s2.seq sq)⟩, fun D3 nD3 => ?_⟩
    refine lc_it (walk_list (K := K) (a := nl) (xs := zs.map V.str)) (fun i H' => Same H6 H' ∧ ∃ ps rs, H' D3 = some (.lst (List.map V.ref ps)) ∧ rs.length = i ∧ PairsAt K H' ps (dct (zs.take i) (List.map V.ref rs)) ∧ rs.Nodup ∧ (∀ r ∈ rs, H6 r = none ∧ r ≠ D3 ∧ H' r = some (.lst [])))
      ⟨same_upd nD3, [], [], upd_same, rfl, .nil, List.nodup_nil, fun r hr => absurd hr List.not_mem_nil⟩ (fun i H' _ hP => hP.1.seq (s26.seq (s2.seq sq))) (fun i x H7' H7 hi hP hY => ?_) (fun H7 hP => ?_)
    · obtain ⟨rfl, hx⟩ := hY
      rw [lenz] at hi
      obtain ⟨sm, ps, rs, hD, lrs, hp, nrs, hrs⟩ := hP
      cases strAt hi hx
      refine ⟨rfl, _, rfl, Nat.zero_le _, fun e ne => ⟨by show 2 ≤ sizeLine; decide, fun t nt => ?_⟩⟩
      have se := same_upd (o := .lst []) ne
      have hDe := se _ _ hD
      have eD : e ≠ D3 := (ne_of_none hD ne).symm
      have hpe := pairs_kt (kt_same se) hp
      refine ⟨_, by rw [upd_ne (ne_of_none hDe nt)]; exact hDe, smallP hi (by rw [List.length_map, lrs]) hp, ?_⟩
      obtain ⟨a1, a2, a3, a4⟩ := pairs_step (z := zs[i]) (v := .ref e) nD3 (sm.trans se) hDe hpe (by rw [List.length_map, List.length_take, lrs]; omega) nt
      have et : e ≠ t := ne_of_none (upd_same (H := H7)) nt
      refine ⟨a1, ps ++ [t], rs ++ [e], a2, by rw [List.length_append, lrs]; rfl, ?_, ?_, fun r hr => ?_⟩
      · rw [take_succ hi, List.map_append]
        exact a3
      · rw [List.nodup_append]
        refine ⟨nrs, by simp, fun a ha b hb z => ?_⟩
        rw [List.mem_singleton.mp hb] at z
        have := (hrs a ha).2.2
        rw [z, ne] at this
        cases this
      · rcases List.mem_append.mp hr with hr | hr
        · obtain ⟨b1, b2, b3⟩ := hrs r hr
          exact ⟨b1, b2, by rw [upd_ne b2, upd_ne (ne_of_none (se _ _ b3) nt)]; exact se _ _ b3⟩
        · rw [List.mem_singleton.mp hr]
          exact ⟨sm.free ne, eD, by rw [upd_ne eD, upd_ne et, upd_same]⟩
    obtain ⟨s7, ps3, rs, hD3, lrs, hp3, nrs, hrs⟩ := hP
    rw [lenz] at lrs
    rw [lenz, full] at hp3
    refine ⟨D3, ps3, _, rfl, .inl (.inl hD3), hp3, fun dn ndn => ?_⟩
    rw [merge_new nd]
    have s8 := s7.trans (same_upd (o := .dK (dct zs (List.map V.ref rs))) ndn)
    have s28 := s26.trans s8
    refine ⟨s28 _ _ hm2, dct keysM [.ref lo, .ref dg, .ref df, .ref dn], rfl, by show 4 ≤ 15; decide, ?_⟩
    rw [merge_new keysM_nd]
    have hm8 : upd H7 dn (.dK (dct zs (List.map V.ref rs))) m = some (.dK []) := s28 _ _ hm2
    generalize hH8 : upd H7 dn (.dK (dct zs (List.map V.ref rs))) = H8 at s8 s28 hm8
    have hn8 : H8 dn = some (.dK (dct zs (List.map V.ref rs))) := by
      rw [← hH8, upd_same]
    have nH2 : ∀ {b : Addr}, H2 b = none → H b = none := fun {b} h => s2.free h
    have mne : ∀ {b : Addr}, H2 b = none → b ≠ m := fun {b} h => (ne_of_none hm2 h).symm
    have sM : ∀ b o, b ≠ m → H8 b = some o → upd H8 m (.dK (MdA.main ⟨m, lo, dg, df, dn, rs⟩)) b = some o := fun b o n e => by
      rw [upd_ne n]
      exact e
    have dn2 : H2 dn = none := s26.free (s7.free ndn)
    have df2 : H2 df = none := s4.free ndfH
    have rs2 : ∀ r ∈ rs, H2 r = none := fun r hr => s26.free (hrs r hr).1
    have lom : lo ≠ m := fun z => by
      rw [z, hm2] at hl2
      cases hl2
    refine q ⟨m, lo, dg, df, dn, rs⟩ (upd H8 m (.dK (MdA.main ⟨m, lo, dg, df, dn, rs⟩))) (fun b o e => ?_) (fun b hb => ?_) ?_
    · rw [upd_ne (ne_of_none e nm)]
      exact s28 _ _ (s2 _ _ e)
    · rcases hb with h | h | h | h | h | h
      · rw [h]; exact nm
      · rw [h]; exact nloH
      · rw [h]; exact nH2 ndgH
      · rw [h]; exact nH2 df2
      · rw [h]; exact nH2 dn2
      · exact nH2 (rs2 b h)
    · refine ⟨upd_same, sM _ _ lom (s28 _ _ hl2), sM _ _ (mne ndgH) (s8 _ _ (s6 _ _ hg4)), sM _ _ (mne df2) (s8 _ _ hf6), sM _ _ (mne dn2) hn8, fun i r l e1 e2 => ?_, nrs, fun hc => ?_, fun z => ?_, fun z => ?_, mne ndgH, (mne dn2).symm, nd, ?_, ?_, ?_, lrs⟩
      · have hr := List.mem_of_getElem? e1
        have el : l = [] := by
          have e2' : (List.replicate zs.length ([] : List (Str × Int)))[i]? = some l := e2
          rw [List.getElem?_replicate] at e2'
          split at e2'
          · exact (Option.some.inj e2').symm
          · cases e2'
        subst el
        refine ⟨[], sM _ _ (mne (rs2 r hr)) ?_, .nil⟩
        rw [← hH8, upd_ne (ne_of_none (hrs r hr).2.2 ndn)]
        exact (hrs r hr).2.2
      · have := rs2 lo hc
        rw [hl2] at this
        cases this
      · have z' : dg = df := z
        rw [← z', hg4] at ndfH
        cases ndfH
      · have z' : dg = dn := z
        have := s7.free ndn
        rw [← z', s6 _ _ hg4] at this
        cases this
      · unfold newMd zeros
        exact List.length_replicate
      · unfold newMd zeros
        exact List.length_replicate
      · unfold newMd
        exact List.length_replicate
end
end Rc

namespace Rc
open PySem PySem.Spec PyProof.Rows L2 RZ
theorem dget_at {H : Hp} {a : Addr} {zs : List Str} {vs : List V} {j : Nat} {z : Str} {v : V} (h : H a = some (.dK (dct zs vs))) (nd : zs.Nodup) (e1 : zs[j]? = some z) (e2 : vs[j]? = some v) : DGet H a (.str z) (some v) := by
  have := DGet.k (k := Sum.inr z) h
  rw [dct_val nd e1 e2] at this
  exact this
section
variable {K : PySem.W.Frag} {H : Hp} {zs : List Str} {a : MdA} {D : Md}
theorem ModelAt.g0 (h : ModelAt K H zs a D) : DGet H a.m (.str "order") (some (.ref a.lo)) := dget_at (j := 0) h.hm keysM_nd rfl rfl
theorem ModelAt.g1 (h : ModelAt K H zs a D) : DGet H a.m (.str "given") (some (.ref a.dg)) := dget_at (j := 1) h.hm keysM_nd rfl rfl
theorem ModelAt.g2 (h : ModelAt K H zs a D) : DGet H a.m (.str "fallen") (some (.ref a.df)) := dget_at (j := 2) h.hm keysM_nd rfl rfl
theorem ModelAt.g3 (h : ModelAt K H zs a D) : DGet H a.m (.str "notes") (some (.ref a.dn)) := dget_at (j := 3) h.hm keysM_nd rfl rfl
theorem ModelAt.gg (h : ModelAt K H zs a D) {j : Nat} {z : Str} {n : Int} (e : zs[j]? = some z) (e2 : D.given[j]? = some n) : DGet H a.dg (.str z) (some (.int n)) := dget_at h.hg h.zn e (map_get e2)
theorem ModelAt.gf (h : ModelAt K H zs a D) {j : Nat} {z : Str} {n : Int} (e : zs[j]? = some z) (e2 : D.fallen[j]? = some n) : DGet H a.df (.str z) (some (.int n)) := dget_at h.hf h.zn e (map_get e2)
theorem ModelAt.gn (h : ModelAt K H zs a D) {j : Nat} {z : Str} {r : Addr} (e : zs[j]? = some z) (e2 : a.rs[j]? = some r) : DGet H a.dn (.str z) (some (.ref r)) := dget_at h.hn h.zn e (map_get e2)
theorem ModelAt.at_ (h : ModelAt K H zs a D) {j : Nat} {z : Str} (e : zs[j]? = some z) : ∃ g f l r xs, D.given[j]? = some g ∧ D.fallen[j]? = some f ∧ D.notes[j]? = some l ∧ a.rs[j]? = some r ∧ H r = some (.lst xs) ∧ DtAll K H xs (notesD l) := by
  have hj : j < zs.length := (List.getElem?_eq_some_iff.mp e).1
  have h1 : j < D.given.length := by rw [h.lg]; exact hj
  have h2 : j < D.fallen.length := by rw [h.lf]; exact hj
  have h3 : j < D.notes.length := by rw [h.ln]; exact hj
  have h4 : j < a.rs.length := by rw [h.lr]; exact hj
  obtain ⟨xs, e1, e2⟩ := h.rows j _ _ (List.getElem?_eq_getElem h4) (List.getElem?_eq_getElem h3)
  exact ⟨_, _, _, _, xs, List.getElem?_eq_getElem h1, List.getElem?_eq_getElem h2, List.getElem?_eq_getElem h3, List.getElem?_eq_getElem h4, e1, e2⟩
end
theorem min_part (am f : Int) : (if am < f then am else f) = partOf am f := by
  unfold partOf
  split <;> split <;> omega
section
variable {P : Program} {w : World} {K : PySem.W.Frag} {mg : Str → Option Value} {base : Heap}
/-! ### _law_parted -/
abbrev sLPt : Stmt := topS 30
abbrev nLPt : List Str := ["_law_model_here", "_law_who", "_law_gone", "_law_left_here", "_law_rest", "_law_to", "_law_amount_here", "_law_here"]
theorem scLPt : FnScope nLPt ["_law_model_here", "_law_who"] (defScope sLPt) := ⟨rfl, rfl, rfl, by decide +kernel, rfl, by decide +kernel, by decide +kernel⟩
def spLPt (K : PySem.W.Frag) : Sp := fun vs H Q _ => ∃ (a : MdA) (D : Md) (zs : List Str) (z : Str) (j : Nat) (l : List (Str × Int)) (f : Int), vs = [.ref a.m, .str z] ∧ ModelAt K H zs a D ∧ zs[j]? = some z ∧ D.notes[j]? = some l ∧ D.fallen[j]? = some f ∧ l.length ≤ 100 ∧
  ∀ t g m gx mx H', Same H H' → H' t = some (.tup [.ref g, .ref m]) → H g = none → H m = none → H' g = some (.lst gx) → H' m = some (.lst mx) → DtAll K H' gx (notesD (goneN l f)) → DtAll K H' mx (notesD (leftN l f)) → Q (.ref t) H'
theorem rep_if {v : V} (c : Prop) [Decidable c] : (List.replicate (if decide c = true then (1 : Int) else 0).toNat [v]).flatten = if c then [v] else [] := by
  by_cases h : c
  · rw [decide_eq_true h, if_pos h]
    rfl
  · rw [decide_eq_false h, if_neg h]
    rfl
theorem one_note {K : PySem.W.Frag} {H : Hp} {v : V} {n : Str × Int} (c : Prop) [Decidable c] (h : Dt K H v (noteD n)) : DtAll K H (if c then [v] else []) ((if c then [n] else []).map noteD) := by
  by_cases hc : c
  · rw [if_pos hc, if_pos hc]
    exact .cons h .nil
  · rw [if_neg hc, if_neg hc]
    exact .nil
theorem ok_lpt {f : Addr} {fd : FuncData} (F : Fun K "_law_parted" "_law_parted" sLPt f fd) (B : Blt mg) (B2 : Blt2 mg) : FnOk P w K mg base CX0 1 f fd ["_law_model_here", "_law_who"] (spLPt K) := by
  refine F.ok scLPt (fun vs H Q E h => ?_) (fun cdv Ar outer s H vs Q E hr h => ?_)
  · obtain ⟨_, _, _, _, _, _, _, rfl, _⟩ := h
    rfl
  · obtain ⟨a, D, zs, z, j, l, f0, rfl, hM, ej, el, ef, ll, q⟩ := h
    have hu := hu_of hr
    refine ⟨_, pss_cons (ps_par (i := 2) (j := 3) rfl scLPt.nd rfl rfl (by decide) rfl rfl (pa_cons (pe_lst pa_nil) (pa_cons (pe_lst pa_nil) pa_nil)) (by rfl))
      (pss_cons (ps_set (i := 4) scLPt.nd rfl (.inl rfl) (pe_dget hu (pe_dget hu (pv 0) pe_str (fun _ _ => rfl)) (pv 1) (fun _ _ => rfl)))
      (pss_cons (ps_for PassesOwn.never rfl (pi_list (pe_dget hu (pe_dget hu (pv 0) pe_str (fun _ _ => rfl)) (pv 1) (fun _ _ => rfl))) (pg_tup rfl (pgs_cons (pg_name (i := 5) scLPt.nd rfl (.inl rfl)) (pgs_cons (pg_name (i := 6) scLPt.nd rfl (.inl rfl)) pgs_nil)))
        (pss_cons (ps_set (i := 7) scLPt.nd rfl (.inl rfl) (pe_callB (call_min2 rfl) (by rfl) B2.min (by decide +kernel) (pa_cons (pv 4) (pa_cons (pv 6) pa_nil))))
        (pss_cons (ps_set (i := 4) scLPt.nd rfl (.inl rfl) (pe_op op_sub (pv 4) (pv 7)))
        (pss_cons (ps_set (i := 2) scLPt.nd rfl (.inl rfl) (pe_op op_cat (pv 2) (pe_op op_rep (pe_lst (pa_cons (pe_tup (pa_cons (pv 5) (pa_cons (pv 7) pa_nil))) pa_nil)) (pe_callTy call_int1 (by rfl) B.int (by decide +kernel) (pa_cons (pe_cmpR op_gt (pv 7) pe_int (nomark _)) pa_nil)))))
        (pss_one (ps_set (i := 3) scLPt.nd rfl (.inl rfl) (pe_op op_cat (pv 3) (pe_op op_rep (pe_lst (pa_cons (pe_tup (pa_cons (pv 5) (pa_cons (pe_op op_sub (pv 6) (pv 7)) pa_nil))) pa_nil)) (pe_callTy call_int1 (by rfl) B.int (by decide +kernel) (pa_cons (pe_cmpR op_lt (pv 7) (pv 6) (nomark _)) pa_nil))))))))))
      (pss_one (ps_ret (pe_tup (pa_cons (pv 2) (pa_cons (pv 3) pa_nil))))))), ?_⟩
    obtain ⟨gv, f', l', r, xs, eg, ef', el', er, hr0, hd0⟩ := hM.at_ ej
    rw [ef] at ef'
    cases ef'
    rw [el] at el'
    cases el'
    refine ⟨Nat.zero_le _, fun g ng => ⟨Nat.zero_le _, fun m nm => ⟨_, _, rfl, ?_⟩⟩⟩
    have gm : g ≠ m := fun z => by
      rw [← z, upd_same] at nm
      cases nm
    have s0 : Same H (upd (upd H g (.lst [])) m (.lst [])) := (same_upd ng).trans (same_upd nm)
    have nmH : H m = none := (same_upd ng).free nm
    have hM0 := model_same hM s0
    refine ⟨.ref a.m, rfl, a.m, .ref a.df, rfl, hM0.g2, .str z, rfl, a.df, .int f0, rfl, hM0.gf ej ef, ?_⟩
    refine ⟨.ref a.m, rfl, a.m, .ref a.dn, rfl, hM0.g3, .str z, rfl, a.dn, .ref r, rfl, hM0.gn ej er, r, rfl, ⟨_, .inl (.inl (s0 _ _ hr0))⟩, ?_⟩
    refine for_it (walk_list (K := K) (a := r) (xs := xs)) (fun i σ H' => ∃ y5 y6 y7 fi g m gx mx Gs Ms, σ = [some (.ref a.m), some (.str z), some (.ref g), some (.ref m), some (.int fi), y5, y6, y7] ∧ Same H H' ∧ H g = none ∧ H m = none ∧ H' g = some (.lst gx) ∧ H' m = some (.lst mx) ∧
        DtAll K H' gx (notesD Gs) ∧ DtAll K H' mx (notesD Ms) ∧ Gs.length ≤ i ∧ Ms.length ≤ i ∧ Gs ++ goneN (l.drop i) fi = goneN l f0 ∧ Ms ++ leftN (l.drop i) fi = leftN l f0)
      ⟨_, _, _, f0, g, m, [], [], [], [], rfl, s0, ng, nmH, by rw [upd_ne gm, upd_same], upd_same, .nil, .nil, Nat.le_refl _, Nat.le_refl _, rfl, rfl⟩ (fun i σ H' _ hP => ?_) (fun i x σ H1' H1 hi hP hY => ?_) (fun σ H' hP => ?_)
    · obtain ⟨_, _, _, _, _, _, _, _, _, _, _, s1, _⟩ := hP
      exact .inl (.inl (s1 _ _ hr0))
    · obtain ⟨rfl, ex⟩ := hY
      obtain ⟨y5, y6, y7, fi, g, m, gx, mx, Gs, Ms, rfl, s1, ng, nm, hg, hm, dg, dm, lg, lm, eg', em⟩ := hP
      obtain ⟨hil, dn⟩ := (DtAll.same s1 _ hd0).notes_get ex
      obtain ⟨ta, rfl, qt⟩ := note_inv dn
      have ed : l.drop i = l[i] :: l.drop (i + 1) := List.drop_eq_getElem_cons hil
      rw [ed] at eg' em
      obtain ⟨t, am, el1⟩ : ∃ t am, l[i] = (t, am) := ⟨_, _, rfl⟩
      rw [el1] at eg' em qt
      rw [goneN_cons] at eg'
      rw [leftN_cons] at em
      have dgl := dg.len
      have dml := dm.len
      unfold notesD at dgl dml
      rw [List.length_map] at dgl dml
      refine ⟨ta, _, rfl, qt, rfl, _, _, rfl, _, _, rfl, rfl, ?_⟩
      refine ⟨.int fi, rfl, .int am, rfl, _, _, rfl, ?_⟩
      rw [min_part]
      generalize partOf am fi = pt at eg' em
      refine ⟨.int fi, rfl, .int pt, rfl, _, _, rfl, rfl, ?_⟩
      refine ⟨.ref g, rfl, .str t, rfl, .int pt, rfl, by show 2 ≤ sizeLine; decide, fun t1 n1 => ⟨by show 1 ≤ sizeLine; decide, fun l1 nl1 => ?_⟩⟩
      refine ⟨.int pt, rfl, _, _, rfl, rfl, .inr ⟨_, rfl, l1, _, _, rfl, rfl, upd_same, by split <;> decide, by split <;> decide, ?_, fun l2 nl2 => ?_⟩⟩
      · show 1 * _ ≤ sizeLine
        split <;> decide
      rw [rep_if]
      have sA := (same_upd (o := .tup [V.str t, V.int pt]) n1).trans ((same_upd (o := .lst [V.ref t1]) nl1).trans (same_upd (o := .lst (if 0 < pt then [V.ref t1] else [])) nl2))
      generalize hHA : upd (upd (upd H1 t1 (.tup [V.str t, V.int pt])) l1 (.lst [V.ref t1])) l2 (.lst (if 0 < pt then [V.ref t1] else [])) = HA at sA
      have hl2 : HA l2 = some (.lst (if 0 < pt then [V.ref t1] else [])) := by
        rw [← hHA, upd_same]
      have ht1 : HA t1 = some (.tup [V.str t, V.int pt]) := by
        rw [← hHA]
        exact (same_upd nl2) _ _ ((same_upd nl1) _ _ upd_same)
      refine ⟨g, l2, gx, _, rfl, rfl, sA _ _ hg, hl2, ?_, fun g2 ng2 => ?_⟩
      · have : (if 0 < pt then [V.ref t1] else []).length ≤ 1 := by split <;> simp
        exact small_line (by omega)
      have sB := sA.trans (same_upd (o := .lst (gx ++ if 0 < pt then [V.ref t1] else [])) ng2)
      generalize hHB : upd HA g2 (.lst (gx ++ if 0 < pt then [V.ref t1] else [])) = HB at sB
      have hg2 : HB g2 = some (.lst (gx ++ if 0 < pt then [V.ref t1] else [])) := by
        rw [← hHB, upd_same]
      have ht1B : HB t1 = some (.tup [V.str t, V.int pt]) := by
        rw [← hHB]
        exact same_upd ng2 _ _ ht1
      have ng2H : H g2 = none := (s1.trans sA).free ng2
      -- left
      refine ⟨.ref m, rfl, .str t, rfl, .int am, rfl, .int pt, rfl, _, _, rfl, rfl, by show 2 ≤ sizeLine; decide, fun t3 n3 => ⟨by show 1 ≤ sizeLine; decide, fun l3 nl3 => ?_⟩⟩
      refine ⟨.int pt, rfl, .int am, rfl, _, _, rfl, rfl, .inr ⟨_, rfl, l3, _, _, rfl, rfl, upd_same, by split <;> decide, by split <;> decide, ?_, fun l4 nl4 => ?_⟩⟩
      · show 1 * _ ≤ sizeLine
        split <;> decide
      rw [rep_if]
      have sC := (same_upd (o := .tup [V.str t, V.int (am - pt)]) n3).trans ((same_upd (o := .lst [V.ref t3]) nl3).trans (same_upd (o := .lst (if pt < am then [V.ref t3] else [])) nl4))
      generalize hHC : upd (upd (upd HB t3 (.tup [V.str t, V.int (am - pt)])) l3 (.lst [V.ref t3])) l4 (.lst (if pt < am then [V.ref t3] else [])) = HC at sC
      have hl4 : HC l4 = some (.lst (if pt < am then [V.ref t3] else [])) := by
        rw [← hHC, upd_same]
      have ht3 : HC t3 = some (.tup [V.str t, V.int (am - pt)]) := by
        rw [← hHC]
        exact (same_upd nl4) _ _ ((same_upd nl3) _ _ upd_same)
      refine ⟨m, l4, mx, _, rfl, rfl, sC _ _ (sB _ _ hm), hl4, ?_, fun m2 nm2 => ?_⟩
      · have : (if pt < am then [V.ref t3] else []).length ≤ 1 := by split <;> simp
        exact small_line (by omega)
      have sD := sC.trans (same_upd (o := .lst (mx ++ if pt < am then [V.ref t3] else [])) nm2)
      have sE := same_upd (o := .lst (mx ++ if pt < am then [V.ref t3] else [])) nm2
      refine ⟨_, _, _, fi - pt, g2, m2, _, _, Gs ++ (if 0 < pt then [(t, pt)] else []), Ms ++ (if pt < am then [(t, am - pt)] else []), rfl, s1.trans (sB.trans sD), ng2H, ((s1.trans sB).trans sC).free nm2, sD _ _ hg2, upd_same, ?_, ?_, ?_, ?_, by rw [List.append_assoc]; exact eg', by rw [List.append_assoc]; exact em⟩
      · unfold notesD
        rw [List.map_append]
        exact (DtAll.same (sB.trans sD) _ dg).append (one_note _ (.tup (.inl (.inl (sD _ _ ht1B))) (.cons (.str _) (.cons (.int _) .nil))))
      · unfold notesD
        rw [List.map_append]
        exact (DtAll.same (sB.trans sD) _ dm).append (one_note _ (.tup (.inl (.inl (sE _ _ ht3))) (.cons (.str _) (.cons (.int _) .nil))))
      · rw [List.length_append]
        have : (if 0 < pt then [(t, pt)] else []).length ≤ 1 := by split <;> simp
        omega
      · rw [List.length_append]
        have : (if pt < am then [(t, am - pt)] else []).length ≤ 1 := by split <;> simp
        omega
    · obtain ⟨y5, y6, y7, fi, g, m, gx, mx, Gs, Ms, rfl, s1, ng, nm, hg, hm, dg, dm, lg, lm, eg', em⟩ := hP
      have hx : l.drop xs.length = [] := List.drop_of_length_le (by
        have := hd0.len
        unfold notesD at this
        rw [List.length_map] at this
        omega)
      rw [hx] at eg' em
      rw [goneN_nil, List.append_nil] at eg'
      rw [leftN_nil, List.append_nil] at em
      subst eg' em
      refine ⟨.ref g, rfl, .ref m, rfl, by show 2 ≤ sizeLine; decide, fun t nt => ?_⟩
      have st := same_upd (o := .tup [.ref g, .ref m]) nt
      exact q t g m gx mx _ (s1.trans st) upd_same ng nm (st _ _ hg) (st _ _ hm) (DtAll.same st _ dg) (DtAll.same st _ dm)
end
end Rc

namespace Rc
open PySem PySem.Spec PyProof.Rows L2 RZ
/-! ### _law_deeds -/
inductive Deed where
  | give (z : Str) (n : Int)
  | put (z y : Str) (n : Int)
def deedD : Deed → PyData
  | .give z n => .tuple [.str "give", .str z, .int n]
  | .put z y n => .tuple [.str "put", .str z, .str y, .int n]
theorem tup_deed (d : Deed) : tupD (deedD d) = true := by cases d <;> simp [deedD, tupD, tupDs]
def deedsD (l : List Deed) : List PyData := l.map deedD
theorem tup_deeds (l : List Deed) : tupDs (deedsD l) = true := tupDs_map tup_deed l
def Deed.Ok (zs : List Str) : Deed → Prop
  | .give z n => z ∈ zs ∧ Amt n
  | .put z y n => z ∈ zs ∧ y ∈ zs ∧ Amt n
end Rc

namespace Rc
open PySem PySem.Spec PyProof.Rows L2 RZ
def RowsOk (D : Md) : Prop := ∀ l ∈ D.notes, l.length ≤ 60
def sumsD (D : Md) (z : Str) : Int := ((D.notes.zip D.fallen).map fun p => sumTo z (goneN p.1 p.2)).sum
def cashD (D : Md) (j : Nat) (z : Str) : Int := D.given.getD j 0 - D.fallen.getD j 0 + sumsD D z
def bkOf (zs : List Str) (D : Md) : Bk := ⟨zs, D.given, D.notes, D.fallen⟩
theorem cash_eq (zs : List Str) (D : Md) (j : Nat) (z : Str) : cashM (bkOf zs D) j z = cashD D j z := by
  show D.given.getD j 0 + sumsD D z - D.fallen.getD j 0 = D.given.getD j 0 - D.fallen.getD j 0 + sumsD D z
  omega
def doneD (zs : List Str) (D : Md) : Deed → Md
  | .give z n => { D with given := D.given.set (zs.idxOf z) (D.given.getD (zs.idxOf z) 0 + n) }
  | .put z y n => { D with notes := D.notes.set (zs.idxOf z) (D.notes.getD (zs.idxOf z) [] ++ [(y, n)]) }
def stepM (M : Bk) : Deed → Bk
  | .give z n => giveM M (M.names.idxOf z) n
  | .put z y n => putM M (M.names.idxOf z) y n
theorem step_eq (zs : List Str) (D : Md) (d : Deed) : stepM (bkOf zs D) d = bkOf zs (doneD zs D d) := by cases d <;> rfl
theorem idx_get {zs : List Str} {z : Str} (h : z ∈ zs) : zs[zs.idxOf z]? = some z := by
  have hl := List.idxOf_lt_length_of_mem h
  rw [List.getElem?_eq_getElem hl, List.getElem_idxOf]
theorem sum_set : ∀ (l : List (List (Str × Int))) (j : Nat) (x : List (Str × Int)), j < l.length → ((l.set j x).map List.length).sum + (l.getD j []).length = (l.map List.length).sum + x.length
  | [], j, x, h => by simp at h
  | a :: r, 0, x, h => by
    simp only [List.set_cons_zero, List.map_cons, List.sum_cons, List.getD_cons_zero]
    omega
  | a :: r, j + 1, x, h => by
    have := sum_set r j x (by simpa using h)
    simp only [List.set_cons_succ, List.map_cons, List.sum_cons, List.getD_cons_succ]
    omega
theorem step_ok {M : Bk} (ok : M.Ok) {d : Deed} (hd : d.Ok M.names) (hm : manyM M + 1 ≤ 60) : (stepM M d).Ok ∧ manyM (stepM M d) ≤ manyM M + 1 ∧ (stepM M d).names = M.names := by
  cases d with
  | give z n => exact ⟨⟨ok.n0, ok.n1, ok.nd, ok.nm, by show (M.gifts.set _ _).length = _; rw [List.length_set]; exact ok.lg, ok.ls, ok.ld, ok.many⟩, Nat.le_succ _, rfl⟩
  | put z y n =>
    have hj : M.names.idxOf z < M.stacks.length := by
      rw [ok.ls]
      exact List.idxOf_lt_length_of_mem hd.1
    have e : manyM (stepM M (.put z y n)) = manyM M + 1 := by
      have := sum_set M.stacks (M.names.idxOf z) (M.stacks.getD (M.names.idxOf z) [] ++ [(y, n)]) hj
      rw [List.length_append] at this
      show ((M.stacks.set _ _).map List.length).sum = (M.stacks.map List.length).sum + 1
      have e1 : [(y, n)].length = 1 := rfl
      omega
    exact ⟨⟨ok.n0, ok.n1, ok.nd, ok.nm, ok.lg, by show (M.stacks.set _ _).length = _; rw [List.length_set]; exact ok.ls, ok.ld, by show manyM (stepM M (.put z y n)) ≤ 60; omega⟩, Nat.le_of_eq e, rfl⟩
theorem dfold_ok : ∀ (ds : List Deed) {M : Bk}, M.Ok → (∀ d ∈ ds, d.Ok M.names) → manyM M + ds.length ≤ 60 → (ds.foldl stepM M).Ok ∧ manyM (ds.foldl stepM M) ≤ manyM M + ds.length ∧ (ds.foldl stepM M).names = M.names
  | [], M, ok, _, _ => ⟨ok, Nat.le_refl _, rfl⟩
  | d :: ds, M, ok, h, hm => by
    rw [List.length_cons] at hm
    obtain ⟨a1, a2, a3⟩ := step_ok ok (h d List.mem_cons_self) (by omega)
    obtain ⟨b1, b2, b3⟩ := dfold_ok ds a1 (fun e he => by rw [a3]; exact h e (List.mem_cons_of_mem _ he)) (by omega)
    refine ⟨b1, ?_, b3.trans a3⟩
    rw [List.length_cons]
    show manyM (ds.foldl stepM (stepM M d)) ≤ _
    omega
end Rc

namespace Rc
open PySem PySem.Spec PyProof.Rows L2 RZ
section
variable {P : Program} {w : World} {K : PySem.W.Frag} {mg : Str → Option Value} {base : Heap}
/-! ### _law_left -/
abbrev sLLf : Stmt := topS 31
theorem scLLf : FnScope ["_law_model_here", "_law_who"] ["_law_model_here", "_law_who"] (defScope sLLf) := ⟨rfl, rfl, rfl, by decide +kernel, rfl, by decide +kernel, by decide +kernel⟩
def spLLf (K : PySem.W.Frag) : Sp := fun vs H Q _ => ∃ (a : MdA) (D : Md) (zs : List Str) (z : Str) (j : Nat) (l : List (Str × Int)) (f : Int), vs = [.ref a.m, .str z] ∧ ModelAt K H zs a D ∧ zs[j]? = some z ∧ D.notes[j]? = some l ∧ D.fallen[j]? = some f ∧ l.length ≤ 100 ∧
  ∀ m mx H', Same H H' → H m = none → H' m = some (.lst mx) → DtAll K H' mx (notesD (leftN l f)) → Q (.ref m) H'
theorem ok_llf {f fp : Addr} {fd fdp : FuncData} (F : Fun K "_law_left" "_law_left" sLLf f fd) (PT : Has P w K mg base 1 "_law_parted" ["_law_model_here", "_law_who"] (spLPt K) fp fdp) : FnOk P w K mg base CX0 2 f fd ["_law_model_here", "_law_who"] (spLLf K) := by
  refine F.ok scLLf (fun vs H Q E h => ?_) (fun cdv Ar outer s H vs Q E hr h => ?_)
  · obtain ⟨_, _, _, _, _, _, _, rfl, _⟩ := h
    rfl
  · obtain ⟨a, D, zs, z, j, l, f0, rfl, hM, ej, el, ef, ll, q⟩ := h
    refine ⟨_, pss_one (ps_ret (pe_ix ix_tup (pe_call PT.ok hr (by rfl) PT.g PT.kp PT.b .nil pass0 (pa_cons (pv 0) (pa_cons (pv 1) pa_nil))) pe_int (fun _ _ => rfl))), ?_⟩
    refine ⟨.ref a.m, rfl, .str z, rfl, a, D, zs, z, j, l, f0, rfl, hM, ej, el, ef, ll, fun t g m gx mx H1 s1 ht ng nm hg hm dg dm => ?_⟩
    exact ⟨t, _, 1, .ref m, rfl, rfl, .inl (.inl ht), rfl, q m mx H1 s1 nm hm dm⟩
end
end Rc

namespace Rc
open PySem PySem.Spec PyProof.Rows L2 RZ
theorem give_ne_put : ¬ (V.str ("put" : Str)) = V.str ("give" : Str) := fun e => absurd (V.str.inj e) (by decide +kernel)
/-- what a deed changes -/
def MdA.Foot (a : MdA) (b : Addr) : Prop := b = a.dg ∨ b ∈ a.rs
def ButF (a : MdA) (H H' : Hp) : Prop := ∀ b o, ¬ a.Foot b → H b = some o → H' b = some o
theorem ModelAt.nofoot_tup {K : PySem.W.Frag} {H : Hp} {zs : List Str} {a : MdA} {D : Md} (h : ModelAt K H zs a D) {b : Addr} {o : HO} (e : H b = some o) (t : TupO o) : ¬ a.Foot b := fun f => by
  rcases f with f | f
  · rw [f, h.hg] at e
    cases e
    exact t
  · obtain ⟨i, hi, e'⟩ := List.getElem_of_mem f
    have hn : i < D.notes.length := by
      rw [h.ln, ← h.lr]
      exact hi
    obtain ⟨xs, e1, _⟩ := h.rows i b _ (by rw [List.getElem?_eq_getElem hi, e']) (List.getElem?_eq_getElem hn)
    rw [e1] at e
    cases e
    exact t
theorem ButF.kt {K : PySem.W.Frag} {H H' : Hp} {zs : List Str} {a : MdA} {D : Md} (b : ButF a H H') (h : ModelAt K H zs a D) : KT H H' := fun c o e t => b c o (h.nofoot_tup e t) e
theorem ButF.kp {K : PySem.W.Frag} {H H' : Hp} {zs : List Str} {a : MdA} {D : Md} (b : ButF a H H') (h : ModelAt K H zs a D) : Kp H H' := fun c o e t => b c o (fun f => by
  rcases f with f | f
  · rw [f, h.hg] at e
    cases e
    exact t
  · obtain ⟨i, hi, e'⟩ := List.getElem_of_mem f
    have hn : i < D.notes.length := by
      rw [h.ln, ← h.lr]
      exact hi
    obtain ⟨xs, e1, _⟩ := h.rows i c _ (by rw [List.getElem?_eq_getElem hi, e']) (List.getElem?_eq_getElem hn)
    rw [e1] at e
    cases e
    exact t) e
theorem deed_give {K : PySem.W.Frag} {H : Hp} {v : V} {z : Str} {n : Int} (h : Dt K H v (deedD (.give z n))) : Dt K H v (.tuple [.str "give", .str z, .int n]) := h
end Rc

namespace Rc
open PySem PySem.Spec PyProof.Rows L2 RZ
/-! ### data that can be shown -/
structure NiceD (d : PyData) (n : Nat) : Prop where
  sh : d.showable = true
  lv : d.leavesShort 1921 = true
  nd : d.hasDict = false
  dp : d.depth ≤ 5
  bk : d.bulk ≤ n
  cl : d.canLay0 = true
structure NiceA (ds : List PyData) (n : Nat) : Prop where
  sh : PyData.showableAll ds = true
  lv : PyData.leavesShortAll 1921 ds = true
  nd : PyData.hasDictAll ds = false
  dp : PyData.depthAll ds ≤ 4
  bk : PyData.bulkAll ds ≤ n
  cl : PyData.canLayAll0 ds = true
theorem NiceA.nil : NiceA [] 0 := ⟨rfl, rfl, rfl, Nat.zero_le _, Nat.le_refl _, rfl⟩
theorem NiceA.cons {d : PyData} {ds : List PyData} {n m : Nat} (a : NiceD d n) (hd : d.depth ≤ 4) (b : NiceA ds m) : NiceA (d :: ds) (n + 1 + m) := by
  refine ⟨?_, ?_, ?_, ?_, ?_, ?_⟩
  · simp only [PyData.showableAll, a.sh, b.sh, Bool.and_self]
  · simp only [PyData.leavesShortAll, a.lv, b.lv, Bool.and_self]
  · simp only [PyData.hasDictAll, a.nd, b.nd, Bool.or_self]
  · simp only [PyData.depthAll]
    have := b.dp
    omega
  · simp only [PyData.bulkAll]
    have := a.bk
    have := b.bk
    omega
  · simp only [PyData.canLayAll0, a.cl, b.cl, Bool.and_self]
theorem NiceA.list {ds : List PyData} {n : Nat} (a : NiceA ds n) : NiceD (.list ds) n := by
  refine ⟨by simpa only [PyData.showable] using a.sh, by simpa only [PyData.leavesShort] using a.lv, by simpa only [PyData.hasDict] using a.nd, ?_, by simpa only [PyData.bulk] using a.bk, by simpa only [PyData.canLay0] using a.cl⟩
  simp only [PyData.depth]
  have := a.dp
  omega
theorem NiceA.tuple {ds : List PyData} {n : Nat} (a : NiceA ds n) : NiceD (.tuple ds) n := by
  refine ⟨by simpa only [PyData.showable] using a.sh, by simpa only [PyData.leavesShort] using a.lv, by simpa only [PyData.hasDict] using a.nd, ?_, by simpa only [PyData.bulk] using a.bk, by simpa only [PyData.canLay0] using a.cl⟩
  simp only [PyData.depth]
  have := a.dp
  omega
def BigOk (i : Int) : Prop := i.natAbs < 2 ^ 300
theorem nice_int {i : Int} (h : BigOk i) : NiceD (.int i) 0 := by
  have h1 : i.natAbs.log2 < 1920 := Nat.lt_trans (PySem.Flt.log2_lt_of (by decide) h) (by decide)
  refine ⟨?_, ?_, by simp only [PyData.hasDict], by simp only [PyData.depth]; omega, by simp only [PyData.bulk]; omega, by simp only [PyData.canLay0]⟩
  · simp only [PyData.showable]
    exact decide_eq_true h1
  · simp only [PyData.leavesShort, PyData.shown]
    exact decide_eq_true (int_text_len_1921 h1)
theorem abc_lt : ∀ c ∈ abc, c < 128 := by decide +kernel
theorem name_signs {z : Str} (h : nameT z = true) : ∀ c ∈ z.cps.toList, c ∈ abc := by
  unfold nameT at h
  simp only [Bool.and_eq_true, List.all_eq_true, decide_eq_true_eq] at h
  exact h.2
theorem nice_name {z : Str} (h : nameT z = true) : NiceD (.str z) 8 := by
  have hs := name_signs h
  refine ⟨by simp only [PyData.showable], ?_, by simp only [PyData.hasDict], by simp only [PyData.depth]; omega, ?_, ?_⟩
  · simp only [PyData.leavesShort, List.all_eq_true, decide_eq_true_eq]
    exact fun c hc => Nat.lt_trans (abc_lt c (hs c hc)) (by decide)
  · simp only [PyData.bulk]
    exact (nameT_len h).2
  · simp only [PyData.canLay0]
    show z.cps.all (fun c => decide (c < 0x110000)) = true
    rw [← Array.all_toList, List.all_eq_true]
    exact fun c hc => decide_eq_true (Nat.lt_trans (abc_lt c (hs c hc)) (by decide))
theorem nice_names : ∀ {zs : List Str}, (∀ z ∈ zs, nameT z = true) → NiceA (zs.map PyData.str) (9 * zs.length)
  | [], _ => NiceA.nil
  | z :: r, h => by
    have a := nice_name (h z List.mem_cons_self)
    have b := nice_names fun y hy => h y (List.mem_cons_of_mem _ hy)
    have c := NiceA.cons a (by simp only [PyData.depth]; omega) b
    rw [List.map_cons, List.length_cons]
    have e : 9 * (r.length + 1) = 8 + 1 + 9 * r.length := by omega
    rw [e]
    exact c
/-- notes as the law draws them -/
def NoteOk (zs : List Str) (n : Str × Int) : Prop := n.1 ∈ zs ∧ Amt n.2
theorem amt_big {n : Int} (h : Amt n) : BigOk n := by
  have h1 := h.1
  have h2 := h.2
  have e : (10 : Int) ^ 58 < 2 ^ 300 := by decide
  have e2 : ((2 ^ 300 : Nat) : Int) = 2 ^ 300 := by decide
  unfold BigOk
  omega
theorem nice_note {zs : List Str} (hz : ∀ z ∈ zs, nameT z = true) {n : Str × Int} (h : NoteOk zs n) : NiceD (noteD n) 10 ∧ (noteD n).depth ≤ 1 := by
  have a := NiceA.cons (nice_name (hz _ h.1)) (by simp only [PyData.depth]; omega) (NiceA.cons (nice_int (amt_big h.2)) (by simp only [PyData.depth]; omega) NiceA.nil)
  exact ⟨a.tuple, by simp [noteD, PyData.depth, PyData.depthAll]⟩
theorem nice_notes {zs : List Str} (hz : ∀ z ∈ zs, nameT z = true) : ∀ {l : List (Str × Int)}, (∀ n ∈ l, NoteOk zs n) → NiceA (notesD l) (11 * l.length)
  | [], _ => NiceA.nil
  | n :: r, h => by
    obtain ⟨a, hd⟩ := nice_note hz (h n List.mem_cons_self)
    have b := nice_notes hz fun y hy => h y (List.mem_cons_of_mem _ hy)
    have c := NiceA.cons a (by omega) b
    rw [List.length_cons]
    have e : 11 * (r.length + 1) = 10 + 1 + 11 * r.length := by omega
    rw [e]
    exact c
theorem nice_fits {d : PyData} {n : Nat} (h : NiceD d n) (hn : n ≤ 8000) : (∃ i, d = .int i) ∨ d.shown.length ≤ sizeLine := by
  have h1 := PyData.shown_le_bulk 1921 (by decide) d h.lv
  have h2 := h.bk
  refine .inr ?_
  rw [sizeLine_eq]
  have : (1921 + 2) * d.bulk ≤ 1923 * 8000 := Nat.mul_le_mul (Nat.le_refl _) (by omega)
  omega
theorem nice_shaped {d : PyData} {n : Nat} (h : NiceD d n) : SeqAt.shaped d = true := by
  unfold SeqAt.shaped
  rw [h.cl, decide_eq_true (show d.depth ≤ 64 by have := h.dp; omega)]
  rfl
/-! ### where nothing has fallen -/
theorem part_zero {a : Int} (h : 1 ≤ a) : partOf a 0 = 0 := by
  unfold partOf
  rw [if_pos (by omega)]
theorem gone_zero : ∀ {l : List (Str × Int)}, (∀ n ∈ l, 1 ≤ n.2) → goneN l 0 = []
  | [], _ => rfl
  | (t, a) :: r, h => by
    rw [goneN_cons, part_zero (h _ List.mem_cons_self), if_neg (by omega), Int.sub_zero, gone_zero fun n hn => h n (List.mem_cons_of_mem _ hn)]
    rfl
theorem left_zero : ∀ {l : List (Str × Int)}, (∀ n ∈ l, 1 ≤ n.2) → leftN l 0 = l
  | [], _ => rfl
  | (t, a) :: r, h => by
    have ha : 1 ≤ a := h _ List.mem_cons_self
    rw [leftN_cons, part_zero ha, if_pos (by omega), Int.sub_zero, Int.sub_zero, left_zero fun n hn => h n (List.mem_cons_of_mem _ hn)]
    rfl
/-- a model as the law makes it: nothing fallen, k deeds at the most -/
structure Gd (zs : List Str) (D : Md) (k : Nat) : Prop where
  zf : D.fallen = zeros zs.length
  nt : ∀ l ∈ D.notes, ∀ n ∈ l, NoteOk zs n
  gv : ∀ g ∈ D.given, 0 ≤ g ∧ g ≤ (k : Int) * 10 ^ 58
  my : (D.notes.map List.length).sum ≤ k
  k1 : k ≤ 60
theorem Gd.big {zs : List Str} {D : Md} {k : Nat} (h : Gd zs D k) {g : Int} (hg : g ∈ D.given) : BigOk g := by
  obtain ⟨a, b⟩ := h.gv g hg
  have k1 := h.k1
  have e : (60 : Int) * 10 ^ 58 < 2 ^ 300 := by decide
  have e2 : ((2 ^ 300 : Nat) : Int) = 2 ^ 300 := by decide
  have : (k : Int) * 10 ^ 58 ≤ 60 * 10 ^ 58 := Int.mul_le_mul_of_nonneg_right (by omega) (by decide)
  unfold BigOk
  omega
theorem Gd.rows {zs : List Str} {D : Md} {k : Nat} (h : Gd zs D k) : RowsOk D := fun l hl => by
  have := len_le_sum hl
  have := h.my
  have := h.k1
  omega
theorem Gd.sums {zs : List Str} {D : Md} {k : Nat} (h : Gd zs D k) (z : Str) : sumsD D z = 0 := by
  unfold sumsD
  have : ∀ p ∈ D.notes.zip D.fallen, sumTo z (goneN p.1 p.2) = 0 := fun p hp => by
    obtain ⟨h1, h2⟩ := List.of_mem_zip hp
    have e : p.2 = 0 := by
      rw [h.zf] at h2
      exact List.eq_of_mem_replicate h2
    rw [e, gone_zero fun n hn => (h.nt _ h1 n hn).2.1]
    rfl
  generalize D.notes.zip D.fallen = L at this
  induction L with
  | nil => rfl
  | cons a r ih =>
    rw [List.map_cons, List.sum_cons, this a List.mem_cons_self, ih fun p hp => this p (List.mem_cons_of_mem _ hp)]
    rfl
theorem Gd.done {zs : List Str} {D : Md} {k : Nat} (h : Gd zs D k) {d : Deed} (od : d.Ok zs) (hk : k + 1 ≤ 60) (ln : D.notes.length = zs.length) (lg : D.given.length = zs.length) : Gd zs (doneD zs D d) (k + 1) := by
  have mono : ∀ g ∈ D.given, 0 ≤ g ∧ g ≤ ((k + 1 : Nat) : Int) * 10 ^ 58 := fun g hg => by
    obtain ⟨a, b⟩ := h.gv g hg
    refine ⟨a, Int.le_trans b (Int.mul_le_mul_of_nonneg_right (by omega) (by decide))⟩
  cases d with
  | give z n =>
    refine ⟨h.zf, h.nt, fun g hg => ?_, Nat.le_succ_of_le h.my, hk⟩
    rcases List.mem_or_eq_of_mem_set hg with hg | hg
    · exact mono g hg
    · have hj : zs.idxOf z < D.given.length := by
        rw [lg]
        exact List.idxOf_lt_length_of_mem od.1
      obtain ⟨a, b⟩ := h.gv (D.given.getD (zs.idxOf z) 0) (by
        rw [List.getD_eq_getElem?_getD, List.getElem?_eq_getElem hj]
        exact List.getElem_mem hj)
      obtain ⟨n1, n2⟩ := od.2
      have e : ((k + 1 : Nat) : Int) * 10 ^ 58 = (k : Int) * 10 ^ 58 + 10 ^ 58 := by
        rw [Int.natCast_add, Int.add_mul]
        rfl
      rw [hg, e]
      omega
  | put z y n =>
    have hj : zs.idxOf z < D.notes.length := by
      rw [ln]
      exact List.idxOf_lt_length_of_mem od.1
    refine ⟨h.zf, fun l hl m hm => ?_, mono, ?_, hk⟩
    · rcases List.mem_or_eq_of_mem_set hl with hl | hl
      · exact h.nt l hl m hm
      · rw [hl] at hm
        rcases List.mem_append.mp hm with hm | hm
        · refine h.nt (D.notes.getD (zs.idxOf z) []) ?_ m hm
          rw [List.getD_eq_getElem?_getD, List.getElem?_eq_getElem hj]
          exact List.getElem_mem hj
        · rw [List.mem_singleton.mp hm]
          exact od.2
    · have := sum_set D.notes (zs.idxOf z) (D.notes.getD (zs.idxOf z) [] ++ [(y, n)]) hj
      rw [List.length_append] at this
      have e1 : [(y, n)].length = 1 := rfl
      have := h.my
      show ((D.notes.set _ _).map List.length).sum ≤ k + 1
      omega
theorem Gd.new {zs : List Str} : Gd zs (newMd zs.length) 0 := by
  refine ⟨rfl, fun l hl n hn => ?_, fun g hg => ?_, ?_, by decide⟩
  · rw [List.eq_of_mem_replicate hl] at hn
    cases hn
  · rw [List.eq_of_mem_replicate hg]
    exact ⟨Int.le_refl _, by simp⟩
  · show ((List.replicate zs.length ([] : List (Str × Int))).map List.length).sum ≤ 0
    rw [List.map_replicate]
    simp
theorem Gd.ok {zs : List Str} {D : Md} {k : Nat} (h : Gd zs D k) (nz : NamesOk zs) (lg : D.given.length = zs.length) (ln : D.notes.length = zs.length) : (bkOf zs D).Ok := by
  refine ⟨nz.n0, nz.n1, nz.nd, nz.nm, lg, ln, ?_, ?_⟩
  · show D.fallen.length = _
    rw [h.zf]
    exact List.length_replicate
  · have := h.my
    have := h.k1
    show (D.notes.map List.length).sum ≤ 60
    omega
theorem DpAll.strs {K : PySem.W.Frag} {H : Hp} : ∀ zs : List Str, DpAll K H (zs.map V.str) (zs.map PyData.str)
  | [] => .nil
  | z :: r => .cons (.str z) (DpAll.strs r)
end Rc

namespace Rc
open PySem PySem.Spec PyProof.Rows L2 RZ
theorem Pot.ne {H : Hp} {p b : Addr} (h : Pot H p) (n : H b = none) : b ≠ p := by
  obtain ⟨x, y, e, _⟩ := h
  exact (ne_of_none e n).symm
def rListS (K : PySem.W.Frag) : List V → Hp → VK → Prop := fun xs H Q => ∃ p ys, xs = [.ref p] ∧ (SqL K H p ys ∨ SqT K H p ys) ∧ ∀ l, H l = none → Q (.ref l) (upd H l (.lst ys))
theorem call_listS {X : Cx} {K : PySem.W.Frag} (e : X.K = K) : CallR X (.type "list") (rListS K) := by
  subst e
  exact call_list_of
/-- a def that is called, no repr being under way -/
structure HasG (P : Program) (w : World) (K : PySem.W.Frag) (mg : Str → Option Value) (base : Heap) (k : Nat) (nm : Str) (ps : List Str) (sp : Sp) (f : Addr) (fd : FuncData) : Prop where
  ok : FnG P w K mg base CX0 k f fd ps sp
  g : mg nm = some (.ref f)
  kp : PySem.W.keepIn K (.ref f) = true
  b : Binds K fd ps []
mutual
theorem Dt.dp {K : PySem.W.Frag} {H : Hp} : ∀ {v : V} (d : PyData), tupD d = true → Dt K H v d → Dp K H v d
  | _, .none, _, h => by cases h; exact .non
  | _, .bool _, _, h => by cases h; exact .bl _
  | _, .int _, _, h => by cases h; exact .int _
  | _, .str _, _, h => by cases h; exact .str _
  | _, .list ds, t, h => by simp [tupD] at t
  | _, .dict ps, t, h => by simp [tupD] at t
  | _, .tuple ds, t, h => by
    cases h with
    | tup q a => exact .tup q (DtAll.dp ds (by simpa [tupD] using t) a)
theorem DtAll.dp {K : PySem.W.Frag} {H : Hp} : ∀ {vs : List V} (ds : List PyData), tupDs ds = true → DtAll K H vs ds → DpAll K H vs ds
  | _, [], _, h => by cases h; exact .nil
  | _, d :: ds, t, h => by
    cases h with
    | cons a b =>
      have t' : tupD d = true ∧ tupDs ds = true := by simpa [tupDs] using t
      exact .cons (Dt.dp d t'.1 a) (DtAll.dp ds t'.2 b)
end
theorem tup_key (M : Bk) : tupD (keyD M) = true := by
  have h1 := tup_strs M.names
  have h2 := tup_ints M.gifts
  have h3 := tup_stacks M.stacks
  have h4 := tup_ints M.drops
  unfold keyD
  simp only [tupD, tupDs] at *
  simp [h1, h2, h3, h4]
theorem lay_map {α : Type} {f : α → PyData} : ∀ {l : List α}, (∀ x ∈ l, (f x).canLay0 = true) → PyData.canLayAll0 (l.map f) = true
  | [], _ => rfl
  | x :: r, h => by
    rw [List.map_cons]
    simp only [PyData.canLayAll0, h x List.mem_cons_self, lay_map fun y hy => h y (List.mem_cons_of_mem _ hy), Bool.and_self]
theorem dep_map {α : Type} {f : α → PyData} {n : Nat} : ∀ {l : List α}, (∀ x ∈ l, (f x).depth ≤ n) → PyData.depthAll (l.map f) ≤ n
  | [], _ => Nat.zero_le _
  | x :: r, h => by
    rw [List.map_cons]
    simp only [PyData.depthAll]
    have h1 := h x List.mem_cons_self
    have h2 := dep_map (f := f) fun y hy => h y (List.mem_cons_of_mem _ hy)
    omega
def KeyOk (M : Bk) : Prop := SeqAt.shaped (keyD M) = true
theorem Gd.key {zs : List Str} {D : Md} {k : Nat} (h : Gd zs D k) (nz : NamesOk zs) : KeyOk (bkOf zs D) := by
  have ln : ∀ n : Str × Int, (noteD n).depth = 1 := fun n => by simp [noteD, PyData.depth, PyData.depthAll]
  have ls : ∀ l, (stackD l).depth ≤ 2 := fun l => by
    unfold stackD notesD
    simp only [PyData.depth]
    have := dep_map (f := noteD) (n := 1) (l := l) fun n _ => Nat.le_of_eq (ln n)
    omega
  have c1 : PyData.canLayAll0 (zs.map .str) = true := (nice_names nz.nm).cl
  have c2 : ∀ l : List Int, PyData.canLayAll0 (l.map .int) = true := fun l => lay_map fun x _ => by simp only [PyData.canLay0]
  have c3 : PyData.canLayAll0 (D.notes.map stackD) = true := lay_map fun l hl => by
    unfold stackD
    simp only [PyData.canLay0]
    exact (nice_notes nz.nm (h.nt l hl)).cl
  unfold KeyOk SeqAt.shaped
  have ec : (keyD (bkOf zs D)).canLay0 = true := by
    show (PyData.tuple [.tuple (zs.map .str), .tuple (D.given.map .int), .tuple (D.notes.map stackD), .tuple (D.fallen.map .int)]).canLay0 = true
    simp only [PyData.canLay0, PyData.canLayAll0, c1, c2, c3, Bool.and_self]
  have ed : (keyD (bkOf zs D)).depth ≤ 64 := by
    show (PyData.tuple [.tuple (zs.map .str), .tuple (D.given.map .int), .tuple (D.notes.map stackD), .tuple (D.fallen.map .int)]).depth ≤ 64
    simp only [PyData.depth, PyData.depthAll]
    have d1 := dep_map (f := PyData.str) (n := 0) (l := zs) fun _ _ => by simp only [PyData.depth]; omega
    have d2 := dep_map (f := PyData.int) (n := 0) (l := D.given) fun _ _ => by simp only [PyData.depth]; omega
    have d3 := dep_map (f := stackD) (n := 2) (l := D.notes) fun l _ => ls l
    have d4 := dep_map (f := PyData.int) (n := 0) (l := D.fallen) fun _ _ => by simp only [PyData.depth]; omega
    omega
  rw [ec, decide_eq_true ed]
  rfl
/-- an elder book and its key -/
def Elder (K : PySem.W.Frag) (C : Addr) (H : Hp) (v : V) : Prop := ∃ t b M kv, v = .ref t ∧ SqT K H t [.ref b, kv] ∧ BookAt K C H b M ∧ KeyOk M ∧ Dt K H kv (keyD M)
theorem Elder.keep {K : PySem.W.Frag} {C : Addr} {H H' : Hp} {v : V} (h : Elder K C H v) (k : Kp H H') : Elder K C H' v := by
  obtain ⟨t, b, M, kv, rfl, q, hb, ko, dk⟩ := h
  refine ⟨t, b, M, kv, rfl, ?_, hb.keep k, ko, Dt.keep k _ (tup_key M) dk⟩
  rcases q with (q | ⟨o, q⟩) | q
  · exact .inl (.inl (k _ _ q trivial))
  · exact .inl (.inr ⟨o, k _ _ q trivial⟩)
  · exact .inr q
theorem But.kpP {p : Addr} {H H' : Hp} (b : But p H H') (hp : Pot H p) : Kp H H' := by
  obtain ⟨x, y, e, _⟩ := hp
  exact b.kp e
theorem kp_same {H H' : Hp} (s : Same H H') : Kp H H' := fun b o e _ => s b o e
theorem mem_cut {xs : List V} {lo hi : Option Int} {v : V} (h : v ∈ cutV xs lo hi) : v ∈ xs := by
  unfold cutV at h
  exact List.mem_of_mem_drop (List.mem_of_mem_take h)
theorem op_eqS {X : Cx} {K : PySem.W.Frag} (e : X.K = K) (hu : X.A.units + 64 < cLine) : OpR X (compareOp .Eq) (rEqD K) := by
  subst e
  exact op_eqD hu
theorem len_zero : ∀ (L : List (List (Str × Int) × Int)), (∀ p ∈ L, p.2 = 0 ∧ ∀ n ∈ p.1, 1 ≤ n.2) → (L.flatMap fun p => leftN p.1 p.2).length = (L.map fun p => p.1.length).sum
  | [], _ => rfl
  | p :: r, h => by
    obtain ⟨e, hn⟩ := h p List.mem_cons_self
    have ih := len_zero r fun q hq => h q (List.mem_cons_of_mem _ hq)
    rw [List.flatMap_cons, List.length_append, ih, e, left_zero hn]
    rfl
theorem Gd.len {zs : List Str} {D : Md} {k : Nat} (h : Gd zs D k) (ln : D.notes.length = zs.length) : lenM (bkOf zs D) = (D.notes.map List.length).sum := by
  show (((D.notes.zip D.fallen).take zs.length).flatMap fun p => leftN p.1 p.2).length = _
  have lf : D.fallen.length = zs.length := by
    rw [h.zf]
    exact List.length_replicate
  rw [List.take_of_length_le (by rw [List.length_zip]; omega), len_zero _ fun p hp => ?_]
  · have : (D.notes.zip D.fallen).map (fun p => p.1.length) = ((D.notes.zip D.fallen).map Prod.fst).map List.length := by
      rw [List.map_map]
      rfl
    rw [this, List.map_fst_zip (by omega)]
  · obtain ⟨h1, h2⟩ := List.of_mem_zip hp
    rw [h.zf] at h2
    exact ⟨List.eq_of_mem_replicate h2, fun n hn => (h.nt _ h1 n hn).2.1⟩
/-- the model behind some deeds -/
def mdAt (zs : List Str) (ds : List Deed) : Md := ds.foldl (doneD zs) (newMd zs.length)
theorem done_lens (zs : List Str) (D : Md) (d : Deed) : (doneD zs D d).given.length = D.given.length ∧ (doneD zs D d).notes.length = D.notes.length := by
  cases d with
  | give z n => exact ⟨List.length_set, rfl⟩
  | put z y n => exact ⟨rfl, List.length_set⟩
theorem md_good (zs : List Str) : ∀ (ds : List Deed), (∀ d ∈ ds, d.Ok zs) → ds.length ≤ 60 → ∀ (D : Md) (k : Nat), Gd zs D k → D.given.length = zs.length → D.notes.length = zs.length → k + ds.length ≤ 60 →
    Gd zs (ds.foldl (doneD zs) D) (k + ds.length)
  | [], _, _, D, k, g, _, _, _ => g
  | d :: ds, h, hl, D, k, g, lg, ln, hk => by
    rw [List.length_cons] at hl hk
    obtain ⟨a, b⟩ := done_lens zs D d
    have := md_good zs ds (fun e he => h e (List.mem_cons_of_mem _ he)) (by omega) (doneD zs D d) (k + 1) (g.done (h d List.mem_cons_self) (by omega) ln lg) (by rw [a, lg]) (by rw [b, ln]) (by omega)
    rw [List.length_cons, Nat.add_comm ds.length 1, ← Nat.add_assoc]
    exact this
theorem md_at_good {zs : List Str} {ds : List Deed} (h : ∀ d ∈ ds, d.Ok zs) (hl : ds.length ≤ 60) : Gd zs (mdAt zs ds) ds.length := by
  have := md_good zs ds h hl (newMd zs.length) 0 Gd.new List.length_replicate List.length_replicate (by omega)
  rw [Nat.zero_add] at this
  exact this
end Rc

namespace Rc
open PySem PySem.Spec PyProof.Rows L2 RZ
theorem md_ext {A B : Md} (h1 : A.given = B.given) (h2 : A.fallen = B.fallen) (h3 : A.notes = B.notes) : A = B := by
  cases A
  cases B
  cases h1
  cases h2
  cases h3
  rfl
section
variable {K : PySem.W.Frag} {H : Hp} {zs : List Str} {a : MdA} {D : Md}
theorem ModelAt.row_some (h : ModelAt K H zs a D) {r : Addr} (m : r ∈ a.rs) : ∃ xs, H r = some (.lst xs) := by
  obtain ⟨i, hi, e'⟩ := List.getElem_of_mem m
  have hn : i < D.notes.length := by
    rw [h.ln, ← h.lr]
    exact hi
  obtain ⟨xs, e1, _⟩ := h.rows i r _ (by rw [List.getElem?_eq_getElem hi, e']) (List.getElem?_eq_getElem hn)
  exact ⟨xs, e1⟩
theorem ModelAt.nofoot (h : ModelAt K H zs a D) {c : Addr} (hc : H c = none) : ¬ a.Foot c := fun f => by
  rcases f with f | f
  · rw [f, h.hg] at hc
    cases hc
  · obtain ⟨xs, e⟩ := h.row_some f
    rw [hc] at e
    cases e
theorem MdA.Foot.has {b : Addr} (h : a.Foot b) : a.Has b := h.elim (fun e => .inr (.inr (.inl e))) (fun e => .inr (.inr (.inr (.inr (.inr e)))))
/-- another sum given -/
theorem ModelAt.setG (hM : ModelAt K H zs a D) {j : Nat} (g : Int) : ModelAt K (upd H a.dg (.dK (dct zs ((D.given.set j g).map V.int)))) zs a { D with given := D.given.set j g } := by
  have bf' : ButF a H (upd H a.dg (.dK (dct zs ((D.given.set j g).map V.int)))) := fun b o nf e => by
    rw [upd_ne (fun z => nf (.inl z))]
    exact e
  have rne : ∀ r ∈ a.rs, r ≠ a.dg := fun r hr z => by
    obtain ⟨xs, e1⟩ := hM.row_some hr
    rw [z, hM.hg] at e1
    cases e1
  have lone : a.lo ≠ a.dg := fun z => by
    have := hM.ho
    rw [z, hM.hg] at this
    cases this
  refine ⟨?_, ?_, ?_, ?_, ?_, fun i r l e1 e2 => ?_, hM.nd, hM.olo, hM.ogf, hM.ogn, hM.ogm, hM.omn, hM.zn, ?_, hM.lf, hM.ln, hM.lr⟩
  · rw [upd_ne hM.ogm.symm]
    exact hM.hm
  · rw [upd_ne lone]
    exact hM.ho
  · rw [upd_same]
  · rw [upd_ne hM.ogf.symm]
    exact hM.hf
  · rw [upd_ne hM.ogn.symm]
    exact hM.hn
  · obtain ⟨xs, e3, d3⟩ := hM.rows i r l e1 e2
    refine ⟨xs, ?_, DtAll.keepT (bf'.kt hM) _ (tup_notes l) d3⟩
    rw [upd_ne (rne r (List.mem_of_getElem? e1))]
    exact e3
  · show (D.given.set _ _).length = _
    rw [List.length_set]
    exact hM.lg
theorem nodup_set {α : Type} : ∀ {l : List α} {j : Nat} {r : α}, l.Nodup → r ∉ l → (l.set j r).Nodup
  | [], _, _, nd, _ => nd
  | x :: t, 0, r, nd, n => List.nodup_cons.mpr ⟨fun h => n (List.mem_cons_of_mem _ h), (List.nodup_cons.mp nd).2⟩
  | x :: t, j + 1, r, nd, n => by
    obtain ⟨h1, h2⟩ := List.nodup_cons.mp nd
    refine List.nodup_cons.mpr ⟨fun h => ?_, nodup_set h2 fun h => n (List.mem_cons_of_mem _ h)⟩
    rcases List.mem_or_eq_of_mem_set h with h | h
    · exact h1 h
    · exact n (by rw [h]; exact List.mem_cons_self)
theorem ModelAt.ofn (h : ModelAt K H zs a D) (n0 : 1 ≤ zs.length) : a.df ≠ a.dn := fun z => by
  have e := h.hf
  rw [z, h.hn] at e
  have e1 : dct zs (a.rs.map V.ref) = dct zs (D.fallen.map V.int) := HO.dK.inj (Option.some.inj e)
  have l1 := h.lr
  have l2 := h.lf
  match zs, a.rs, D.fallen, n0, l1, l2, e1 with
  | z :: r, x :: t, y :: u, _, _, _, e1 => 
    rw [List.map_cons, List.map_cons, dct_cons, dct_cons] at e1
    cases e1
/-- another row of notes -/
theorem ModelAt.setN (hM : ModelAt K H zs a D) {j : Nat} {r : Addr} {xs : List V} {l : List (Str × Int)} (hr : H r = some (.lst xs)) (hd : DtAll K H xs (notesD l)) (nr : r ∉ a.rs) (nlo : a.lo ≠ r) (n0 : 1 ≤ zs.length) :
    ModelAt K (upd H a.dn (.dK (dct zs ((a.rs.set j r).map V.ref)))) zs { a with rs := a.rs.set j r } { D with notes := D.notes.set j l } := by
  have kt : KT H (upd H a.dn (.dK (dct zs ((a.rs.set j r).map V.ref)))) := kt_upd hM.hn fun z => z
  have lne : ∀ {c : Addr} {ys : List V}, H c = some (.lst ys) → c ≠ a.dn := fun {c ys} e z => by
    rw [z, hM.hn] at e
    cases e
  refine ⟨?_, ?_, ?_, ?_, ?_, fun i r' l' e1 e2 => ?_, nodup_set hM.nd nr, fun m => ?_, hM.ogf, hM.ogn, hM.ogm, hM.omn, hM.zn, hM.lg, hM.lf, ?_, ?_⟩
  · show upd H a.dn _ a.m = _
    rw [upd_ne hM.omn]
    exact hM.hm
  · show upd H a.dn _ a.lo = _
    rw [upd_ne (lne hM.ho)]
    exact hM.ho
  · show upd H a.dn _ a.dg = _
    rw [upd_ne hM.ogn]
    exact hM.hg
  · show upd H a.dn _ a.df = _
    rw [upd_ne (hM.ofn n0)]
    exact hM.hf
  · exact upd_same
  · have e1' : (a.rs.set j r)[i]? = some r' := e1
    have e2' : (D.notes.set j l)[i]? = some l' := e2
    by_cases hij : j = i
    · subst hij
      obtain ⟨h1, k1⟩ := List.getElem?_eq_some_iff.mp e1'
      obtain ⟨h2, k2⟩ := List.getElem?_eq_some_iff.mp e2'
      rw [List.getElem_set_self] at k1 k2
      subst k1 k2
      refine ⟨xs, ?_, DtAll.keepT kt _ (tup_notes _) hd⟩
      show upd H a.dn _ _ = _
      rw [upd_ne (lne hr)]
      exact hr
    · rw [List.getElem?_set_ne hij] at e1' e2'
      obtain ⟨ys, e3, d3⟩ := hM.rows i r' l' e1' e2'
      refine ⟨ys, ?_, DtAll.keepT kt _ (tup_notes _) d3⟩
      show upd H a.dn _ _ = _
      rw [upd_ne (lne e3)]
      exact e3
  · have m' : a.lo ∈ a.rs.set j r := m
    rcases List.mem_or_eq_of_mem_set m' with m' | m'
    · exact hM.olo m'
    · exact nlo m'
  · show (D.notes.set _ _).length = _
    rw [List.length_set]
    exact hM.ln
  · show (a.rs.set _ _).length = _
    rw [List.length_set]
    exact hM.lr
end
end Rc

namespace Rc
open PySem PySem.Spec PyProof.Rows L2 RZ
/-! ### trails -/
def trailF (nx : Str → Option Str) : Nat → List Str → Option Str → List Str
  | 0, acc, _ => acc
  | _ + 1, acc, none => acc
  | k + 1, acc, some y => if y ∈ acc then acc else trailF nx k (acc ++ [y]) (nx y)
theorem trailF_none (nx : Str → Option Str) (k : Nat) (acc : List Str) : trailF nx k acc none = acc := by cases k <;> rfl
theorem trailF_in {nx : Str → Option Str} {k : Nat} {acc : List Str} {y : Str} (h : y ∈ acc) : trailF nx k acc (some y) = acc := by
  cases k with
  | zero => rfl
  | succ k =>
    simp only [trailF]
    rw [if_pos h]
theorem trailF_out {nx : Str → Option Str} {k : Nat} {acc : List Str} {y : Str} (h : y ∉ acc) : trailF nx (k + 1) acc (some y) = trailF nx k (acc ++ [y]) (nx y) := by
  simp only [trailF]
  rw [if_neg h]
def trailM (zs : List Str) (nx : Str → Option Str) (z : Str) : List Str := trailF nx zs.length [z] (nx z)
/-- a walk under way -/
structure TrailAt (zs : List Str) (nx : Str → Option Str) (z : Str) (k : Nat) (acc : List Str) (d : Option Str) : Prop where
  fin : trailF nx k acc d = trailM zs nx z
  nd : acc.Nodup
  sub : ∀ y ∈ acc, y ∈ zs
  len : zs.length ≤ acc.length + k
  last : ∃ ini y, acc = ini ++ [y] ∧ d = nx y
  first : ∃ r, acc = z :: r
def Leads (zs : List Str) (nx : Str → Option Str) : Prop := ∀ y x, nx y = some x → x ∈ zs
theorem TrailAt.start {zs : List Str} {nx : Str → Option Str} {z : Str} (h : z ∈ zs) : TrailAt zs nx z zs.length [z] (nx z) :=
  ⟨rfl, by simp, fun y hy => by rw [List.mem_singleton.mp hy]; exact h, by simp, ⟨[], z, rfl, rfl⟩, ⟨[], rfl⟩⟩
theorem TrailAt.step {zs : List Str} {nx : Str → Option Str} {z : Str} {k : Nat} {acc : List Str} {y : Str} (t : TrailAt zs nx z k acc (some y)) (c : Leads zs nx) (h : y ∉ acc) : ∃ k', k = k' + 1 ∧ TrailAt zs nx z k' (acc ++ [y]) (nx y) := by
  have hy : y ∈ zs := by
    obtain ⟨_, x, _, e⟩ := t.last
    exact c x y e.symm
  have nd : (acc ++ [y]).Nodup := by
    rw [List.nodup_append]
    refine ⟨t.nd, by simp, fun a ha b hb e => ?_⟩
    rw [List.mem_singleton.mp hb] at e
    exact h (e ▸ ha)
  have sub : ∀ x ∈ acc ++ [y], x ∈ zs := fun x hx => by
    rcases List.mem_append.mp hx with hx | hx
    · exact t.sub x hx
    · rw [List.mem_singleton.mp hx]
      exact hy
  have ll := nodup_le _ _ nd sub
  rw [List.length_append] at ll
  have l1 : [y].length = 1 := rfl
  have tl := t.len
  cases k with
  | zero => omega
  | succ k =>
    refine ⟨k, rfl, ?_, nd, sub, by rw [List.length_append]; omega, ⟨acc, y, rfl, rfl⟩, ?_⟩
    · rw [← t.fin, trailF_out h]
    · obtain ⟨r, e⟩ := t.first
      exact ⟨r ++ [y], by rw [e]; rfl⟩
theorem TrailAt.stopN {zs : List Str} {nx : Str → Option Str} {z : Str} {k : Nat} {acc : List Str} (t : TrailAt zs nx z k acc none) : acc = trailM zs nx z := by
  rw [← t.fin, trailF_none]
theorem TrailAt.stopI {zs : List Str} {nx : Str → Option Str} {z : Str} {k : Nat} {acc : List Str} {y : Str} (t : TrailAt zs nx z k acc (some y)) (h : y ∈ acc) : acc = trailM zs nx z := by
  rw [← t.fin, trailF_in h]
/-- where a walk has ended -/
structure Ended (zs : List Str) (nx : Str → Option Str) (z : Str) (d : Option Str) : Prop where
  nd : (trailM zs nx z).Nodup
  sub : ∀ y ∈ trailM zs nx z, y ∈ zs
  last : ∃ ini y, trailM zs nx z = ini ++ [y] ∧ d = nx y
  first : ∃ r, trailM zs nx z = z :: r
  back : ∀ y, d = some y → y ∈ trailM zs nx z
theorem TrailAt.ended {zs : List Str} {nx : Str → Option Str} {z : Str} {k : Nat} {acc : List Str} {d : Option Str} (t : TrailAt zs nx z k acc d) (h : d = none ∨ ∃ y, d = some y ∧ y ∈ acc) : acc = trailM zs nx z ∧ Ended zs nx z d := by
  have e : acc = trailM zs nx z := by
    rcases h with rfl | ⟨y, rfl, h⟩
    · exact t.stopN
    · exact t.stopI h
  refine ⟨e, ?_⟩
  refine ⟨by rw [← e]; exact t.nd, by rw [← e]; exact t.sub, by rw [← e]; exact t.last, by rw [← e]; exact t.first, fun y hy => ?_⟩
  rw [← e]
  rcases h with rfl | ⟨x, rfl, h⟩
  · cases hy
  · cases hy
    exact h
theorem walk_ends {zs : List Str} {nx : Str → Option Str} {z : Str} (c : Leads zs nx) : ∀ (k : Nat) (acc : List Str) (d : Option Str), TrailAt zs nx z k acc d → ∃ d', Ended zs nx z d' := fun k => by
  induction k with
  | zero =>
    intro acc d t
    cases d with
    | none => exact ⟨_, (t.ended (.inl rfl)).2⟩
    | some y =>
      by_cases h : y ∈ acc
      · exact ⟨_, (t.ended (.inr ⟨y, rfl, h⟩)).2⟩
      · obtain ⟨k', e, _⟩ := t.step c h
        cases e
  | succ k ih =>
    intro acc d t
    cases d with
    | none => exact ⟨_, (t.ended (.inl rfl)).2⟩
    | some y =>
      by_cases h : y ∈ acc
      · exact ⟨_, (t.ended (.inr ⟨y, rfl, h⟩)).2⟩
      · obtain ⟨k', e, t'⟩ := t.step c h
        cases e
        exact ih _ _ t'
/-- the last person of the trail, and what is due of it -/
def lastM (zs : List Str) (nx : Str → Option Str) (z : Str) : Str := (trailM zs nx z).getLastD z
theorem lastM_eq {zs : List Str} {nx : Str → Option Str} {z y : Str} {ini : List Str} (h : trailM zs nx z = ini ++ [y]) : lastM zs nx z = y := by
  unfold lastM
  rw [h]
  simp
theorem trail_ended {zs : List Str} {nx : Str → Option Str} {z : Str} (c : Leads zs nx) (h : z ∈ zs) : Ended zs nx z (nx (lastM zs nx z)) := by
  obtain ⟨d, e⟩ := walk_ends c _ _ _ (TrailAt.start (nx := nx) h)
  obtain ⟨ini, y, e1, e2⟩ := e.last
  rw [lastM_eq e1, ← e2]
  exact e
theorem Ended.det {zs : List Str} {nx : Str → Option Str} {z : Str} {d : Option Str} (e : Ended zs nx z d) : d = nx (lastM zs nx z) := by
  obtain ⟨ini, y, e1, e2⟩ := e.last
  rw [lastM_eq e1, e2]
/-! ### rings -/
def firstM (zs T : List Str) : Str := (zs.find? fun x => decide (x ∈ T)).getD Str.empty
def ringM (zs : List Str) (nx : Str → Option Str) (z : Str) : Option (List Str) :=
  if nx (lastM zs nx z) = some z then
    some ((trailM zs nx z).drop ((trailM zs nx z).idxOf (firstM zs (trailM zs nx z))) ++ (trailM zs nx z).take ((trailM zs nx z).idxOf (firstM zs (trailM zs nx z))))
  else none
/-- at whom the trail ends -/
def endM (zs : List Str) (nx : Str → Option Str) (z : Str) : Option Str := if nx (lastM zs nx z) = none then some (lastM zs nx z) else none
theorem find_some {zs T : List Str} {z : Str} (h1 : z ∈ zs) (h2 : z ∈ T) : ∃ f r, (zs.filter fun x => decide (x ∈ T)) = f :: r ∧ firstM zs T = f ∧ f ∈ T ∧ f ∈ zs := by
  have hm : z ∈ zs.filter fun x => decide (x ∈ T) := List.mem_filter.mpr ⟨h1, decide_eq_true h2⟩
  cases e : zs.filter fun x => decide (x ∈ T) with
  | nil =>
    rw [e] at hm
    cases hm
  | cons f r =>
    have hf : f ∈ zs.filter fun x => decide (x ∈ T) := by
      rw [e]
      exact List.mem_cons_self
    obtain ⟨a, b⟩ := List.mem_filter.mp hf
    refine ⟨f, r, rfl, ?_, of_decide_eq_true b, a⟩
    unfold firstM
    rw [← List.head?_filter, e]
    rfl
/-- the first by its least place -/
theorem first_min {zs T : List Str} {m : Nat} {z : Str} (nd : zs.Nodup) (hz : zs[m]? = some z) (hT : z ∈ T) (hm : ∀ y ∈ T, m ≤ zs.idxOf y) : firstM zs T = z := by
  unfold firstM
  have hl : m < zs.length := (List.getElem?_eq_some_iff.mp hz).1
  have ez : zs[m] = z := (List.getElem?_eq_some_iff.mp hz).2
  have e : zs.find? (fun x => decide (x ∈ T)) = some z := by
    rw [List.find?_eq_some_iff_getElem]
    refine ⟨decide_eq_true hT, m, hl, ez, fun j hj => ?_⟩
    have hjl : j < zs.length := by omega
    have : ¬ zs[j] ∈ T := fun c => by
      have h1 := hm _ c
      rw [nd.idxOf_getElem j hjl] at h1
      omega
    simp [this]
  rw [e]
  rfl
/-! ### due notes -/
def dueD : Option (Str × Int) → PyData
  | none => .none
  | some n => noteD n
theorem tup_due (o : Option (Str × Int)) : tupD (dueD o) = true := by
  cases o with
  | none => rfl
  | some n => exact tup_note n
def duesM (M : Bk) : List (Option (Str × Int)) := (M.stacks.zip M.drops).map fun p => (leftN p.1 p.2).head?
def nxOf (zs : List Str) (os : List (Option (Str × Int))) (y : Str) : Option Str := (os.getD (zs.idxOf y) none).map (·.1)
def nxV : Option Str → V
  | none => .non
  | some y => .str y
theorem nxV_non {o : Option Str} : nxV o = .non ↔ o = none := by
  cases o with
  | none => simp [nxV]
  | some y => simp [nxV]
theorem leftN_to : ∀ {l : List (Str × Int)} {f : Int} {n : Str × Int}, n ∈ leftN l f → ∃ a, (n.1, a) ∈ l
  | [], _, _, h => by cases h
  | (t, a) :: r, f, n, h => by
    rw [leftN_cons] at h
    rcases List.mem_append.mp h with h | h
    · split at h
      · rw [List.mem_singleton.mp h]
        exact ⟨a, List.mem_cons_self⟩
      · cases h
    · obtain ⟨b, hb⟩ := leftN_to h
      exact ⟨b, List.mem_cons_of_mem _ hb⟩
def Closed (M : Bk) : Prop := ∀ l ∈ M.stacks, ∀ n ∈ l, n.1 ∈ M.names
theorem dues_at {M : Bk} {j : Nat} {l : List (Str × Int)} {f : Int} (h1 : M.stacks[j]? = some l) (h2 : M.drops[j]? = some f) : (duesM M)[j]? = some (leftN l f).head? := by
  unfold duesM
  rw [List.getElem?_map, List.getElem?_zip_eq_some (z := (l, f)) |>.mpr ⟨h1, h2⟩]
  rfl
theorem dues_mem {M : Bk} {n : Str × Int} (h : some n ∈ duesM M) : ∃ l f, l ∈ M.stacks ∧ f ∈ M.drops ∧ n ∈ leftN l f := by
  unfold duesM at h
  obtain ⟨p, hp, e⟩ := List.mem_map.mp h
  obtain ⟨h1, h2⟩ := List.of_mem_zip hp
  exact ⟨p.1, p.2, h1, h2, List.mem_of_head? e⟩
theorem getD_mem {α : Type} {l : List (Option α)} {j : Nat} {x : α} (h : l.getD j none = some x) : some x ∈ l := by
  rw [List.getD_eq_getElem?_getD] at h
  cases e : l[j]? with
  | none =>
    rw [e] at h
    cases h
  | some y =>
    rw [e] at h
    have h' : y = some x := h
    rw [← h']
    exact List.mem_of_getElem? e
theorem Closed.leads {M : Bk} (c : Closed M) : Leads M.names (nxOf M.names (duesM M)) := fun y x h => by
  unfold nxOf at h
  obtain ⟨n, e1, e2⟩ := Option.map_eq_some_iff.mp h
  obtain ⟨l, f, hl, hf, hn⟩ := dues_mem (getD_mem e1)
  obtain ⟨a, ha⟩ := leftN_to hn
  rw [← e2]
  exact c l hl (n.1, a) ha
/-! ### what falls of a due note -/
def wholeN (l : List (Str × Int)) : Int := (l.map (·.2)).sum
theorem wholeN_nonneg {l : List (Str × Int)} (h : ∀ n ∈ l, 1 ≤ n.2) : 0 ≤ wholeN l := by
  induction l with
  | nil => exact Int.le_refl _
  | cons n r ih =>
    have := ih fun m hm => h m (List.mem_cons_of_mem _ hm)
    have h1 := h n List.mem_cons_self
    show 0 ≤ ((n :: r).map (·.2)).sum
    rw [List.map_cons, List.sum_cons]
    have e : wholeN r = (r.map (·.2)).sum := rfl
    omega
theorem wholeN_cons (n : Str × Int) (r : List (Str × Int)) : wholeN (n :: r) = n.2 + wholeN r := by
  unfold wholeN
  rw [List.map_cons, List.sum_cons]
theorem sumTo_one (z t : Str) (a : Int) (h : 0 ≤ a) : sumTo z (if 0 < a then [(t, a)] else []) = if t = z then a else 0 := by
  unfold sumTo
  by_cases h0 : 0 < a
  · rw [if_pos h0]
    by_cases hz : t = z <;> simp [hz]
  · have : a = 0 := by omega
    rw [if_neg h0, this]
    split <;> rfl
theorem sumTo_app (z : Str) (l r : List (Str × Int)) : sumTo z (l ++ r) = sumTo z l + sumTo z r := by
  unfold sumTo
  rw [List.filter_append, List.map_append, List.sum_append]
theorem sumTo_nil (z : Str) : sumTo z [] = 0 := rfl
theorem fall_one : ∀ {l : List (Str × Int)} {f m a : Int} {t : Str} {r : List (Str × Int)}, (∀ n ∈ l, 1 ≤ n.2) → 0 ≤ f → 0 ≤ m → m ≤ a → leftN l f = (t, a) :: r →
    f + m ≤ wholeN l ∧ ∀ z, sumTo z (goneN l (f + m)) = sumTo z (goneN l f) + if t = z then m else 0
  | [], _, _, _, _, _, _, _, _, _, e => by cases e
  | (t0, a0) :: r0, f, m, a, t, r, h, f0, m0, ma, e => by
    have h0 : 1 ≤ a0 := h _ List.mem_cons_self
    have hr : ∀ n ∈ r0, 1 ≤ n.2 := fun n hn => h n (List.mem_cons_of_mem _ hn)
    have wr := wholeN_nonneg hr
    rw [wholeN_cons]
    rw [leftN_cons] at e
    by_cases hf : f < a0
    · have ep : partOf a0 f = f := by
        unfold partOf
        rw [if_pos hf]
      rw [ep, if_pos hf, Int.sub_self] at e
      have e' : (t0, a0 - f) :: leftN r0 0 = (t, a) :: r := e
      injection e' with e1 e2
      injection e1 with e1 e3
      subst e1 e3
      have ep2 : partOf a0 (f + m) = f + m := by
        unfold partOf
        split <;> omega
      refine ⟨by show f + m ≤ a0 + wholeN r0; omega, fun z => ?_⟩
      rw [goneN_cons, goneN_cons, ep, ep2, Int.sub_self, Int.sub_self, gone_zero hr, List.append_nil, List.append_nil, sumTo_one z t0 _ (by omega), sumTo_one z t0 _ f0]
      split <;> omega
    · have ep : partOf a0 f = a0 := by
        unfold partOf
        rw [if_neg hf]
      have ep2 : partOf a0 (f + m) = a0 := by
        unfold partOf
        rw [if_neg (by omega)]
      rw [ep, if_neg (by omega)] at e
      have e' : leftN r0 (f - a0) = (t, a) :: r := e
      obtain ⟨i1, i2⟩ := fall_one hr (by omega) m0 ma e'
      refine ⟨by show f + m ≤ a0 + wholeN r0; omega, fun z => ?_⟩
      rw [goneN_cons, goneN_cons, ep, ep2, sumTo_app, sumTo_app, show f + m - a0 = f - a0 + m by omega, i2 z]
      omega
theorem leftN_ok {zs : List Str} : ∀ {l : List (Str × Int)} {f : Int}, (∀ n ∈ l, NoteOk zs n) → 0 ≤ f → ∀ n ∈ leftN l f, NoteOk zs n
  | [], _, _, _, n, hn => by cases hn
  | (t, a) :: r, f, h, f0, n, hn => by
    have h0 := h _ List.mem_cons_self
    have ha : 1 ≤ a ∧ a ≤ 10 ^ 58 := h0.2
    have hp : 0 ≤ partOf a f ∧ partOf a f ≤ f := by
      unfold partOf
      split <;> omega
    rw [leftN_cons] at hn
    rcases List.mem_append.mp hn with hn | hn
    · split at hn
      · rename_i c
        rw [List.mem_singleton.mp hn]
        exact ⟨h0.1, by show 1 ≤ a - partOf a f; omega, by show a - partOf a f ≤ 10 ^ 58; omega⟩
      · cases hn
    · exact leftN_ok (fun m hm => h m (List.mem_cons_of_mem _ hm)) (by omega) n hn
end Rc

namespace Rc
open PySem PySem.Spec PyProof.Rows L2 RZ
/-! ### what is let fall -/
def moreAt (ps : List (Str × Int)) (z : Str) : Int := ((ps.find? fun p => decide (p.1 = z)).map (·.2)).getD 0
def moreK (ps : List (Str × Int)) : List (Key × V) := ps.map fun p => (Sum.inr p.1, .int p.2)
def fallM (M : Bk) (ps : List (Str × Int)) : Bk := { M with drops := (M.names.zip M.drops).map fun p => p.2 + moreAt ps p.1 }
theorem more_val (z : Str) : ∀ ps : List (Str × Int), (valV (moreK ps) (Sum.inr z : Key)).getD (.int 0) = .int (moreAt ps z)
  | [] => rfl
  | p :: r => by
    have ih := more_val z r
    show (valV ((Sum.inr p.1, V.int p.2) :: moreK r) (Sum.inr z : Key)).getD (.int 0) = .int (moreAt (p :: r) z)
    unfold moreAt
    by_cases h : p.1 = z
    · rw [valV_pos (show ((Sum.inr p.1 : Key), V.int p.2).1 = Sum.inr z from congrArg Sum.inr h), List.find?_cons_of_pos (by simp [h])]
      rfl
    · rw [valV_neg (fun e => h (Sum.inr.inj e)), ih, List.find?_cons_of_neg (by simp [h])]
      rfl
structure FallOk (M : Bk) (ps : List (Str × Int)) : Prop where
  kd : ∀ p ∈ ps, ∃ (j : Nat) (l : List (Str × Int)) (f : Int), M.names[j]? = some p.1 ∧ M.stacks[j]? = some l ∧ M.drops[j]? = some f ∧ 0 ≤ p.2 ∧ f + p.2 ≤ wholeN l
  cs : ∀ (j : Nat) (z : Str), M.names[j]? = some z → 0 ≤ cashM (fallM M ps) j z
theorem fall_ok {M : Bk} (ok : M.Ok) (ps : List (Str × Int)) : (fallM M ps).Ok := by
  refine ⟨ok.n0, ok.n1, ok.nd, ok.nm, ok.lg, ok.ls, ?_, ok.many⟩
  show ((M.names.zip M.drops).map _).length = _
  rw [List.length_map, List.length_zip, ok.ld, Nat.min_self]
  rfl
theorem same_unlock {H H' : Hp} {d : Addr} {od : Obj} {u : HO} (h : H d = some u) (s : Same (upd H d (.frz od u)) H') : Same H (upd H' d u) := fun b o e => by
  by_cases c : b = d
  · rw [c, h] at e
    rw [c, upd_same]
    exact e
  · rw [upd_ne c]
    exact s b o (by rw [upd_ne c]; exact e)
theorem kp_lock {H : Hp} {d : Addr} {od : Obj} {kvs : List (Key × V)} (h : H d = some (.dK kvs)) : Kp H (upd H d (.frz od (.dK kvs))) := fun b o e f => by
  have nb : b ≠ d := fun z => by
    rw [z, h] at e
    cases e
    exact f
  rw [upd_ne nb]
  exact e
section
variable {P : Program} {w : World} {K : PySem.W.Frag} {mg : Str → Option Value} {base : Heap}
/-! ### whole_of -/
abbrev sWhOf : Stmt := inBook 9
abbrev nWhOf : List Str := ["self", "who", "to", "amount"]
theorem scWhOf : FnScope nWhOf ["self", "who"] (defScope sWhOf) := ⟨rfl, rfl, rfl, by decide +kernel, rfl, by decide +kernel, by decide +kernel⟩
theorem ok_whOf {f fn C : Addr} {fd fdn : FuncData} (F : Fun K "whole_of" "Book.whole_of" sWhOf f fd) (T : ClsF K C) (B3 : Blt3 mg) (NT : HasM P w K mg base C 4 "notes" ["self", "who"] (spRow K C fun l _ => l) fn fdn) :
    FnOk P w K mg base CX0 5 f fd ["self", "who"] (spCalc K C fun M j _ => wholeN (M.stacks.getD j [])) := by
  refine F.ok scWhOf (fun vs H Q E h => ?_) (fun cdv A outer s H vs Q E hr h => ?_)
  · obtain ⟨_, _, _, _, rfl, _⟩ := h
    rfl
  · obtain ⟨b, M, z, j, rfl, hb, ok, ej, q⟩ := h
    refine ⟨_, pss_one (ps_ret (pe_callB (cr_sum rfl) (by rfl) B3.sum (by decide +kernel) (pa_cons
          (pe_lc (own := [("to", 2), ("amount", 3)]) (g := gTup K 2 (gCons (gName 2) (gCons (gName 3) gNil))) (tt := tYes) rfl scWhOf.nd (pi_list (pe_meth (pv 0) T.cl NT.m NT.ok hr NT.b .nil pass0 (pa_cons (pv 1) pa_nil))) (blkOk_by (N := nWhOf) (sc := defScope sWhOf) (own := [("to", 2), ("amount", 3)]) (by decide +kernel))
            (fun _ _ _ _ _ => pg_tup rfl (pgs_cons (pg_name (i := 2) scWhOf.nd rfl (.inl rfl) (hf := .inr rfl)) (pgs_cons (pg_name (i := 3) scWhOf.nd rfl (.inl rfl) (hf := .inr rfl)) pgs_nil)))
            (fun _ _ _ _ _ => pts_nil) (fun _ _ _ _ _ => pv 3)) pa_nil))), ?_⟩
    obtain ⟨g, l, d, eg, el, ed, ll⟩ := ok.at_ ej
    obtain ⟨dx, tn, on, wg, ws, wd, e, h1, hn, h2, h3, h4⟩ := hb.ex
    refine ⟨.ref b, rfl, b, dx, _, rfl, e, bf_no (NoF.mk' (by decide +kernel)), .str z, rfl, b, M, z, j, l, d, rfl, hb, ok.names, ej, el, ed, by omega, fun r xs H1 s1 nr hr1 dr => ⟨r, rfl, ⟨_, .inl (.inl hr1)⟩, fun D nD => ?_⟩⟩
    have lx : xs.length = l.length := by
      rw [dr.len]
      unfold notesD
      rw [List.length_map]
    refine lc_it (walk_list (K := K) (a := r) (xs := xs)) (fun i H' => Same H1 H' ∧ H' D = some (.lst ((l.take i).map fun n => .int n.2))) ⟨same_upd nD, upd_same⟩ (fun i H' _ hP => hP.1.seq (.inl (.inl hr1)))
      (fun i x H2' H2 hi hP hY => ?_) (fun H2 hP => ?_)
    · obtain ⟨rfl, hx⟩ := hY
      obtain ⟨hil, dn⟩ := (DtAll.same hP.1 _ dr).notes_get hx
      obtain ⟨na, rfl, qn⟩ := note_inv dn
      refine ⟨na, _, rfl, qn, rfl, _, _, rfl, _, _, rfl, rfl, rfl, _, rfl, _, hP.2, ?_, fun c o ec => ?_, ?_⟩
      · rw [List.length_map, List.length_take]
        exact small1000 (by omega)
      · rw [upd_ne (ne_of_none ec nD)]
        exact hP.1 c o ec
      · rw [upd_same, take_succ hil, List.map_append]
        rfl
    · refine ⟨D, l.map (·.2), rfl, .inl (.inl ?_), ?_⟩
      · rw [hP.2, lx, List.take_length, List.map_map]
        rfl
      have qq : Q (V.int (wholeN (M.stacks.getD j []))) H2 := q H2 (s1.trans hP.1)
      rw [getD_of el] at qq
      exact qq
/-! ### may_fall -/
abbrev sMayF : Stmt := inBook 14
abbrev nMayF : List Str := ["self", "more", "who", "much"]
theorem scMayF : FnScope nMayF ["self", "more"] (defScope sMayF) := ⟨rfl, rfl, rfl, by decide +kernel, rfl, by decide +kernel, by decide +kernel⟩
def spMayF (K : PySem.W.Frag) (C : Addr) : Sp := fun vs H Q _ => ∃ (b d : Addr) (M : Bk) (ps : List (Str × Int)), vs = [.ref b, .ref d] ∧ BookAt K C H b M ∧ M.Ok ∧ H d = some (.dK (moreK ps)) ∧ FallOk M ps ∧ ∀ H', Same H H' → Q (.bl true) H'
theorem ok_mayF {f f1 f2 f3 f4 C : Addr} {fd fd1 fd2 fd3 fd4 : FuncData} (F : Fun K "may_fall" "Book.may_fall" sMayF f fd) (T : ClsF K C) (B : Blt mg) (B3 : Blt3 mg)
    (HS : HasM P w K mg base C 2 "has" ["self", "who"] (spHas K C) f1 fd1) (WH : Has P w K mg base 1 "is_whole" ["thing"] (spBool K wholeD) f2 fd2)
    (FL : HasM P w K mg base C 4 "fallen" ["self", "who"] (spNum K C Bk.drops) f3 fd3) (WO : HasM P w K mg base C 5 "whole_of" ["self", "who"] (spCalc K C fun M j _ => wholeN (M.stacks.getD j [])) f4 fd4) :
    FnOk P w K mg base CX0 6 f fd ["self", "more"] (spMayF K C) := by
  refine F.ok scMayF (fun vs H Q E h => ?_) (fun cdv A outer s H vs Q E hr h => ?_)
  · obtain ⟨_, _, _, _, rfl, _⟩ := h
    rfl
  · obtain ⟨b, d, M, ps, rfl, hb, ok, hd, fo, q⟩ := h
    have hr1 := hr.mono (show 1 ≤ 5 by decide)
    have hr2 := hr.mono (show 2 ≤ 5 by decide)
    have hr4 := hr.mono (show 4 ≤ 5 by decide)
    refine ⟨_, pss_cons (ps_if (pt_not (pt_val (pe_callB call_isi (by rfl) B.isi (by decide +kernel) (pa_cons (pv 1) (pa_cons (pe_bltn (v := .ty "dict") (by rfl) B3.dict (by decide +kernel) rfl) pa_nil))))) (pss_one (ps_ret pe_bl)) pss_nil)
      (pss_cons (ps_lock (ps_for PassesOwn.never rfl (pi_items (pv 1)) (pg_tup rfl (pgs_cons (pg_name (i := 2) scMayF.nd rfl (.inl rfl)) (pgs_cons (pg_name (i := 3) scMayF.nd rfl (.inl rfl)) pgs_nil)))
        (pss_cons (ps_if (PW.pt (pw_or (pt_not (pt_val (pe_meth (pv 0) T.cl HS.m HS.ok hr2 HS.b .nil pass0 (pa_cons (pv 2) pa_nil)))) (pw_or (pt_not (pt_val (pe_call WH.ok hr1 (by rfl) WH.g WH.kp WH.b .nil pass0 (pa_cons (pv 3) pa_nil))))
          (pw_or1 (pt_cmpR op_lt (pv 3) pe_int (nomark _)))))) (pss_one (ps_ret pe_bl)) pss_nil)
        (pss_one (ps_if (pt_cmpR op_gt (pe_op op_add (pe_meth (pv 0) T.cl FL.m FL.ok hr4 FL.b .nil pass0 (pa_cons (pv 2) pa_nil)) (pv 3)) (pe_meth (pv 0) T.cl WO.m WO.ok hr WO.b .nil pass0 (pa_cons (pv 2) pa_nil)) (nomark _)) (pss_one (ps_ret pe_bl)) pss_nil)))))
      (pss_one (ps_ret pe_bl))), ?_⟩
    refine ⟨.ref d, rfl, _, .ty "dict", _, _, true, rfl, .ty "dict", .base (.dK hd), kit_ty (by decide +kernel), _, rfl, iteF ?_⟩
    refine ⟨d, _, hd, trivial, fun od => ?_⟩
    have hbL := hb.keep (kp_lock (od := od) hd)
    obtain ⟨dx, tn, on, wg, ws, wd, e, h1, hn, h2, h3, h4⟩ := hbL.ex
    have hdL : upd H d (.frz od (.dK (moreK ps))) d = some (.frz od (.dK (moreK ps))) := upd_same
    have un : ∀ H', Same (upd H d (.frz od (.dK (moreK ps)))) H' → Same H (upd H' d (.dK (moreK ps))) := fun H' s' => same_unlock hd s'
    generalize upd H d (.frz od (.dK (moreK ps))) = HL at hbL e h1 h2 h3 h4 hdL un
    refine ⟨.ref d, rfl, d, od, _, rfl, hdL, ?_⟩
    refine for_it (walk_items (kvs := moreK ps)) (fun i σ H' => ∃ y2 y3, σ = [some (.ref b), some (.ref d), y2, y3] ∧ Same HL H') ⟨_, _, rfl, Same.refl _⟩ (fun i σ H' _ hP => ?_) (fun i x σ H1' H1 hi hP hY => ?_) (fun σ H' hP => ?_)
    · obtain ⟨_, _, _, s1⟩ := hP
      exact s1 _ _ hdL
    · obtain ⟨Tt, x1, x2, rfl, nT, rfl, e1, e2⟩ := hY
      obtain ⟨y2, y3, rfl, s1⟩ := hP
      have hi' : i < ps.length := by
        unfold moreK at hi
        rw [List.length_map] at hi
        exact hi
      have ek : (moreK ps)[i]? = some (Sum.inr ps[i].1, V.int ps[i].2) := by
        unfold moreK
        rw [List.getElem?_map, List.getElem?_eq_getElem hi']
        rfl
      have e1' : (moreK ps)[i]?.map (fun kv => kV kv.1) = some x1 := e1
      have e2' : (moreK ps)[i]?.map Prod.snd = some x2 := e2
      rw [ek] at e1' e2'
      have ex1 : x1 = .str ps[i].1 := (Option.some.inj e1').symm
      have ex2 : x2 = .int ps[i].2 := (Option.some.inj e2').symm
      subst ex1 ex2
      obtain ⟨j, l, fl, ej, el, ef, m0, mw⟩ := fo.kd _ (List.getElem_mem hi')
      generalize ps[i] = pm at ej m0 mw nT s1
      obtain ⟨z, m⟩ := pm
      have s2 := s1.trans (same_upd (o := .tup [V.str z, V.int m]) nT)
      have hT : upd H1' Tt (.tup [V.str z, V.int m]) Tt = some (.tup [V.str z, V.int m]) := upd_same
      generalize upd H1' Tt (.tup [V.str z, V.int m]) = H2 at s2 hT
      refine ⟨Tt, [.str z, .int m], rfl, .inl (.inl hT), rfl, _, _, rfl, _, _, rfl, rfl, ?_⟩
      have hm : z ∈ M.names := List.mem_of_getElem? ej
      have lz := (nameT_len (ok.nm z hm)).2
      refine ⟨.ref b, rfl, b, dx, _, rfl, s2 _ _ e, bf_no (NoF.mk' (by decide +kernel)), .str z, rfl, b, M, .str z, .str z, rfl, book_same hbL s2, ok.names, .str z, (fun y ey => by cases ey; omega), fun H3 s3 => ⟨_, rfl, ?_⟩⟩
      have eh : hasD M (.str z) = true := decide_eq_true hm
      rw [eh]
      refine iteF ⟨.int m, rfl, .int m, .int m, rfl, .int m, (fun y ey => by cases ey), fun H4 s4 => ⟨_, rfl, iteF ⟨.int m, rfl, _, _, rfl, rfl, _, rfl, ?_⟩⟩⟩
      rw [show decide (m < 0) = false from decide_eq_false (by have : (0 : Int) ≤ m := m0; omega)]
      have s24 := s2.trans (s3.trans s4)
      refine iteF ⟨.ref b, rfl, b, dx, _, rfl, s24 _ _ e, bf_no (NoF.mk' (by decide +kernel)), .str z, rfl, b, M, z, j, fl, rfl, book_same hbL s24, ok.names, ej, ef, fun H5 s5 => ⟨.int m, rfl, fl, m, rfl, rfl, ?_⟩⟩
      have s25 := s24.trans s5
      refine ⟨.ref b, rfl, b, dx, _, rfl, s25 _ _ e, bf_no (NoF.mk' (by decide +kernel)), .str z, rfl, b, M, z, j, rfl, book_same hbL s25, ok, ej, fun H6 s6 => ⟨_, _, rfl, rfl, _, rfl, ?_⟩⟩
      show if decide (wholeN (M.stacks.getD j []) < fl + m) = true then _ else _
      rw [getD_of el, show decide (wholeN l < fl + m) = false from decide_eq_false (by have : fl + m ≤ wholeN l := mw; omega)]
      exact iteF ⟨_, _, rfl, s25.trans s6⟩
    · obtain ⟨_, _, rfl, s1⟩ := hP
      exact ⟨s1 _ _ hdL, q _ (un _ s1)⟩
/-! ### let_fall -/
abbrev sLetF : Stmt := inBook 15
abbrev nLetF : List Str := ["self", "more", "who", "drops", "other"]
theorem scLetF : FnScope nLetF ["self", "more"] (defScope sLetF) := ⟨rfl, rfl, rfl, by decide +kernel, rfl, by decide +kernel, by decide +kernel⟩
def spLetF (K : PySem.W.Frag) (C : Addr) : Sp := fun vs H Q _ => ∃ (b d : Addr) (M : Bk) (ps : List (Str × Int)), vs = [.ref b, .ref d] ∧ BookAt K C H b M ∧ M.Ok ∧ H d = some (.dK (moreK ps)) ∧ FallOk M ps ∧
  ∀ b' H', Same H H' → H b' = none → BookAt K C H' b' (fallM M ps) → Q (.ref b') H'
theorem ok_letF {f f1 f2 f3 f4 C : Addr} {fd fd1 fd2 fd3 fd4 : FuncData} (F : Fun K "let_fall" "Book.let_fall" sLetF f fd) (T : ClsF K C) (B3 : Blt3 mg)
    (MF : HasM P w K mg base C 6 "may_fall" ["self", "more"] (spMayF K C) f1 fd1) (FL : HasM P w K mg base C 4 "fallen" ["self", "who"] (spNum K C Bk.drops) f2 fd2)
    (WT : HasM P w K mg base C 5 "with_these" ["self", "gifts", "stacks", "drops"] (spWith K C) f3 fd3) (CS : HasM P w K mg base C 5 "cash" ["self", "who"] (spCalc K C cashM) f4 fd4) :
    FnOk P w K mg base CX0 7 f fd ["self", "more"] (spLetF K C) := by
  refine F.ok scLetF (fun vs H Q E h => ?_) (fun cdv A outer s H vs Q E hr h => ?_)
  · obtain ⟨_, _, _, _, rfl, _⟩ := h
    rfl
  · obtain ⟨b, d, M, ps, rfl, hb, ok, hd, fo, q⟩ := h
    have hu := hu_of hr
    have hr4 := hr.mono (show 4 ≤ 6 by decide)
    have hr5 := hr.mono (show 5 ≤ 6 by decide)
    refine ⟨_, pss_cons (ps_if (pt_not (pt_val (pe_meth (pv 0) T.cl MF.m MF.ok hr MF.b .nil pass0 (pa_cons (pv 1) pa_nil)))) pss_never pss_nil)
      (pss_cons (ps_set (i := 3) scLetF.nd rfl (.inl rfl) (pe_callTy call_tupD (by rfl) B3.tuple (by decide +kernel) (pa_cons
          (pe_lc (own := [("who", 2)]) (g := gName 2) (tt := tYes) rfl scLetF.nd (pi_tup (pe_fld (pv 0) rfl)) (blkOk_by (N := nLetF) (sc := defScope sLetF) (own := [("who", 2)]) (by decide +kernel))
            (fun _ _ _ _ _ => pg_name (i := 2) scLetF.nd rfl (.inl rfl) (hf := .inr rfl)) (fun _ _ _ _ _ => pts_nil)
            (fun _ _ _ _ _ => pe_op op_add (pe_meth (pv 0) T.cl FL.m FL.ok hr4 FL.b .nil pass0 (pa_cons (pv 2) pa_nil)) (pe_dget2 hu (pv 1) (pv 2) pe_int ⟨rfl, rfl, rfl, rfl⟩))) pa_nil)))
      (pss_cons (ps_set (i := 4) scLetF.nd rfl (.inl rfl) (pe_meth (pv 0) T.cl WT.m WT.ok hr5 WT.b .nil pass0 (pa_cons (pe_fld (pv 0) rfl) (pa_cons (pe_fld (pv 0) rfl) (pa_cons (pv 3) pa_nil)))))
      (pss_cons (ps_for PassesOwn.never rfl (pi_tup (pe_fld (pv 0) rfl)) (pg_name (i := 2) scLetF.nd rfl (.inl rfl))
        (pss_one (ps_if (pt_cmpR op_lt (pe_meth (pv 4) T.cl CS.m CS.ok hr5 CS.b .nil pass0 (pa_cons (pv 2) pa_nil)) pe_int (nomark _)) pss_never pss_nil)))
      (pss_one (ps_ret (pv 4)))))), ?_⟩
    obtain ⟨dx, tn, on, wg, ws, wd, e, h1, hn, h2, h3, h4⟩ := hb.ex
    refine ⟨.ref b, rfl, b, dx, _, rfl, e, bf_no (NoF.mk' (by decide +kernel)), .ref d, rfl, b, d, M, ps, rfl, hb, ok, hd, fo, fun H1 s1 => ⟨_, rfl, iteF ?_⟩⟩
    have qn : SqT K H tn (M.names.map V.str) := .inl (.inr ⟨on, h1⟩)
    refine ⟨.ref b, rfl, b, C, dx, _, _, rfl, s1 _ _ e, T.cl, T.n1, bf_names, tn, rfl, ⟨_, same_seqT s1 qn⟩, fun D nD => ?_⟩
    have lnm : (M.names.map V.str).length = M.names.length := List.length_map ..
    have lzp : (M.names.zip M.drops).length = M.names.length := by rw [List.length_zip, ok.ld, Nat.min_self]
    have n12 := ok.n1
    refine lc_it (walk_tup (K := K) (a := tn) (xs := M.names.map V.str)) (fun i H' => Same H1 H' ∧ H' D = some (.lst ((((M.names.zip M.drops).take i).map fun p => p.2 + moreAt ps p.1).map V.int))) ⟨same_upd nD, upd_same⟩ (fun i H' _ hP => same_seqT hP.1 (same_seqT s1 qn))
      (fun i x H2' H2 hi hP hY => ?_) (fun H2 hP => ?_)
    · obtain ⟨rfl, hx⟩ := hY
      rw [lnm] at hi
      have hid : i < M.drops.length := by rw [ok.ld]; exact hi
      have ex : x = .str M.names[i] := by
        rw [List.getElem?_map, List.getElem?_eq_getElem hi] at hx
        exact (Option.some.inj hx).symm
      subst ex
      have s12 := s1.trans hP.1
      refine ⟨rfl, .ref b, rfl, b, dx, _, rfl, s12 _ _ e, bf_no (NoF.mk' (by decide +kernel)), _, rfl, b, M, _, i, _, rfl, book_same hb s12, ok.names, List.getElem?_eq_getElem hi, List.getElem?_eq_getElem hid, fun H3 s3 => ?_⟩
      have s13 := s12.trans s3
      refine ⟨.ref d, rfl, d, rfl, .inl ⟨_, .inl (s13 _ _ hd)⟩, _, rfl, _, DGet.k (k := Sum.inr M.names[i]) (s13 _ _ hd), ?_⟩
      rw [more_val]
      refine ⟨_, _, rfl, rfl, _, s3 _ _ hP.2, ?_, fun c o ec => ?_, ?_⟩
      · rw [List.length_map, List.length_map, List.length_take]
        exact small1000 (by omega)
      · rw [upd_ne (ne_of_none ec nD)]
        exact s3 _ _ (hP.1 c o ec)
      · have tk : (M.names.zip M.drops).take (i + 1) = (M.names.zip M.drops).take i ++ [(M.names[i], M.drops[i])] := by
          rw [List.take_add_one, List.getElem?_zip_eq_some (z := (M.names[i], M.drops[i])) |>.mpr ⟨List.getElem?_eq_getElem hi, List.getElem?_eq_getElem hid⟩]
          rfl
        rw [upd_same, tk, List.map_append, List.map_append]
        rfl
    · obtain ⟨s2, hD⟩ := hP
      rw [lnm, List.take_of_length_le (by rw [lzp]; exact Nat.le_refl _)] at hD
      have ed : ((M.names.zip M.drops).map fun p => p.2 + moreAt ps p.1) = (fallM M ps).drops := rfl
      rw [ed] at hD
      refine ⟨.ref D, ((fallM M ps).drops).map .int, rfl, .lst (.inl (.inl hD)) (DtAll.ints _), fun t H3 s3 dt => ?_⟩
      have s13 := s1.trans (s2.trans s3)
      refine ⟨.ref b, rfl, b, dx, _, rfl, s13 _ _ e, bf_no (NoF.mk' (by decide +kernel)), .ref b, rfl, b, C, dx, _, _, rfl, s13 _ _ e, T.cl, T.n2, bf_gifts, .ref b, rfl, b, C, dx, _, _, rfl, s13 _ _ e, T.cl, T.n3, bf_stacks, t, rfl,
        b, M, _, _, _, M.gifts, M.stacks, (fallM M ps).drops, rfl, book_same hb s13, ok.names, Dt.same s13 _ h2, Dt.same s13 _ h3, dt, fun b' H4 s4 nb hb' => ?_⟩
      have s14 := s13.trans s4
      have hb4 : BookAt K C H4 b' (fallM M ps) := hb'
      refine ⟨.ref b, rfl, b, C, dx, _, _, rfl, s14 _ _ e, T.cl, T.n1, bf_names, tn, rfl, ⟨_, same_seqT s14 qn⟩, ?_⟩
      obtain ⟨dx2, tn2, on2, vg2, vs2, vd2, e2, k1, kn, k2, k3, k4⟩ := hb4.ex
      refine for_it (walk_tup (K := K) (a := tn) (xs := M.names.map V.str)) (fun i σ H' => ∃ y2, σ = [some (.ref b), some (.ref d), y2, some t, some (.ref b')] ∧ Same H4 H') ⟨_, rfl, Same.refl _⟩ (fun i σ H' _ hP => ?_) (fun i x σ H5' H5 hi hP hY => ?_) (fun σ H' hP => ?_)
      · obtain ⟨_, _, s5⟩ := hP
        exact same_seqT s5 (same_seqT s14 qn)
      · obtain ⟨rfl, hx⟩ := hY
        obtain ⟨y2, rfl, s5⟩ := hP
        rw [lnm] at hi
        have ex : x = .str M.names[i] := by
          rw [List.getElem?_map, List.getElem?_eq_getElem hi] at hx
          exact (Option.some.inj hx).symm
        subst ex
        have ei : M.names[i]? = some M.names[i] := List.getElem?_eq_getElem hi
        refine ⟨.ref b', rfl, b', dx2, _, rfl, s5 _ _ e2, bf_no (NoF.mk' (by decide +kernel)), _, rfl, b', fallM M ps, _, i, rfl, book_same hb4 s5, fall_ok ok ps, ei, fun H6 s6 => ⟨_, _, rfl, rfl, _, rfl, ?_⟩⟩
        have c0 := fo.cs i _ ei
        rw [show decide (cashM (fallM M ps) i M.names[i] < 0) = false from decide_eq_false (by omega)]
        exact iteF ⟨_, rfl, s5.trans s6⟩
      · obtain ⟨y2, rfl, s5⟩ := hP
        exact ⟨.ref b', rfl, q b' H' (s14.trans s5) (s13.free nb) (book_same hb4 s5)⟩
end
end Rc

namespace Rc
open PySem PySem.Spec PyProof.Rows L2 RZ
theorem due_inv {K : PySem.W.Frag} {H : Hp} {v : V} {o : Option (Str × Int)} (h : Dt K H v (dueD o)) : (o = none ∧ v = .non) ∨ ∃ n a, o = some n ∧ v = .ref a ∧ SqT K H a [.str n.1, .int n.2] := by
  cases o with
  | none =>
    cases h
    exact .inl ⟨rfl, rfl⟩
  | some n =>
    obtain ⟨a, e, q⟩ := note_inv h
    exact .inr ⟨n, a, rfl, e, q⟩
theorem dues_len {M : Bk} (ok : M.Ok) : (duesM M).length = M.names.length := by
  unfold duesM
  rw [List.length_map, List.length_zip, ok.ls, ok.ld, Nat.min_self]
/-- a dict of due notes -/
structure DuesAt (K : PySem.W.Frag) (H : Hp) (d : Addr) (zs : List Str) (os : List (Option (Str × Int))) : Prop where
  ex : ∃ vs, Rd H d (.dK (dct zs vs)) ∧ DtAll K H vs (os.map dueD)
theorem DuesAt.same {K : PySem.W.Frag} {H H' : Hp} {d : Addr} {zs : List Str} {os : List (Option (Str × Int))} (h : DuesAt K H d zs os) (s : Same H H') : DuesAt K H' d zs os := by
  obtain ⟨vs, h1, h2⟩ := h.ex
  refine ⟨vs, ?_, DtAll.same s _ h2⟩
  rcases h1 with h1 | ⟨o, h1⟩
  · exact .inl (s _ _ h1)
  · exact .inr ⟨o, s _ _ h1⟩
/-- and it is not locked -/
structure DuesU (K : PySem.W.Frag) (H : Hp) (d : Addr) (zs : List Str) (os : List (Option (Str × Int))) : Prop where
  ex : ∃ vs, H d = some (.dK (dct zs vs)) ∧ DtAll K H vs (os.map dueD)
theorem DuesU.at {K : PySem.W.Frag} {H : Hp} {d : Addr} {zs : List Str} {os : List (Option (Str × Int))} (h : DuesU K H d zs os) : DuesAt K H d zs os := by
  obtain ⟨vs, h1, h2⟩ := h.ex
  exact ⟨vs, .inl h1, h2⟩
theorem DuesU.same {K : PySem.W.Frag} {H H' : Hp} {d : Addr} {zs : List Str} {os : List (Option (Str × Int))} (h : DuesU K H d zs os) (s : Same H H') : DuesU K H' d zs os := by
  obtain ⟨vs, h1, h2⟩ := h.ex
  exact ⟨vs, s _ _ h1, DtAll.same s _ h2⟩
theorem dget_rd {H : Hp} {a : Addr} {zs : List Str} {vs : List V} {j : Nat} {z : Str} {v : V} (h : Rd H a (.dK (dct zs vs))) (nd : zs.Nodup) (e1 : zs[j]? = some z) (e2 : vs[j]? = some v) : DGet H a (.str z) (some v) :=
  .inl ⟨_, Sum.inr z, h, rfl, (dct_val nd e1 e2).symm⟩
theorem DuesAt.get {K : PySem.W.Frag} {H : Hp} {d : Addr} {zs : List Str} {os : List (Option (Str × Int))} (h : DuesAt K H d zs os) (nd : zs.Nodup) (lo : os.length = zs.length) {z : Str} (hz : z ∈ zs) :
    ∃ v o, DGet H d (.str z) (some v) ∧ Dt K H v (dueD o) ∧ nxOf zs os z = o.map (·.1) := by
  obtain ⟨vs, h1, h2⟩ := h.ex
  have hi : zs.idxOf z < os.length := by
    rw [lo]
    exact List.idxOf_lt_length_of_mem hz
  obtain ⟨v, e1, e2⟩ := h2.get (n := zs.idxOf z) (d := dueD os[zs.idxOf z]) (map_get (List.getElem?_eq_getElem hi))
  refine ⟨v, os[zs.idxOf z], dget_rd h1 nd (idx_get hz) e1, e2, ?_⟩
  unfold nxOf
  rw [getD_of (List.getElem?_eq_getElem hi)]
/-- what the walks ask of due notes -/
structure Walks (zs : List Str) (os : List (Option (Str × Int))) : Prop where
  nd : zs.Nodup
  lo : os.length = zs.length
  lz : zs.length ≤ 12
  ld : Leads zs (nxOf zs os)
theorem walks_of {M : Bk} (ok : M.Ok) (c : Closed M) : Walks M.names (duesM M) := ⟨ok.nd, dues_len ok, ok.n1, c.leads⟩
abbrev nxM (M : Bk) : Str → Option Str := nxOf M.names (duesM M)
end Rc

namespace Rc
open PySem PySem.Spec PyProof.Rows L2 RZ
/-- a ring that is told, or none -/
def RingV (H H' : Hp) (v : V) : Option (List Str) → Prop
  | none => v = .non
  | some r => ∃ a, v = .ref a ∧ H a = none ∧ H' a = some (.lst (r.map V.str))
theorem RingV.same {H H0 H' H2 : Hp} {v : V} {o : Option (List Str)} (h : RingV H H' v o) (s : Same H' H2) (s0 : Same H0 H) : RingV H0 H2 v o := by
  cases o with
  | none => exact h
  | some r =>
    obtain ⟨a, e, n, x⟩ := h
    exact ⟨a, e, s0.free n, s _ _ x⟩
theorem idx_first {T : List Str} {f : Str} {m : Nat} {x : Str} (hm : m < T.idxOf f) (e : T[m]? = some x) : x ≠ f := fun c => by
  obtain ⟨hl, e'⟩ := List.getElem?_eq_some_iff.mp e
  have := List.not_of_lt_findIdx (p := (· == f)) (xs := T) (i := m) hm
  rw [e', c] at this
  simp at this
theorem str_eqV (x y : Str) : eqV (.str x) (.str y) = (x == y) := rfl
end Rc

namespace Rc
open PySem PySem.Spec PyProof.Rows L2 RZ
section
variable {X : Cx}
theorem ix_listS {K : PySem.W.Frag} (e : X.K = K) : IxR X (rIxL K) := by
  subst e
  exact ix_list
theorem ix_tupS {K : PySem.W.Frag} (e : X.K = K) : IxR X (rIxT K) := by
  subst e
  exact ix_tup
theorem mt_indexS {K : PySem.W.Frag} (e : X.K = K) : MtR X "list.index" (rIndex K) := by
  subst e
  exact mt_index
theorem pe_bmK {K : PySem.W.Frag} (eK : X.K = K) {o e : Expr} {es : List Expr} {to : TE} {t : TA} {name : Str} {apos cpos : Pos} {T id : String} {r : V → List V → Hp → VK → Prop} (pa : PlainAttrs T) (slot : Slot T name id) (hty : typeOf (.builtin id) = pure (.type "method_descriptor")) (hm : MtR X id r) (ho : PE X o to) (ha : PA X (e :: es) t)
    (hbase : attributeBase o name X.env (eval o X.env) = eval o X.env := by rfl)
    (hfew : ((backTo cpos (starEach (e :: es) X.env)).all (fun x => !x.1) && (backToKw cpos (keywordEach [] X.env)).all (fun x => x.1.isSome)
      && decide ((e :: es).length + ([] : List Keyword).length + (if ([] : List Keyword).isEmpty then 0 else 1) < 30)) = true := by rfl)
    (hline : (apos.endLine == cpos.line) = true := by rfl) (hs : starEach (e :: es) X.env = (false, eval e X.env) :: starEach es X.env := by rfl) (hplain : (backTo cpos (starEach es X.env)).any (·.1) = false := by rfl) :
    PE X (.Call (.Attribute o name apos) (e :: es) [] cpos) (tBM K T r to t) := by
  subst eK
  exact pe_bm pa slot hty hm ho ha hbase hfew hline hs hplain
end
/-- a model that may be -/
structure Gs (zs : List Str) (D : Md) : Prop where
  nz : NamesOk zs
  nt : ∀ l ∈ D.notes, ∀ n ∈ l, NoteOk zs n
  fl : ∀ f ∈ D.fallen, 0 ≤ f
  my : (D.notes.map List.length).sum ≤ 60
  lg : D.given.length = zs.length
  lf : D.fallen.length = zs.length
  ln : D.notes.length = zs.length
  cs : ∀ (j : Nat) (z : Str), zs[j]? = some z → 0 ≤ cashM (bkOf zs D) j z
theorem Gs.ok {zs : List Str} {D : Md} (g : Gs zs D) : (bkOf zs D).Ok := ⟨g.nz.n0, g.nz.n1, g.nz.nd, g.nz.nm, g.lg, g.ln, g.lf, g.my⟩
theorem Gs.closed {zs : List Str} {D : Md} (g : Gs zs D) : Closed (bkOf zs D) := fun l hl n hn => (g.nt l hl n hn).1
theorem Gs.rows {zs : List Str} {D : Md} (g : Gs zs D) : RowsOk D := fun l hl => Nat.le_trans (len_le_sum hl) g.my
theorem Gs.walks {zs : List Str} {D : Md} (g : Gs zs D) : Walks zs (duesM (bkOf zs D)) := walks_of g.ok g.closed
theorem Gs.left {zs : List Str} {D : Md} (g : Gs zs D) {j : Nat} {l : List (Str × Int)} {f : Int} (el : D.notes[j]? = some l) (ef : D.fallen[j]? = some f) : ∀ n ∈ leftN l f, NoteOk zs n :=
  leftN_ok (g.nt l (List.mem_of_getElem? el)) (g.fl f (List.mem_of_getElem? ef))
theorem Gs.due {zs : List Str} {D : Md} (g : Gs zs D) {n : Str × Int} (h : some n ∈ duesM (bkOf zs D)) : NoteOk zs n := by
  obtain ⟨l, f, hl, hf, hn⟩ := dues_mem h
  exact leftN_ok (g.nt l hl) (g.fl f hf) n hn
/-- what the law's walk goes by -/
abbrev nxD (zs : List Str) (D : Md) : Str → Option Str := nxOf zs (duesM (bkOf zs D))
theorem nxD_at {zs : List Str} {D : Md} {j : Nat} {z : Str} {l : List (Str × Int)} {f : Int} (nd : zs.Nodup) (ej : zs[j]? = some z) (el : D.notes[j]? = some l) (ef : D.fallen[j]? = some f) : nxD zs D z = (leftN l f).head?.map (·.1) := by
  have hj : j < zs.length := (List.getElem?_eq_some_iff.mp ej).1
  have ez : zs[j] = z := (List.getElem?_eq_some_iff.mp ej).2
  have ei : zs.idxOf z = j := by
    rw [← ez]
    exact nd.idxOf_getElem j hj
  show ((duesM (bkOf zs D)).getD (zs.idxOf z) none).map (·.1) = _
  rw [ei, getD_of (dues_at (M := bkOf zs D) el ef)]
end Rc

namespace Rc
open PySem PySem.Spec PyProof.Rows L2 RZ
theorem notes_dp {K : PySem.W.Frag} {H : Hp} {m : Addr} {mx : List V} {l : List (Str × Int)} (h : H m = some (.lst mx)) (d : DtAll K H mx (notesD l)) : Dp K H (.ref m) (.list (notesD l)) := .lst (.inl (.inl h)) (DtAll.dp _ (tup_notes l) d)
theorem shaped_nil : SeqAt.shaped (.list []) = true := by decide +kernel
section
variable {P : Program} {w : World} {K : PySem.W.Frag} {mg : Str → Option Value} {base : Heap}
/-! ### _law_next -/
abbrev sLNx : Stmt := topS 33
theorem scLNx : FnScope ["_law_model_here", "_law_who", "_law_left_here"] ["_law_model_here", "_law_who"] (defScope sLNx) := ⟨rfl, rfl, rfl, by decide +kernel, rfl, by decide +kernel, by decide +kernel⟩
def spLNx (K : PySem.W.Frag) : Sp := fun vs H Q _ => ∃ (a : MdA) (D : Md) (zs : List Str) (z : Str), vs = [.ref a.m, .str z] ∧ ModelAt K H zs a D ∧ Gs zs D ∧ z ∈ zs ∧ ∀ H', Same H H' → Q (nxV (nxD zs D z)) H'
theorem ok_lnx {f f1 : Addr} {fd fd1 : FuncData} (F : Fun K "_law_next" "_law_next" sLNx f fd) (LL : Has P w K mg base 2 "_law_left" ["_law_model_here", "_law_who"] (spLLf K) f1 fd1) : FnOk P w K mg base CX0 3 f fd ["_law_model_here", "_law_who"] (spLNx K) := by
  refine F.ok scLNx (fun vs H Q E h => ?_) (fun cdv Ar outer s H vs Q E hr h => ?_)
  · obtain ⟨_, _, _, _, rfl, _⟩ := h
    rfl
  · obtain ⟨a, D, zs, z, rfl, hM, g, hz, q⟩ := h
    refine ⟨_, pss_cons (ps_set (i := 2) scLNx.nd rfl (.inl rfl) (pe_call LL.ok hr (by rfl) LL.g LL.kp LL.b .nil pass0 (pa_cons (pv 0) (pa_cons (pv 1) pa_nil))))
      (pss_one (ps_ret (pe_ifExp (pt_cmpR (op_neD hr.units) (pv 2) (pe_lst pa_nil) (nomark _)) (pe_ix ix_tup (pe_ix ix_list (pv 2) pe_int (fun _ _ => rfl)) pe_int (fun _ _ => rfl)) pe_non))), ?_⟩
    have ej := idx_get hz
    obtain ⟨gv, f', l', r, xs, eg, ef, el, er, hr0, hd0⟩ := hM.at_ ej
    have ll := g.rows l' (List.mem_of_getElem? el)
    have en := nxD_at hM.zn ej el ef
    have gl := g.left el ef
    refine ⟨.ref a.m, rfl, .str z, rfl, a, D, zs, z, _, l', f', rfl, hM, ej, el, ef, by omega, fun m mx H1 s1 nm hm dm => ?_⟩
    rw [en] at q
    generalize leftN l' f' = L at dm q gl
    refine ⟨.ref m, rfl, Nat.zero_le _, fun e ne => ?_⟩
    have s2 := same_upd (o := .lst []) ne
    have he : upd H1 e (.lst []) e = some (.lst []) := upd_same
    generalize upd H1 e (.lst []) = H2 at s2 he
    have hm2 := s2 _ _ hm
    have dm2 := DtAll.same s2 _ dm
    refine ⟨.list (notesD L), .list [], notes_dp hm2 dm2, .lst (.inl (.inl he)) .nil, nice_shaped (nice_notes g.nz.nm gl).list, shaped_nil, _, rfl, ?_⟩
    cases L with
    | nil => exact iteF (q H2 (s1.trans s2))
    | cons n t =>
      cases dm2 with
      | cons d1 d2 =>
        rename_i x xr
        obtain ⟨ta, rfl, qt⟩ := note_inv d1
        exact iteT ⟨.ref m, rfl, m, _, 0, .ref ta, rfl, rfl, .inl (.inl hm2), atI_nat (j := 0) rfl, ta, _, 0, .str n.1, rfl, rfl, qt, rfl, q H2 (s1.trans s2)⟩
/-! ### _law_trail -/
abbrev sLTr : Stmt := topS 34
theorem scLTr : FnScope ["_law_model_here", "_law_who", "_law_found", "_law_here"] ["_law_model_here", "_law_who"] (defScope sLTr) := ⟨rfl, rfl, rfl, by decide +kernel, rfl, by decide +kernel, by decide +kernel⟩
def spLTr (K : PySem.W.Frag) : Sp := fun vs H Q _ => ∃ (a : MdA) (D : Md) (zs : List Str) (z : Str), vs = [.ref a.m, .str z] ∧ ModelAt K H zs a D ∧ Gs zs D ∧ z ∈ zs ∧
  ∀ T t H', Same H H' → H t = none → H' T = some (.tup [.ref t, nxV (endM zs (nxD zs D) z)]) → H' t = some (.lst ((trailM zs (nxD zs D) z).map V.str)) → Q (.ref T) H'
theorem ok_ltr {f f1 : Addr} {fd fd1 : FuncData} (F : Fun K "_law_trail" "_law_trail" sLTr f fd) (LN : Has P w K mg base 3 "_law_next" ["_law_model_here", "_law_who"] (spLNx K) f1 fd1) : FnOk P w K mg base CX0 4 f fd ["_law_model_here", "_law_who"] (spLTr K) := by
  refine F.ok scLTr (fun vs H Q E h => ?_) (fun cdv Ar outer s H vs Q E hr h => ?_)
  · obtain ⟨_, _, _, _, rfl, _⟩ := h
    rfl
  · obtain ⟨a, D, zs, z, rfl, hM, g, hz, q⟩ := h
    refine ⟨_, pss_cons (ps_set (i := 2) scLTr.nd rfl (.inl rfl) (pe_lst (pa_cons (pv 1) pa_nil)))
      (pss_cons (ps_set (i := 3) scLTr.nd rfl (.inl rfl) (pe_call LN.ok hr (by rfl) LN.g LN.kp LN.b .nil pass0 (pa_cons (pv 0) (pa_cons (pv 1) pa_nil))))
      (pss_cons (ps_while PassesOwn.never (PW.pt (pw_and (pt_cmpR op_notN (pv 3) pe_non (nomark _)) (pw_and1 (pt_cmpR op_notIn_seq (pv 3) (pv 2) (by rfl)))))
        (pss_cons (ps_expr (pe_bm PySem.F.plainAttrs_list PySem.F.slot_list_append PySem.F.type_list_append mt_append (pv 2) (pa_cons (pv 3) pa_nil)))
        (pss_one (ps_set (i := 3) scLTr.nd rfl (.inl rfl) (pe_call LN.ok hr (by rfl) LN.g LN.kp LN.b .nil pass0 (pa_cons (pv 0) (pa_cons (pv 3) pa_nil)))))))
      (pss_one (ps_ret (pe_tup (pa_cons (pv 2) (pa_cons (pe_ifExp (pt_cmpR op_isN (pv 3) pe_non (nomark _)) (pe_ix ix_list (pv 2) (pe_un un_neg pe_int) (fun _ _ => rfl)) pe_non) pa_nil))))))), ?_⟩
    have wk := g.walks
    refine ⟨.str z, rfl, by show 1 ≤ sizeLine; decide, fun t nt => ?_⟩
    have s1 := same_upd (o := .lst [V.str z]) nt
    have ht1 : upd H t (.lst [V.str z]) t = some (.lst [V.str z]) := upd_same
    generalize upd H t (.lst [V.str z]) = H1 at s1 ht1
    refine ⟨.ref a.m, rfl, .str z, rfl, a, D, zs, z, rfl, model_same hM s1, g, hz, fun H2 s2 => ?_⟩
    refine ⟨fun k σ H' => ∃ acc o, σ = [some (.ref a.m), some (.str z), some (.ref t), some (nxV o)] ∧ Same H H' ∧ H' t = some (.lst (List.map V.str acc)) ∧ TrailAt zs (nxD zs D) z k acc o,
      ⟨zs.length, [z], nxD zs D z, rfl, s1.trans s2, s2 _ _ ht1, TrailAt.start hz⟩, ?_⟩
    rintro k σ H' ⟨acc, o, rfl, s3, ht, ta⟩
    have lacc : acc.length ≤ 12 := Nat.le_trans (nodup_le _ _ ta.nd ta.sub) wk.lz
    have fin : (o = none ∨ ∃ y, o = some y ∧ y ∈ acc) → tRet (tTup (tCons (tVar 2) (tCons (tIf (tTest (tOp (fun x y H Q => y = .non ∧ Q (.bl (decide (x = .non))) H) (tVar 3) (tC .non))) (tOp (rIxL K) (tVar 2) (tUn (rU fun i => .int (-i)) (tC (.int 1)))) (tC .non)) tNil))) { nx := fun _ H' => Q .non H', rt := Q } [some (.ref a.m), some (.str z), some (.ref t), some (nxV o)] H' := fun hend => by
      obtain ⟨ea, en⟩ := ta.ended hend
      obtain ⟨ini, y, eT, eL⟩ := en.last
      have eL2 := lastM_eq eT
      have ee : endM zs (nxD zs D) z = if o = none then some y else none := by
        unfold endM
        rw [eL2, eL]
      refine ⟨.ref t, rfl, nxV o, rfl, rfl, _, rfl, ?_⟩
      have stop : ∀ v, v = nxV (endM zs (nxD zs D) z) → [V.ref t, v].length ≤ sizeLine ∧ ∀ p, H' p = none → Q (.ref p) (upd H' p (.tup [.ref t, v])) := fun v ev => by
        refine ⟨by show 2 ≤ sizeLine; decide, fun p np => ?_⟩
        rw [ev]
        refine q p t _ (s3.trans (same_upd np)) nt upd_same ?_
        rw [← ea]
        exact same_upd np _ _ ht
      cases o with
      | none =>
        rw [show decide (nxV none = .non) = true from decide_eq_true rfl]
        refine iteT ⟨.ref t, rfl, _, rfl, t, _, -1, .str y, rfl, rfl, .inl (.inl ht), ?_, ?_⟩
        · rw [ea, eT, List.map_append]
          exact atI_last _ _
        · exact stop _ (by rw [ee]; rfl)
      | some x =>
        rw [show decide (nxV (some x) = .non) = false from decide_eq_false (fun c => by cases c)]
        exact iteF (stop _ (by rw [ee]; rfl))
    cases o with
    | none =>
      refine ⟨nxV none, rfl, rfl, _, rfl, ?_⟩
      rw [show decide (nxV none = .non) = true from decide_eq_true rfl]
      exact iteF (iteF (fin (.inl rfl)))
    | some y =>
      refine ⟨nxV (some y), rfl, rfl, _, rfl, ?_⟩
      rw [show decide (nxV (some y) = .non) = false from decide_eq_false (fun c => by cases c)]
      refine iteT ⟨.str y, rfl, .ref t, rfl, t, _, rfl, .inl (.inl (.inl ht)), rfl, flat_strs _, _, rfl, ?_⟩
      show if (!inV (.str y) (acc.map V.str)) = true then _ else _
      rw [inV_strs]
      by_cases hin : y ∈ acc
      · rw [decide_eq_true hin]
        exact iteF (fin (.inr ⟨y, rfl, hin⟩))
      · rw [decide_eq_false hin]
        obtain ⟨k', rfl, ta'⟩ := ta.step wk.ld hin
        refine iteT ⟨fun σ2 H2 => ∃ acc o, σ2 = [some (.ref a.m), some (.str z), some (.ref t), some (nxV o)] ∧ Same H H2 ∧ H2 t = some (.lst (List.map V.str acc)) ∧ TrailAt zs (nxD zs D) z k' acc o, fun σ2 H2 h2 => ⟨k', by omega, h2⟩, ?_⟩
        refine ⟨.ref t, rfl, .inl ⟨rfl, _, .inl (.inl ht)⟩, .str y, rfl, t, _, _, rfl, rfl, ht, by rw [List.length_map]; exact small1000 (by omega), ?_⟩
        have s4 : Same H (upd H' t (.lst (acc.map V.str ++ [.str y]))) := fun c u ec => by
          rw [upd_ne (ne_of_none ec nt)]
          exact s3 c u ec
        have hy : y ∈ zs := by
          obtain ⟨_, x, _, ex⟩ := ta.last
          exact wk.ld x y ex.symm
        refine ⟨.ref a.m, rfl, .str y, rfl, a, D, zs, y, rfl, model_same hM s4, g, hy, fun H5 s5 => ?_⟩
        refine ⟨acc ++ [y], nxD zs D y, rfl, s4.trans s5, s5 _ _ ?_, ta'⟩
        rw [upd_same, List.map_append]
        rfl
/-! ### _law_ring -/
abbrev sLRg : Stmt := topS 35
abbrev nLRg : List Str := ["_law_model_here", "_law_who", "_law_found", "_law_end", "_law_first", "_law_at", "_law_name_here"]
theorem scLRg : FnScope nLRg ["_law_model_here", "_law_who"] (defScope sLRg) := ⟨rfl, rfl, rfl, by decide +kernel, rfl, by decide +kernel, by decide +kernel⟩
def spLRg (K : PySem.W.Frag) : Sp := fun vs H Q _ => ∃ (a : MdA) (D : Md) (zs : List Str) (z : Str), vs = [.ref a.m, .str z] ∧ ModelAt K H zs a D ∧ Gs zs D ∧ z ∈ zs ∧ ∀ v H', Same H H' → RingV H H' v (ringM zs (nxD zs D) z) → Q v H'
theorem ok_lrg {f f1 f2 : Addr} {fd fd1 fd2 : FuncData} (F : Fun K "_law_ring" "_law_ring" sLRg f fd) (B2 : Blt2 mg) (LN : Has P w K mg base 3 "_law_next" ["_law_model_here", "_law_who"] (spLNx K) f1 fd1) (LT : Has P w K mg base 4 "_law_trail" ["_law_model_here", "_law_who"] (spLTr K) f2 fd2) :
    FnOk P w K mg base CX0 5 f fd ["_law_model_here", "_law_who"] (spLRg K) := by
  refine F.ok scLRg (fun vs H Q E h => ?_) (fun cdv Ar outer s H vs Q E hr h => ?_)
  · obtain ⟨_, _, _, _, rfl, _⟩ := h
    rfl
  · obtain ⟨a, D, zs, z, rfl, hM, g, hz, q⟩ := h
    have hu := hu_of hr
    have hr3 := hr.mono (show 3 ≤ 4 by decide)
    refine ⟨_, pss_cons (ps_asg (pe_call LT.ok hr (by rfl) LT.g LT.kp LT.b .nil pass0 (pa_cons (pv 0) (pa_cons (pv 1) pa_nil))) (pg_tup rfl (pgs_cons (pg_name (i := 2) scLRg.nd rfl (.inl rfl)) (pgs_cons (pg_name (i := 3) scLRg.nd rfl (.inl rfl)) pgs_nil))))
      (pss_cons (ps_if (PW.pt (pw_or (pt_cmpR op_notN (pv 3) pe_non (nomark _)) (pw_or1 (pt_cmpR op_ne (pe_call LN.ok hr3 (by rfl) LN.g LN.kp LN.b .nil pass0 (pa_cons (pv 0) (pa_cons (pe_ix ix_list (pv 2) (pe_un un_neg pe_int) (fun _ _ => rfl)) pa_nil))) (pv 1) (nomark _))))) (pss_one (ps_ret pe_non)) pss_nil)
      (pss_cons (ps_set (i := 4) scLRg.nd rfl (.inl rfl) (pe_callB (cr_min rfl) (by rfl) B2.min (by decide +kernel) (pa_cons
        (pe_lc (own := [("_law_name_here", 6)]) (g := gName 6) (tt := tYes) (te := tBM K "list" (rIndex K) (tDGet (tVar 0) (tC (.str "order"))) (tCons (tVar 6) tNil)) rfl scLRg.nd (pi_list (pv 2)) (blkOk_by (N := nLRg) (sc := defScope sLRg) (own := [("_law_name_here", 6)]) (by decide +kernel))
          (fun _ _ _ _ _ => pg_name (i := 6) scLRg.nd rfl (.inl rfl) (hf := .inr rfl)) (fun _ _ _ _ _ => pts_nil)
          (fun _ _ _ _ _ => pe_bmK (K := K) rfl PySem.F.plainAttrs_list PySem.F.slot_list_index PySem.F.type_list_index (mt_indexS (K := K) rfl) (pe_dget hu (pv 0) pe_str (fun _ _ => rfl)) (pa_cons (pv 6) pa_nil))) pa_nil)))
      (pss_cons (ps_set (i := 5) scLRg.nd rfl (.inl rfl) (pe_bm PySem.F.plainAttrs_list PySem.F.slot_list_index PySem.F.type_list_index mt_index (pv 2) (pa_cons (pe_ix ix_list (pe_dget hu (pv 0) pe_str (fun _ _ => rfl)) (pv 4) (fun _ _ => rfl)) pa_nil)))
      (pss_one (ps_ret (pe_op op_cat (pe_slice sl_list (pv 2) (po_some (pv 5)) po_none) (pe_slice sl_list (pv 2) po_none (po_some (pv 5))))))))), ?_⟩
    have wk := g.walks
    have en := trail_ended wk.ld hz
    obtain ⟨ini, y, eT, eL⟩ := en.last
    have hyT : y ∈ trailM zs (nxD zs D) z := by
      rw [eT]
      exact List.mem_append.mpr (.inr List.mem_cons_self)
    have hy : y ∈ zs := en.sub y hyT
    have eL2 := lastM_eq eT
    have hzT : z ∈ trailM zs (nxD zs D) z := by
      obtain ⟨r, er⟩ := en.first
      rw [er]
      exact List.mem_cons_self
    have lT : (trailM zs (nxD zs D) z).length ≤ 12 := Nat.le_trans (nodup_le _ _ en.nd en.sub) wk.lz
    have sub := en.sub
    refine ⟨.ref a.m, rfl, .str z, rfl, a, D, zs, z, rfl, hM, g, hz, fun TT t H1 s1 nt hTT ht => ?_⟩
    refine ⟨TT, _, rfl, .inl (.inl hTT), rfl, _, _, rfl, _, _, rfl, rfl, ?_⟩
    have er : ringM zs (nxD zs D) z = if nxD zs D y = some z then some ((trailM zs (nxD zs D) z).drop ((trailM zs (nxD zs D) z).idxOf (firstM zs (trailM zs (nxD zs D) z))) ++ (trailM zs (nxD zs D) z).take ((trailM zs (nxD zs D) z).idxOf (firstM zs (trailM zs (nxD zs D) z)))) else none := by
      unfold ringM
      rw [eL2]
    have ee : endM zs (nxD zs D) z = if nxD zs D y = none then some y else none := by
      unfold endM
      rw [eL2]
    rw [er] at q
    rw [ee]
    have hM1 := model_same hM s1
    generalize trailM zs (nxD zs D) z = TT at hzT lT ht eT hyT q sub
    cases ho : nxD zs D y with
    | none =>
      rw [ho] at q
      refine ⟨.str y, rfl, rfl, _, rfl, ?_⟩
      rw [decide_eq_false (fun c => by cases c)]
      exact iteT (iteT (q .non H1 s1 rfl))
    | some x =>
      rw [ho] at q
      refine ⟨.non, rfl, rfl, _, rfl, ?_⟩
      rw [decide_eq_true rfl]
      refine iteF ⟨.ref a.m, rfl, .ref t, rfl, _, rfl, t, _, -1, .str y, rfl, rfl, .inl (.inl ht), ?_, a, D, zs, y, rfl, hM1, g, hy, fun H2 s2 => ?_⟩
      · rw [eT, List.map_append]
        exact atI_last _ _
      rw [ho]
      have s12 := s1.trans s2
      have hM2 := model_same hM s12
      have ht2 := s2 _ _ ht
      refine ⟨.str z, rfl, rfl, _, rfl, ?_⟩
      by_cases hx : x = z
      · rw [show decide (nxV (some x) = V.str z) = true from decide_eq_true (by rw [hx]; rfl)]
        rw [if_pos (congrArg some hx)] at q
        refine iteF ?_
        refine ⟨.ref t, rfl, t, rfl, ⟨_, .inl (.inl ht2)⟩, fun D0 nD0 => ?_⟩
        refine lc_it (walk_list (K := K) (a := t) (xs := TT.map V.str)) (fun i H' => Same H2 H' ∧ H' D0 = some (.lst (((TT.take i).map fun x => ((zs.idxOf x : Nat) : Int)).map V.int))) ⟨same_upd nD0, upd_same⟩ (fun i H' _ hP => .inl (.inl (hP.1 _ _ ht2)))
          (fun i v H3' H3 hi hP hY => ?_) (fun H3 hP => ?_)
        · obtain ⟨rfl, hv⟩ := hY
          rw [List.length_map] at hi
          have ex : v = .str TT[i] := by
            rw [List.getElem?_map, List.getElem?_eq_getElem hi] at hv
            exact (Option.some.inj hv).symm
          subst ex
          have hM3 := model_same hM2 hP.1
          have hin : TT[i] ∈ zs := sub _ (List.getElem_mem hi)
          refine ⟨rfl, .ref a.m, rfl, a.m, .ref a.lo, rfl, hM3.g0, .inl ⟨rfl, _, .inl (.inl hM3.ho)⟩, _, rfl, a.lo, _, _, zs.idxOf TT[i], .str TT[i], rfl, rfl, .inl (.inl hM3.ho), rfl, flat_strs _, map_get (idx_get hin), by rw [str_eqV]; simp, fun m z' hm e' => ?_, _, hP.2, ?_, fun c o ec => ?_, ?_⟩
          · rw [List.getElem?_map] at e'
            obtain ⟨x', ex, rfl⟩ := Option.map_eq_some_iff.mp e'
            rw [str_eqV]
            exact beq_eq_false_iff_ne.mpr (idx_first hm ex)
          · rw [List.length_map, List.length_map, List.length_take]
            exact small1000 (by omega)
          · rw [upd_ne (ne_of_none ec nD0)]
            exact hP.1 c o ec
          · rw [upd_same, take_succ hi, List.map_append, List.map_append]
            rfl
        · obtain ⟨s3, hD0⟩ := hP
          rw [List.length_map, List.take_length] at hD0
          refine ⟨D0, TT.map fun x => ((zs.idxOf x : Nat) : Int), rfl, .inl (.inl hD0), by rw [List.length_map]; exact List.length_pos_of_mem hzT, fun m hm hmin => ?_⟩
          obtain ⟨f0, hf0, rfl⟩ := List.mem_map.mp hm
          have f0z : f0 ∈ zs := sub f0 hf0
          have e1 : firstM zs TT = f0 := first_min wk.nd (idx_get f0z) hf0 fun x' hx' => by
            have := hmin _ (List.mem_map.mpr ⟨x', hx', rfl⟩)
            omega
          rw [e1] at q
          have hM3 := model_same hM2 s3
          have ht3 := s3 _ _ ht2
          refine ⟨.ref t, rfl, .inl ⟨rfl, _, .inl (.inl ht3)⟩, .ref a.m, rfl, a.m, .ref a.lo, rfl, hM3.g0, _, rfl, a.lo, _, _, .str f0, rfl, rfl, .inl (.inl hM3.ho), atI_nat (map_get (idx_get f0z)), ?_⟩
          refine ⟨t, _, .str f0, TT.idxOf f0, .str f0, rfl, rfl, .inl (.inl ht3), rfl, flat_strs _, map_get (idx_get hf0), by rw [str_eqV]; simp, fun m z' hm e' => ?_, ?_⟩
          · rw [List.getElem?_map] at e'
            obtain ⟨x', ex, rfl⟩ := Option.map_eq_some_iff.mp e'
            rw [str_eqV]
            exact beq_eq_false_iff_ne.mpr (idx_first hm ex)
          · refine ⟨.ref t, rfl, .int (TT.idxOf f0 : Nat), rfl, _, rfl, t, _, rfl, .inl (.inl ht3), fun p1 n1 => ?_⟩
            rw [cut_drop, ← List.map_drop]
            have s4 := same_upd (o := .lst ((TT.drop (TT.idxOf f0)).map V.str)) n1
            refine ⟨.ref t, rfl, .int (TT.idxOf f0 : Nat), rfl, _, rfl, t, _, rfl, .inl (.inl (s4 _ _ ht3)), fun p2 n2 => ?_⟩
            rw [cut_take, ← List.map_take]
            have s5 := same_upd (o := .lst ((TT.take (TT.idxOf f0)).map V.str)) n2
            refine ⟨p1, p2, _, _, rfl, rfl, s5 _ _ upd_same, upd_same, ?_, fun p np => ?_⟩
            · rw [List.length_map, List.length_map, List.length_drop, List.length_take]
              exact small_line (by omega)
            · have s6 := same_upd (o := .lst ((TT.drop (TT.idxOf f0)).map V.str ++ (TT.take (TT.idxOf f0)).map V.str)) np
              refine q (.ref p) _ (s12.trans (s3.trans (s4.trans (s5.trans s6)))) ⟨p, rfl, (s12.trans (s3.trans (s4.trans s5))).free np, ?_⟩
              rw [upd_same, List.map_append]
      · rw [show decide (nxV (some x) = V.str z) = false from decide_eq_false (fun c => hx (V.str.inj c))]
        rw [if_neg (fun c => hx (Option.some.inj c))] at q
        exact iteT (q .non H2 s12 rfl)
end
end Rc

namespace Rc
open PySem PySem.Spec PyProof.Rows L2 RZ
/-! ### the model's own changes -/
section
variable {K : PySem.W.Frag} {H : Hp} {zs : List Str} {a : MdA} {D : Md}
theorem ModelAt.ofm (h : ModelAt K H zs a D) (n0 : 1 ≤ zs.length) : a.df ≠ a.m := fun z => by
  have e := h.hf
  rw [z, h.hm] at e
  have e1 : dct keysM [.ref a.lo, .ref a.dg, .ref a.df, .ref a.dn] = dct zs (D.fallen.map V.int) := HO.dK.inj (Option.some.inj e)
  have l2 := h.lf
  match zs, D.fallen, n0, l2, e1 with
  | z :: r, y :: u, _, _, e1 =>
    rw [List.map_cons, dct_cons] at e1
    unfold keysM at e1
    rw [dct_cons] at e1
    cases e1
/-- another sum fallen -/
theorem ModelAt.setF (hM : ModelAt K H zs a D) (n0 : 1 ≤ zs.length) {j : Nat} (g : Int) : ModelAt K (upd H a.df (.dK (dct zs ((D.fallen.set j g).map V.int)))) zs a { D with fallen := D.fallen.set j g } := by
  have kt : KT H (upd H a.df (.dK (dct zs ((D.fallen.set j g).map V.int)))) := kt_upd hM.hf fun z => z
  have lne : ∀ {c : Addr} {ys : List V}, H c = some (.lst ys) → c ≠ a.df := fun {c ys} e z => by
    rw [z, hM.hf] at e
    cases e
  refine ⟨?_, ?_, ?_, ?_, ?_, fun i r l e1 e2 => ?_, hM.nd, hM.olo, hM.ogf, hM.ogn, hM.ogm, hM.omn, hM.zn, hM.lg, ?_, hM.ln, hM.lr⟩
  · rw [upd_ne (hM.ofm n0).symm]
    exact hM.hm
  · rw [upd_ne (lne hM.ho)]
    exact hM.ho
  · rw [upd_ne hM.ogf]
    exact hM.hg
  · rw [upd_same]
  · rw [upd_ne (hM.ofn n0).symm]
    exact hM.hn
  · obtain ⟨xs, e3, d3⟩ := hM.rows i r l e1 e2
    refine ⟨xs, ?_, DtAll.keepT kt _ (tup_notes l) d3⟩
    rw [upd_ne (lne e3)]
    exact e3
  · show (D.fallen.set _ _).length = _
    rw [List.length_set]
    exact hM.lf
/-- one note more -/
theorem ModelAt.app (hM : ModelAt K H zs a D) {j : Nat} {r t : Addr} {xs : List V} {l : List (Str × Int)} {y : Str} {n : Int} (er : a.rs[j]? = some r) (el : D.notes[j]? = some l) (hr0 : H r = some (.lst xs)) (hd0 : DtAll K H xs (notesD l)) (nt : H t = none) :
    ModelAt K (upd (upd H t (.tup [.str y, .int n])) r (.lst (xs ++ [.ref t]))) zs a { D with notes := D.notes.set j (l ++ [(y, n)]) } ∧ ButF a H (upd (upd H t (.tup [.str y, .int n])) r (.lst (xs ++ [.ref t]))) := by
  have tr : t ≠ r := (ne_of_none hr0 nt).symm
  have rm : r ∈ a.rs := List.mem_of_getElem? er
  have bf' : ButF a H (upd (upd H t (.tup [V.str y, V.int n])) r (.lst (xs ++ [V.ref t]))) := fun b o nf e => by
    have nb : b ≠ r := fun z => nf (.inr (by rw [z]; exact rm))
    rw [upd_ne nb, upd_ne (ne_of_none e nt)]
    exact e
  have keepD : ∀ {b : Addr} {o : HO}, b ≠ r → H b = some o → upd (upd H t (.tup [V.str y, V.int n])) r (.lst (xs ++ [V.ref t])) b = some o := fun {b o} n e => by
    rw [upd_ne n, upd_ne (ne_of_none e nt)]
    exact e
  have dne : ∀ {b : Addr} {kvs : List (Key × V)}, H b = some (.dK kvs) → b ≠ r := fun {b kvs} e z => by
    rw [z, hr0] at e
    cases e
  have hkt := bf'.kt hM
  refine ⟨⟨keepD (dne hM.hm) hM.hm, keepD (fun z => hM.olo (by rw [z]; exact rm)) hM.ho, keepD (dne hM.hg) hM.hg, keepD (dne hM.hf) hM.hf, keepD (dne hM.hn) hM.hn, fun i r' l' e1 e2 => ?_, hM.nd, hM.olo, hM.ogf, hM.ogn, hM.ogm, hM.omn, hM.zn, hM.lg, hM.lf, ?_, hM.lr⟩, bf'⟩
  · by_cases hi : i = j
    · have er' : r' = r := by
        rw [hi, er] at e1
        exact (Option.some.inj e1).symm
      subst er'
      have e2' : (D.notes.set j (l ++ [(y, n)]))[i]? = some l' := e2
      have hj : j < D.notes.length := (List.getElem?_eq_some_iff.mp el).1
      rw [hi, List.getElem?_set_self hj] at e2'
      cases e2'
      refine ⟨_, upd_same, ?_⟩
      unfold notesD
      rw [List.map_append]
      refine (DtAll.keepT hkt _ (tup_notes l) hd0).append (.cons (.tup (.inl (.inl ?_)) (.cons (.str _) (.cons (.int _) .nil))) .nil)
      rw [upd_ne tr, upd_same]
    · have e2' : (D.notes.set j (l ++ [(y, n)]))[i]? = some l' := e2
      rw [List.getElem?_set_ne (fun c => hi c.symm)] at e2'
      obtain ⟨xs', e3, d3⟩ := hM.rows i r' l' e1 e2'
      have nr' : r' ≠ r := fun c => by
        obtain ⟨h1, k1⟩ := List.getElem?_eq_some_iff.mp e1
        obtain ⟨h2, k2⟩ := List.getElem?_eq_some_iff.mp er
        exact hi ((List.getElem_inj hM.nd).mp (k1.trans (c.trans k2.symm)))
      exact ⟨xs', keepD nr' e3, DtAll.keepT hkt _ (tup_notes l') d3⟩
  · show (D.notes.set _ _).length = _
    rw [List.length_set]
    exact hM.ln
end
/-! ### where nothing has fallen yet -/
theorem Gd.gs {zs : List Str} {D : Md} {k : Nat} (h : Gd zs D k) (nz : NamesOk zs) (lg : D.given.length = zs.length) (ln : D.notes.length = zs.length) : Gs zs D := by
  refine ⟨nz, h.nt, fun f hf => ?_, Nat.le_trans h.my h.k1, lg, ?_, ln, fun j z ej => ?_⟩
  · rw [h.zf] at hf
    rw [List.eq_of_mem_replicate hf]
    exact Int.le_refl _
  · rw [h.zf]
    exact List.length_replicate
  · have hj : j < zs.length := (List.getElem?_eq_some_iff.mp ej).1
    have hg : j < D.given.length := by omega
    have hf : D.fallen[j]? = some 0 := by
      rw [h.zf]
      show (List.replicate zs.length (0 : Int))[j]? = some 0
      rw [List.getElem?_replicate, if_pos hj]
    rw [cash_eq]
    unfold cashD
    rw [h.sums, getD_of (List.getElem?_eq_getElem hg), getD_of hf]
    have := (h.gv _ (List.getElem_mem hg)).1
    omega
/-! ### what a fall does -/
theorem sum_zip_set {α : Type} (F : List (Str × Int) × Int → Int) : ∀ (L : List (List (Str × Int))) (fs : List Int) (j : Nat) (l : List (Str × Int)) (f x : Int), L[j]? = some l → fs[j]? = some f →
    ((L.zip (fs.set j x)).map F).sum = ((L.zip fs).map F).sum + (F (l, x) - F (l, f))
  | [], _, _, _, _, _, h, _ => by simp at h
  | _ :: _, [], _, _, _, _, _, h => by simp at h
  | a :: L, b :: fs, 0, l, f, x, h1, h2 => by
    simp at h1 h2
    subst h1 h2
    simp only [List.set_cons_zero, List.zip_cons_cons, List.map_cons, List.sum_cons]
    omega
  | a :: L, b :: fs, j + 1, l, f, x, h1, h2 => by
    have ih := sum_zip_set (α := α) F L fs j l f x (by simpa using h1) (by simpa using h2)
    simp only [List.set_cons_succ, List.zip_cons_cons, List.map_cons, List.sum_cons]
    omega
def fellD (D : Md) (j : Nat) (x : Int) : Md := { D with fallen := D.fallen.set j x }
theorem fellD_cash {zs : List Str} {D : Md} {j : Nat} {z t : Str} {l r : List (Str × Int)} {f m b : Int} (g : Gs zs D) (ej : zs[j]? = some z) (el : D.notes[j]? = some l) (ef : D.fallen[j]? = some f) (e : leftN l f = (t, b) :: r) (m0 : 0 ≤ m) (mb : m ≤ b)
    {i : Nat} {y : Str} (ei : zs[i]? = some y) : cashM (bkOf zs (fellD D j (f + m))) i y = cashM (bkOf zs D) i y + (if t = y then m else 0) - (if i = j then m else 0) := by
  have f0 := g.fl f (List.mem_of_getElem? ef)
  obtain ⟨_, h2⟩ := fall_one (fun n hn => (g.nt l (List.mem_of_getElem? el) n hn).2.1) f0 m0 mb e
  have e1 : fallTo (bkOf zs (fellD D j (f + m))) y = fallTo (bkOf zs D) y + (if t = y then m else 0) := by
    show ((D.notes.zip (D.fallen.set j (f + m))).map fun p => sumTo y (goneN p.1 p.2)).sum = ((D.notes.zip D.fallen).map fun p => sumTo y (goneN p.1 p.2)).sum + _
    rw [sum_zip_set (α := Nat) (fun p => sumTo y (goneN p.1 p.2)) D.notes D.fallen j l f (f + m) el ef]
    show _ + (sumTo y (goneN l (f + m)) - sumTo y (goneN l f)) = _
    rw [h2 y]
    omega
  have e2 : (bkOf zs (fellD D j (f + m))).drops.getD i 0 = (bkOf zs D).drops.getD i 0 + (if i = j then m else 0) := by
    show (D.fallen.set j (f + m)).getD i 0 = D.fallen.getD i 0 + _
    by_cases h : i = j
    · subst h
      rw [if_pos rfl, getD_of ef]
      have hj : i < D.fallen.length := (List.getElem?_eq_some_iff.mp ef).1
      rw [getD_of (List.getElem?_set_self hj)]
    · rw [if_neg h, List.getD_eq_getElem?_getD, List.getElem?_set_ne (fun c => h c.symm), List.getD_eq_getElem?_getD]
      omega
  unfold cashM
  rw [e1, e2]
  show (bkOf zs D).gifts.getD i 0 + _ - _ = _
  omega
theorem moreAt_one (z : Str) (m : Int) (y : Str) : moreAt [(z, m)] y = if z = y then m else 0 := by
  unfold moreAt
  by_cases h : z = y <;> simp [h]
theorem fell_eq {zs : List Str} {D : Md} {j : Nat} {z : Str} {f m : Int} (nd : zs.Nodup) (lf : D.fallen.length = zs.length) (ej : zs[j]? = some z) (ef : D.fallen[j]? = some f) : fallM (bkOf zs D) [(z, m)] = bkOf zs (fellD D j (f + m)) := by
  have e : ((zs.zip D.fallen).map fun p => p.2 + moreAt [(z, m)] p.1) = D.fallen.set j (f + m) := by
    refine List.ext_getElem? fun i => ?_
    rw [List.getElem?_map]
    by_cases hi : i < zs.length
    · have hf : i < D.fallen.length := by omega
      rw [List.getElem?_zip_eq_some (z := (zs[i], D.fallen[i])) |>.mpr ⟨List.getElem?_eq_getElem hi, List.getElem?_eq_getElem hf⟩]
      show some (D.fallen[i] + moreAt [(z, m)] zs[i]) = _
      rw [moreAt_one]
      obtain ⟨hj, ez⟩ := List.getElem?_eq_some_iff.mp ej
      obtain ⟨hjf, ev⟩ := List.getElem?_eq_some_iff.mp ef
      by_cases h : i = j
      · subst h
        rw [if_pos ez.symm, List.getElem?_set_self hf, ev]
      · rw [if_neg (fun c => h ((List.getElem_inj nd).mp (c.symm.trans ez.symm))), List.getElem?_set_ne (fun c => h c.symm), List.getElem?_eq_getElem hf, Int.add_zero]
    · rw [List.getElem?_eq_none (by rw [List.length_zip]; omega), List.getElem?_eq_none (by rw [List.length_set]; omega)]
      rfl
  show Bk.mk zs D.given D.notes ((zs.zip D.fallen).map fun p => p.2 + moreAt [(z, m)] p.1) = _
  rw [e]
  rfl
/-- some of a due note falls: to oneself, or by cash -/
theorem Gs.fall {zs : List Str} {D : Md} {j : Nat} {z t : Str} {l r : List (Str × Int)} {f m b : Int} (g : Gs zs D) (ej : zs[j]? = some z) (el : D.notes[j]? = some l) (ef : D.fallen[j]? = some f) (e : leftN l f = (t, b) :: r) (m0 : 0 ≤ m) (mb : m ≤ b)
    (hc : t = z ∨ m ≤ cashM (bkOf zs D) j z) : Gs zs (fellD D j (f + m)) ∧ FallOk (bkOf zs D) [(z, m)] := by
  have f0 := g.fl f (List.mem_of_getElem? ef)
  obtain ⟨h1, _⟩ := fall_one (fun n hn => (g.nt l (List.mem_of_getElem? el) n hn).2.1) f0 m0 mb e
  have cs : ∀ (i : Nat) (y : Str), zs[i]? = some y → 0 ≤ cashM (bkOf zs (fellD D j (f + m))) i y := fun i y ei => by
    rw [fellD_cash g ej el ef e m0 mb ei]
    have c0 := g.cs i y ei
    by_cases h : i = j
    · subst h
      have ey : y = z := Option.some.inj (ei.symm.trans ej)
      subst ey
      rw [if_pos rfl]
      rcases hc with hc | hc
      · rw [if_pos hc]
        omega
      · have : 0 ≤ (if t = y then m else 0) := by split <;> omega
        omega
    · rw [if_neg h]
      have : 0 ≤ (if t = y then m else 0) := by split <;> omega
      omega
  refine ⟨⟨g.nz, g.nt, fun x hx => ?_, g.my, g.lg, ?_, g.ln, cs⟩, ?_, fun i y ei => ?_⟩
  · rcases List.mem_or_eq_of_mem_set hx with hx | hx
    · exact g.fl x hx
    · omega
  · show (D.fallen.set _ _).length = _
    rw [List.length_set]
    exact g.lf
  · intro p hp
    rw [List.mem_singleton.mp hp]
    exact ⟨j, l, f, ej, el, ef, m0, h1⟩
  · rw [fell_eq g.nz.nd g.lf ej ef]
    exact cs i y ei
end Rc

namespace Rc
open PySem PySem.Spec PyProof.Rows L2 RZ
/-! ### what is told, as data -/
def ringD : Option (List Str) → PyData
  | none => .none
  | some r => .list (r.map .str)
def endD : Option Str → PyData
  | none => .none
  | some z => .str z
theorem RingV.dt {K : PySem.W.Frag} {H H' : Hp} {v : V} {o : Option (List Str)} (h : RingV H H' v o) : Dt K H' v (ringD o) := by
  cases o with
  | none =>
    have e : v = .non := h
    subst e
    exact .non
  | some r =>
    obtain ⟨a, rfl, _, e⟩ := h
    exact .lst (.inl (.inl e)) (DtAll.strs r)
theorem end_dt {K : PySem.W.Frag} {H : Hp} (o : Option Str) : Dt K H (nxV o) (endD o) := by
  cases o with
  | none => exact .non
  | some z => exact .str z
theorem NiceD.mono {d : PyData} {n m : Nat} (h : NiceD d n) (hm : n ≤ m) : NiceD d m := ⟨h.sh, h.lv, h.nd, h.dp, Nat.le_trans h.bk hm, h.cl⟩
theorem nice_none : NiceD .none 0 :=
  ⟨by simp only [PyData.showable], by simp only [PyData.leavesShort], by simp only [PyData.hasDict], by simp only [PyData.depth]; omega, by simp only [PyData.bulk]; omega, by simp only [PyData.canLay0]⟩
/-- nice and shallow -/
structure NiceS (d : PyData) (n : Nat) : Prop where
  ok : NiceD d n
  dp : d.depth ≤ 4
theorem niceS_none : NiceS .none 200 := ⟨nice_none.mono (by decide), by simp only [PyData.depth]; omega⟩
theorem niceS_names {zs : List Str} (h : ∀ z ∈ zs, nameT z = true) (l : zs.length ≤ 12) : NiceS (.list (zs.map .str)) 200 := by
  refine ⟨(nice_names h).list.mono (by omega), ?_⟩
  simp only [PyData.depth]
  have := dep_map (f := PyData.str) (n := 0) (l := zs) fun _ _ => by simp only [PyData.depth]; omega
  omega
theorem niceS_name {z : Str} (h : nameT z = true) : NiceS (.str z) 200 := ⟨(nice_name h).mono (by decide), by simp only [PyData.depth]; omega⟩
theorem niceS_due {zs : List Str} (hz : ∀ z ∈ zs, nameT z = true) {o : Option (Str × Int)} (h : ∀ n, o = some n → NoteOk zs n) : NiceS (dueD o) 200 := by
  cases o with
  | none => exact niceS_none
  | some n =>
    obtain ⟨a, b⟩ := nice_note hz (h n rfl)
    exact ⟨a.mono (by decide), by show (noteD n).depth ≤ 4; omega⟩
theorem niceS_ring {o : Option (List Str)} (h : ∀ r, o = some r → (∀ z ∈ r, nameT z = true) ∧ r.length ≤ 12) : NiceS (ringD o) 200 := by
  cases o with
  | none => exact niceS_none
  | some r =>
    obtain ⟨a, b⟩ := h r rfl
    exact niceS_names a b
theorem niceS_end {o : Option Str} (h : ∀ z, o = some z → nameT z = true) : NiceS (endD o) 200 := by
  cases o with
  | none => exact niceS_none
  | some z => exact niceS_name (h z rfl)
inductive NiceL : List PyData → Prop
  | nil : NiceL []
  | cons {d : PyData} {ds : List PyData} : NiceS d 200 → NiceL ds → NiceL (d :: ds)
theorem NiceL.all : ∀ {ds : List PyData}, NiceL ds → NiceA ds (201 * ds.length)
  | _, .nil => NiceA.nil
  | _, .cons (ds := ds) a b => by
    have c := NiceA.cons a.ok a.dp (NiceL.all b)
    rw [List.length_cons]
    have e : 201 * (ds.length + 1) = 200 + 1 + 201 * ds.length := by omega
    rw [e]
    exact c
theorem NiceL.top {ds : List PyData} (h : NiceL ds) (l : ds.length ≤ 30) : NiceD (.list ds) 8000 := h.all.list.mono (by omega)
/-! ### rings and trails are of persons -/
theorem ring_names {zs : List Str} {nx : Str → Option Str} {z : Str} (nm : ∀ z ∈ zs, nameT z = true) (lz : zs.length ≤ 12) (c : Leads zs nx) (hz : z ∈ zs) : ∀ r, ringM zs nx z = some r → (∀ y ∈ r, nameT y = true) ∧ r.length ≤ 12 := fun r h => by
  have en := trail_ended c hz
  unfold ringM at h
  split at h
  · have e := Option.some.inj h
    subst e
    refine ⟨fun y hy => nm y (en.sub y ?_), ?_⟩
    · rcases List.mem_append.mp hy with hy | hy
      · exact List.mem_of_mem_drop hy
      · exact List.mem_of_mem_take hy
    · rw [List.length_append, List.length_drop, List.length_take]
      have := Nat.le_trans (nodup_le _ _ en.nd en.sub) lz
      omega
  · cases h
theorem trail_names {zs : List Str} {nx : Str → Option Str} {z : Str} (nm : ∀ z ∈ zs, nameT z = true) (lz : zs.length ≤ 12) (c : Leads zs nx) (hz : z ∈ zs) : (∀ y ∈ trailM zs nx z, nameT y = true) ∧ (trailM zs nx z).length ≤ 12 := by
  have en := trail_ended c hz
  exact ⟨fun y hy => nm y (en.sub y hy), Nat.le_trans (nodup_le _ _ en.nd en.sub) lz⟩
theorem end_names {zs : List Str} {nx : Str → Option Str} {z : Str} (nm : ∀ z ∈ zs, nameT z = true) (c : Leads zs nx) (hz : z ∈ zs) : ∀ y, endM zs nx z = some y → nameT y = true := fun y h => by
  have en := trail_ended c hz
  obtain ⟨ini, x, e1, _⟩ := en.last
  unfold endM at h
  split at h
  · have e := Option.some.inj h
    rw [lastM_eq e1] at e
    subst e
    exact nm _ (en.sub _ (by rw [e1]; exact List.mem_append.mpr (.inr List.mem_cons_self)))
  · cases h
/-! ### a note to oneself is a ring -/
theorem self_trail {zs : List Str} {nx : Str → Option Str} {z : Str} (h : nx z = some z) : trailM zs nx z = [z] := by
  unfold trailM
  rw [h, trailF_in List.mem_cons_self]
theorem self_last {zs : List Str} {nx : Str → Option Str} {z : Str} (h : nx z = some z) : lastM zs nx z = z := lastM_eq (ini := []) (self_trail h)
theorem self_ring {zs : List Str} {nx : Str → Option Str} {z : Str} (h : nx z = some z) (hz : z ∈ zs) : ringM zs nx z = some [z] := by
  obtain ⟨f, r, _, e1, e2, _⟩ := find_some (T := [z]) hz List.mem_cons_self
  have ef : f = z := List.mem_singleton.mp e2
  unfold ringM
  rw [self_last h, if_pos h, self_trail h, e1, ef]
  simp
theorem self_end {zs : List Str} {nx : Str → Option Str} {z : Str} (h : nx z = some z) : endM zs nx z = none := by
  unfold endM
  rw [self_last h, h]
  rfl
/-- x[0] if x != [] else None, x a list of notes -/
def tFirst (K : PySem.W.Frag) (i : Nat) : TE := fun σ H Q => ∃ (m : Addr) (mx : List V) (l : List (Str × Int)) (zs : List Str), σ[i]? = some (some (.ref m)) ∧ H m = some (.lst mx) ∧ DtAll K H mx (notesD l) ∧ (∀ n ∈ l, NoteOk zs n) ∧ (∀ z ∈ zs, nameT z = true) ∧
  ∀ v H', Same H H' → Dt K H' v (dueD l.head?) → Q v H'
end Rc

namespace Rc
open PySem PySem.Spec PyProof.Rows L2 RZ
/-! ### a built-in special method of an own class -/
section
variable {prog : Program} {w : World} {A : Around} {E : Value → Shared → Prop} {s : Shared} {h₀ : Heap} {L x y C f : Addr} {m : Str → Option Value} {K : PySem.W.Frag} {ox : Obj} {od : Option Obj}
theorem ifBoundB {M : Model} {name : Str} {id : String} {args : List Value} {Q : Option Value → Shared → Prop} (X : K.In s.heap) (I : PySem.W.InstAt s.heap x ox C od) (hs : PySem.W.findIn K (.ref C) name = some (some (.builtin id)))
    (S : ∀ self, bindSpecial (.builtin id) self = pure (.builtin id, [self])) (h : wpAny M A (call (.builtin id) (.ref x :: args)) (fun v => Q (some v)) E s) : wpAny M A (callSpecialIfBound? (.ref x) name args) Q E s := by
  simp only [callSpecialIfBound?, bindSpecialIfBound?]
  refine wpAny_holding (wpAny_bind (wpAny_bind (wpAny_bind (I.type.here ((PySem.W.looks_findIn X hs).here ?_)))))
  simp only [S]
  refine wpAny_bind (wpAny_askSetting (wpAny_ite ?_))
  have fin : wpAny M A (call (.builtin id) ([.ref x] ++ args) >>= fun v => pure (some v)) Q E s := wpAny_bind (wpAny_mono h (fun v s' h' => wpAny_pure h') fun _ _ h' => h')
  split
  · exact wpAny_bind (wpAny_pure (wpAny_pure fin))
  · exact wpAny_tryCatch (wpAny_bind (wpAny_pure (wpAny_pure fin)))
set_option maxHeartbeats 2000000 in
/-- a != b by an own == -/
theorem ne_own {Q : Value → Shared → Prop} (hu : A.units + 1 < cLine) (F : Fr h₀ L s.heap m) (X₀ : K.In h₀) (I : PySem.W.InstAt s.heap x ox C od) (hy : PySem.W.Looks (model prog w) s.heap (typeOf (.ref y)) (.ref C))
    (hne : PySem.W.findIn K (.ref C) "__ne__" = some (some (.builtin "object.__ne__"))) (heq : PySem.W.findIn K (.ref C) "__eq__" = some (some (.ref f))) (hf : PySem.W.isFn K (.ref f) = true) (ho : PySem.W.subIn K (.ref C) (.type "object") = some true)
    (h : wpAny (model prog w) A.in1 (call (.ref f) [.ref x, .ref y]) (fun v s' => ∃ b, v = .bool b ∧ Q (.bool (!b)) s') E s) : wpAny (model prog w) A (richCompare .NotEq (.ref x) (.ref y)) Q E s := by
  obtain ⟨hp, gg, dd, tt, os⟩ := s
  have X := X₀.keeps F.keep
  have body : wpAny (model prog w) A.in1 (Builtin.«object.__ne__» ⟨[.ref x, .ref y], []⟩) (fun fin s' => ∃ b, fin = .done (.ret (.bool (!b))) ∧ Q (.bool (!b)) s') E ⟨hp, gg, dd, tt, os⟩ := by
    unfold Builtin.«object.__ne__»
    repeat (first
      | with_reducible refine wpAny_cRoomFor hu ?_
      | (refine wpAny_bind (m := callSpecialIfBound? (.ref x) (Str.ofString "__eq__") [.ref y])
          (PySem.W.ifBound_K X I heq hf (wpAny_mono h (fun r s' hr => by
            obtain ⟨b, rfl, hq⟩ := hr
            repeat (first | exact ⟨b, rfl, hq⟩ | exact wpAny_pure ⟨b, rfl, hq⟩ | exact wpAny_truthy_bool ⟨b, rfl, hq⟩ | (refine wpAny_bind (m := truthy (.bool _)) (wpAny_truthy_bool ?_)) | wp_step)) fun _ _ e => e)))
      | wp_step)
  have one : wpAny (model prog w) A (tryCompare (.ref x) "__ne__" (.ref y)) (fun r s' => ∃ v, r = some v ∧ Q v s') E ⟨hp, gg, dd, tt, os⟩ := by
    simp only [tryCompare]
    refine wpAny_bind (ifBoundB X I hne PySem.F.cmp_object.ne.bind (wpAny_call (codeAny_call_builtin PySem.F.cmp_object.ne.plain PySem.F.cmpEntry_ne
      (PySem.W.check_slot PySem.F.cmpKind_ne PySem.F.cmpSplit_ne (I.type.andThen (PySem.W.looks_subIn X ho)) (PySem.F.cmpArgs_ne _ _) (wpAny_mono body (fun fin s' hv => ?_) fun _ _ e => e)))))
    obtain ⟨b, rfl, hq⟩ := hv
    exact wpAny_pure ⟨_, rfl, hq⟩
  unfold richCompare
  simp only [oneThing_ref]
  refine wpAny_holding (wpAny_bind (wpAny_cRoomFor (Nat.lt_of_succ_lt hu) ?_))
  rw [cmpInfo_NotEq]
  dsimp only
  refine wpAny_bind (I.type.here (wpAny_bind (hy.here ?_)))
  rw [show (Value.ref C != Value.ref C) = false from by simp]
  simp only [Bool.false_eq_true, if_false]
  refine wpAny_bind (wpAny_pure ?_)
  simp only [Bool.false_eq_true, if_false]
  refine wpAny_bind (wpAny_mono one (fun r s' z => ?_) fun _ _ e => e)
  obtain ⟨v, rfl, hq⟩ := z
  exact wpAny_pure hq
end
/-! ### == and != of books -/
structure ClsE (K : PySem.W.Frag) (C : Addr) : Prop where
  ha : PySem.W.findIn K (.ref C) "__class__" = some (some (.builtin "object.__class__"))
  hn : PySem.W.specialIn K (.builtin "object.__class__") "__get__" = some (some (.builtin "getset_descriptor.__get__"))
  htk : PySem.W.takesIn K (.builtin "object.__class__") = some true
  hm : PySem.W.mroIn K C (.type "object") = some true
  ne : PySem.W.findIn K (.ref C) "__ne__" = some (some (.builtin "object.__ne__"))
def spEqB (K : PySem.W.Frag) (C : Addr) : Sp := fun vs H Q _ => ∃ a b M N, vs = [.ref a, .ref b] ∧ BookAt K C H a M ∧ BookAt K C H b N ∧ KeyOk M ∧ KeyOk N ∧ ∀ H', Same H H' → Q (.bl (PyData.eqv (keyD M) (keyD N))) H'
section
variable {P : Program} {w : World} {K : PySem.W.Frag} {mg : Str → Option Value} {base : Heap}
abbrev sEqB : Stmt := inBook 18
theorem scEqB : FnScope ["self", "other"] ["self", "other"] (defScope sEqB) := ⟨rfl, rfl, rfl, by decide +kernel, rfl, by decide +kernel, by decide +kernel⟩
theorem ok_eqB {f fk C : Addr} {fd fdk : FuncData} (F : Fun K "__eq__" "Book.__eq__" sEqB f fd) (T : ClsF K C) (TE : ClsE K C) (B : Blt mg) (gC : mg "Book" = some (.ref C)) (KY : HasM P w K mg base C 1 "key" ["self"] (spKey K C) fk fdk) :
    FnOk P w K mg base CX0 2 f fd ["self", "other"] (spEqB K C) := by
  refine F.ok scEqB (fun vs H Q E h => ?_) (fun cdv A outer s H vs Q E hr h => ?_)
  · obtain ⟨_, _, _, _, rfl, _⟩ := h
    rfl
  · obtain ⟨a, b, M, N, rfl, ha, hb, oM, oN, q⟩ := h
    refine ⟨_, pss_one (ps_ret (pe_and (pe_callB call_isi (by rfl) B.isi (by decide +kernel) (pa_cons (pv 1) (pa_cons (pe_glob (v := .ref C) (by rfl) gC rfl) pa_nil)))
      (pe_one (pe_cmpR (op_eqD hr.units) (pe_meth0 (pv 0) T.cl KY.m KY.ok hr KY.b .nil pass0) (pe_meth0 (pv 1) T.cl KY.m KY.ok hr KY.b .nil pass0) (nomark _))))), ?_⟩
    obtain ⟨dx, tn, on, wg, ws, wd, e, _⟩ := hb.ex
    obtain ⟨dx2, tn2, on2, wg2, ws2, wd2, e2, _⟩ := ha.ex
    have kt : PySem.W.kitOne K (.ref C) (.ref C) = some true := by
      unfold PySem.W.kitOne
      rw [if_pos (by simp)]
    refine ⟨.ref b, rfl, .ref b, .ref C, .ref C, .ref C, true, rfl, .own C, .base (.ins e T.cl TE.ha TE.hn TE.htk TE.hm), kt, _, rfl, ?_⟩
    refine iteT ⟨.ref a, rfl, a, dx2, _, rfl, e2, bf_no (NoF.mk' (by decide +kernel)), a, M, rfl, ha, fun v1 H1 s1 d1 => ?_⟩
    refine ⟨.ref b, rfl, b, dx, _, rfl, s1 _ _ e, bf_no (NoF.mk' (by decide +kernel)), b, N, rfl, book_same hb s1, fun v2 H2 s2 d2 => ?_⟩
    exact ⟨keyD M, keyD N, Dt.dp _ (tup_key M) (Dt.same s2 _ d1), Dt.dp _ (tup_key N) d2, oM, oN, q _ (s1.trans s2)⟩
end
def rEqB (K : PySem.W.Frag) (C : Addr) (n : Bool) : R2 := fun x y H Q => ∃ a b M N, x = .ref a ∧ y = .ref b ∧ BookAt K C H a M ∧ BookAt K C H b N ∧ KeyOk M ∧ KeyOk N ∧ ∀ H', Same H H' → Q (.bl (if n = true then !PyData.eqv (keyD M) (keyD N) else PyData.eqv (keyD M) (keyD N))) H'
section
variable {X : Cx} {C f : Addr} {fd : FuncData}
theorem op_neB {K : PySem.W.Frag} (eK : X.K = K) (G : FnOk X.prog X.w X.K X.mg X.base CX0 2 f fd ["self", "other"] (spEqB X.K C)) (bd : Binds X.K fd ["self", "other"] []) (hm : Meth X.K C "__eq__" f) (TE : ClsE X.K C) (hr : Room 3 X.A) : OpR X (compareOp .NotEq) (rEqB K C true) := by
  subst eK
  intro pins s σ H x y v u Q I rx ry h
  obtain ⟨a, b, M, N, rfl, rfl, ha, hb, oM, oN, q⟩ := h
  cases rx
  cases ry
  obtain ⟨dx, tn, on, wg, ws, wd, e, _⟩ := ha.ex
  obtain ⟨dx2, tn2, on2, wg2, ws2, wd2, e2, _⟩ := hb.ex
  obtain ⟨m, Fm⟩ := I.fr
  obtain ⟨mA, O, _⟩ := ins_get I.hok e
  obtain ⟨od, J, _⟩ := O.look
  obtain ⟨mB, O2, _⟩ := ins_get I.hok e2
  obtain ⟨od2, J2, _⟩ := O2.look
  show wpAny (model X.prog X.w) X.A (richCompare .NotEq (.ref a) (.ref b)) (EP X pins σ Q) X.xe s
  refine ne_own (hu_of hr) Fm I.ok.mod.kin J J2.type TE.ne hm.at_ hm.fn TE.hm ?_
  have e0 := I.env0
  refine wpAny_call (codeAny_mono (G.run X.A.in1 X.stack s H ⟨[.ref a, .ref b], []⟩ [.ref a, .ref b] [.ref a, .ref b] (fun v H' => v = .bl (PyData.eqv (keyD M) (keyD N)) ∧ Q (.bl (!PyData.eqv (keyD M) (keyD N))) H') E0 hr.in1 e0.in1 (bd s [.ref a, .ref b] I.kIn rfl) (.cons rfl (.cons rfl .nil)) ⟨a, b, M, N, rfl, ha, hb, oM, oN, fun H' s' => ⟨rfl, q H' s'⟩⟩) fun r s' hq => ?_)
  match r, hq with
  | .error e, hq => exact hq.elim
  | .ok .next, hq => exact hq.elim
  | .ok .brk, hq => exact hq.elim
  | .ok .cont, hq => exact hq.elim
  | .ok (.ret u), hq =>
    obtain ⟨v, H', I', rv, ev, q'⟩ := I.after hq
    subst ev
    cases rv
    exact ⟨_, rfl, ⟨.bl _, H', I', rfl, q'⟩⟩
end
end Rc

namespace Rc
open PySem PySem.Spec PyProof.Rows L2 RZ
section
variable {P : Program} {w : World} {K : PySem.W.Frag} {mg : Str → Option Value} {base : Heap}
abbrev sLDs : Stmt := topS 36
theorem scLDs : FnScope ["_law_pot_here", "_law_names_here", "_law_many", "_law_size", "_law_found", "_law_k"] ["_law_pot_here", "_law_names_here", "_law_many", "_law_size"] (defScope sLDs) := ⟨rfl, rfl, rfl, by decide +kernel, rfl, by decide +kernel, by decide +kernel⟩
def spLDs (K : PySem.W.Frag) : Sp := fun vs H Q _ => ∃ (p nl : Addr) (zs : List Str) (m : Nat) (sz : Int), vs = [.ref p, .ref nl, .int (m : Nat), .int sz] ∧ (sz = 0 ∨ sz = 1) ∧ Pot H p ∧ nl ≠ p ∧ H nl = some (.lst (List.map V.str zs)) ∧ 1 ≤ zs.length ∧ zs.length ≤ 1000 ∧ m ≤ 60 ∧
  ∀ r xs ds H', H r = none → r ≠ p → H' r = some (.lst xs) → DtAll K H' xs (deedsD ds) → ds.length = m → (∀ d ∈ ds, d.Ok zs) → Pot H' p → But p H H' → Q (.ref r) H'
theorem ok_lds {f fT fA fM : Addr} {fd fdT fdA fdM : FuncData} (F : Fun K "_law_deeds" "_law_deeds" sLDs f fd) (B2 : Blt2 mg) (T : HasTake P w K mg base fT fdT) (A : HasAmong P w K mg base fA fdA)
    (AM : Has P w K mg base 2 "_law_amount" ["_law_pot_here", "_law_size"] spLAm fM fdM) : FnOk P w K mg base CX0 3 f fd ["_law_pot_here", "_law_names_here", "_law_many", "_law_size"] (spLDs K) := by
  refine F.ok scLDs (fun vs H Q E h => ?_) (fun cdv Ar outer s H vs Q E hr h => ?_)
  · obtain ⟨_, _, _, _, _, rfl, _⟩ := h
    rfl
  · obtain ⟨p, nl, zs, m, sz, rfl, hsz, hp, np, hn, z0, z1, hm, q⟩ := h
    have hr1 := hr.mono (show 1 ≤ 2 by decide)
    refine ⟨_, pss_cons (ps_set (i := 4) scLDs.nd rfl (.inl rfl) (pe_lst pa_nil))
      (pss_cons (ps_for PassesOwn.never rfl (pi_range1 (by rfl) B2.range (pa_cons (pv 2) pa_nil)) (pg_name (i := 5) scLDs.nd rfl (.inl rfl))
        (pss_one (ps_if (pt_cmpR op_eq (pe_call T.ok hr1 (by rfl) T.g T.kp T.b .nil pass0 (pa_cons (pv 0) (pa_cons pe_int pa_nil))) pe_int (nomark _))
          (pss_one (ps_expr (pe_bm PySem.F.plainAttrs_list PySem.F.slot_list_append PySem.F.type_list_append mt_append (pv 4) (pa_cons (pe_tup (pa_cons pe_str (pa_cons (pe_call A.ok hr (by rfl) A.g A.kp A.b .nil pass0 (pa_cons (pv 0) (pa_cons (pv 1) pa_nil)))
            (pa_cons (pe_call AM.ok hr (by rfl) AM.g AM.kp AM.b .nil pass0 (pa_cons (pv 0) (pa_cons (pv 3) pa_nil))) pa_nil)))) pa_nil))))
          (pss_one (ps_expr (pe_bm PySem.F.plainAttrs_list PySem.F.slot_list_append PySem.F.type_list_append mt_append (pv 4) (pa_cons (pe_tup (pa_cons pe_str (pa_cons (pe_call A.ok hr (by rfl) A.g A.kp A.b .nil pass0 (pa_cons (pv 0) (pa_cons (pv 1) pa_nil)))
            (pa_cons (pe_call A.ok hr (by rfl) A.g A.kp A.b .nil pass0 (pa_cons (pv 0) (pa_cons (pv 1) pa_nil))) (pa_cons (pe_call AM.ok hr (by rfl) AM.g AM.kp AM.b .nil pass0 (pa_cons (pv 0) (pa_cons (pv 3) pa_nil))) pa_nil))))) pa_nil)))))))
      (pss_one (ps_ret (pv 4)))), ?_⟩
    refine ⟨Nat.zero_le _, fun r nr => ?_⟩
    have rp : r ≠ p := by
      obtain ⟨x, y, e, _⟩ := hp
      exact (ne_of_none e nr).symm
    have rn : nl ≠ r := ne_of_none hn nr
    refine ⟨_, rfl, _, rfl, by omega, by omega, ?_⟩
    refine for_it walk_range (fun i σ H' => ∃ xs ds y5, σ = [some (.ref p), some (.ref nl), some (.int (m : Nat)), some (.int sz), some (.ref r), y5] ∧ H' r = some (.lst xs) ∧ DtAll K H' xs (deedsD ds) ∧ ds.length = i ∧ (∀ d ∈ ds, d.Ok zs) ∧ Pot H' p ∧ But p H H')
      ⟨[], [], _, rfl, upd_same, .nil, rfl, fun z hz => absurd hz List.not_mem_nil, hp.new nr, But.new nr⟩ (fun _ _ _ _ _ => trivial) (fun i x σ H1' H1 hi hP hY => ?_) (fun σ H1 hP => ?_)
    · obtain ⟨rfl, rfl⟩ := hY
      obtain ⟨xs, ds, y5, rfl, hr1', dd, ld, od, hp1, hb1⟩ := hP
      have hi' : i < m := by simpa using hi
      have lx : xs.length = i := by
        rw [dd.len]
        unfold deedsD
        rw [List.length_map, ld]
      have potr : ∀ H', Pot H' p → ∀ o, Pot (upd H' r o) p := fun H' hp' o => by
        obtain ⟨x, y, e, rr⟩ := hp'
        exact ⟨x, y, by rw [upd_ne rp.symm]; exact e, rr⟩
      -- the row with one deed more
      have more : ∀ (H' : Hp) (t : Addr) (us : List V) (d : Deed), Pot H' p → But p H1 H' → H' t = none → (∀ H'', KT H' H'' → H'' t = some (.tup us) → Dt K H'' (.ref t) (deedD d)) → d.Ok zs →
          ∃ xs' ds' y5', [some (V.ref p), some (.ref nl), some (.int (m : Nat)), some (.int sz), some (.ref r), some (.int (0 + (i : Nat)))] = [some (.ref p), some (.ref nl), some (.int (m : Nat)), some (.int sz), some (.ref r), y5'] ∧
            upd (upd H' t (.tup us)) r (.lst (xs ++ [.ref t])) r = some (.lst xs') ∧ DtAll K (upd (upd H' t (.tup us)) r (.lst (xs ++ [.ref t]))) xs' (deedsD ds') ∧ ds'.length = i + 1 ∧ (∀ d ∈ ds', d.Ok zs) ∧ Pot (upd (upd H' t (.tup us)) r (.lst (xs ++ [.ref t]))) p ∧
            But p H (upd (upd H' t (.tup us)) r (.lst (xs ++ [.ref t]))) := fun H' t us d hp' hb' nt hd ok => by
        have hr' := hb' _ _ rp hr1'
        have tr : t ≠ r := (ne_of_none hr' nt).symm
        have kt : KT H' (upd (upd H' t (.tup us)) r (.lst (xs ++ [.ref t]))) := (kt_same (same_upd nt)).trans (kt_upd (o := .lst xs) (by rw [upd_ne tr.symm]; exact hr') fun z => z)
        have k1 : KT H1 H' := fun b o e t' => hb' b o (fun z => by
          obtain ⟨x, y, e', _⟩ := hp1
          rw [z, e'] at e
          cases e
          exact t') e
        refine ⟨xs ++ [.ref t], ds ++ [d], _, rfl, upd_same, ?_, by rw [List.length_append, ld]; rfl, fun d' h' => ?_, potr _ (hp'.new nt) _, fun b o n e => ?_⟩
        · unfold deedsD
          rw [List.map_append]
          exact (DtAll.keepT (k1.trans kt) _ (tup_deeds ds) dd).append (.cons (hd _ kt (by rw [upd_ne tr, upd_same])) .nil)
        · rcases List.mem_append.mp h' with h' | h'
          · exact od d' h'
          · rw [List.mem_singleton.mp h']
            exact ok
        · have br : b ≠ r := ne_of_none e nr
          have e2 := hb' _ _ n (hb1 _ _ n e)
          rw [upd_ne br, upd_ne (ne_of_none e2 nt)]
          exact e2
      have lzs : 0 < (zs.map V.str).length := by
        rw [List.length_map]
        omega
      have lzs2 : (zs.map V.str).length ≤ 1000 := by
        rw [List.length_map]
        exact z1
      have memS : ∀ {v : V}, v ∈ zs.map V.str → ∃ z ∈ zs, v = .str z := fun {v} h => by
        obtain ⟨z, hz, rfl⟩ := List.mem_map.mp h
        exact ⟨z, hz, rfl⟩
      refine ⟨.ref p, rfl, p, 3, rfl, hp1, litM _ (by decide) (by decide), fun k H2 k0 k1 hp2 hb2 => ⟨rfl, _, rfl, ite2 (fun e => ?_) (fun e => ?_)⟩⟩
      · refine ⟨.ref r, rfl, .inl ⟨rfl, _, .inl (.inl (hb2 _ _ rp hr1'))⟩, .ref p, rfl, .ref nl, rfl, p, _, rfl, hp2, .inr ⟨nl, _, rfl, np, hb2 _ _ np (hb1 _ _ np hn), lzs, lzs2, fun v H3 hv hp3 hb3 => ?_⟩⟩
        obtain ⟨z, hz, rfl⟩ := memS hv
        refine ⟨.ref p, rfl, .int sz, rfl, p, sz, rfl, hsz, hp3, fun n H4 hn4 hp4 hb4 => ⟨by show 3 ≤ sizeLine; decide, fun t nt => ?_⟩⟩
        have hb14 := hb2.trans (hb3.trans hb4)
        refine ⟨r, xs, _, rfl, rfl, by rw [upd_ne (ne_of_none (hb14 _ _ rp hr1') nt)]; exact hb14 _ _ rp hr1', small1000 (by omega), ?_⟩
        exact more H4 t _ (.give z n) hp4 hb14 nt (fun H'' _ ht => .tup (.inl (.inl ht)) (.cons (.str _) (.cons (.str _) (.cons (.int _) .nil)))) ⟨hz, hn4⟩
      · refine ⟨.ref r, rfl, .inl ⟨rfl, _, .inl (.inl (hb2 _ _ rp hr1'))⟩, .ref p, rfl, .ref nl, rfl, p, _, rfl, hp2, .inr ⟨nl, _, rfl, np, hb2 _ _ np (hb1 _ _ np hn), lzs, lzs2, fun v H3 hv hp3 hb3 => ?_⟩⟩
        obtain ⟨z, hz, rfl⟩ := memS hv
        refine ⟨.ref p, rfl, .ref nl, rfl, p, _, rfl, hp3, .inr ⟨nl, _, rfl, np, (hb2.trans hb3) _ _ np (hb1 _ _ np hn), lzs, lzs2, fun v' H5 hv' hp5 hb5 => ?_⟩⟩
        obtain ⟨y, hy, rfl⟩ := memS hv'
        refine ⟨.ref p, rfl, .int sz, rfl, p, sz, rfl, hsz, hp5, fun n H4 hn4 hp4 hb4 => ⟨by show 4 ≤ sizeLine; decide, fun t nt => ?_⟩⟩
        have hb14 := hb2.trans (hb3.trans (hb5.trans hb4))
        refine ⟨r, xs, _, rfl, rfl, by rw [upd_ne (ne_of_none (hb14 _ _ rp hr1') nt)]; exact hb14 _ _ rp hr1', small1000 (by omega), ?_⟩
        exact more H4 t _ (.put z y n) hp4 hb14 nt (fun H'' _ ht => .tup (.inl (.inl ht)) (.cons (.str _) (.cons (.str _) (.cons (.str _) (.cons (.int _) .nil))))) ⟨hz, hy, hn4⟩
    · obtain ⟨xs, ds, y5, rfl, hr1', dd, ld, od, hp1, hb1⟩ := hP
      exact ⟨.ref r, rfl, q r xs ds H1 nr rp hr1' dd (by simpa using ld) od hp1 hb1⟩
end
end Rc

namespace Rc
open PySem PySem.Spec PyProof.Rows L2 RZ
section
variable {P : Program} {w : World} {K : PySem.W.Frag} {mg : Str → Option Value} {base : Heap}
/-! ### _law_cash -/
abbrev sLCs : Stmt := topS 32
abbrev nLCs : List Str := ["_law_model_here", "_law_who", "_law_found", "_law_name_here", "_law_to", "_law_amount_here"]
theorem scLCs : FnScope nLCs ["_law_model_here", "_law_who"] (defScope sLCs) := ⟨rfl, rfl, rfl, by decide +kernel, rfl, by decide +kernel, by decide +kernel⟩
def spLCs (K : PySem.W.Frag) : Sp := fun vs H Q _ => ∃ (a : MdA) (D : Md) (zs : List Str) (z : Str) (j : Nat), vs = [.ref a.m, .str z] ∧ ModelAt K H zs a D ∧ zs[j]? = some z ∧ RowsOk D ∧ ∀ H', Same H H' → Q (.int (cashD D j z)) H'
theorem ok_lcs {f fp : Addr} {fd fdp : FuncData} (F : Fun K "_law_cash" "_law_cash" sLCs f fd) (B3 : Blt3 mg) (PT : Has P w K mg base 1 "_law_parted" ["_law_model_here", "_law_who"] (spLPt K) fp fdp) : FnOk P w K mg base CX0 2 f fd ["_law_model_here", "_law_who"] (spLCs K) := by
  refine F.ok scLCs (fun vs H Q E h => ?_) (fun cdv Ar outer s H vs Q E hr h => ?_)
  · obtain ⟨_, _, _, _, _, rfl, _⟩ := h
    rfl
  · obtain ⟨a, D, zs, z, j, rfl, hM, ej, ro, q⟩ := h
    have hu := hu_of hr
    refine ⟨_, pss_cons (ps_set (i := 2) scLCs.nd rfl (.inl rfl) (pe_op op_sub (pe_dget hu (pe_dget hu (pv 0) pe_str (fun _ _ => rfl)) (pv 1) (fun _ _ => rfl)) (pe_dget hu (pe_dget hu (pv 0) pe_str (fun _ _ => rfl)) (pv 1) (fun _ _ => rfl))))
      (pss_cons (ps_for PassesOwn.never rfl (pi_list (pe_dget hu (pv 0) pe_str (fun _ _ => rfl))) (pg_name (i := 3) scLCs.nd rfl (.inl rfl))
        (pss_one (ps_set (i := 2) scLCs.nd rfl (.inl rfl) (pe_op op_add (pv 2) (pe_callB (cr_sum rfl) (by rfl) B3.sum (by decide +kernel) (pa_cons
          (pe_lc (own := [("_law_to", 4), ("_law_amount_here", 5)]) (g := gTup K 2 (gCons (gName 4) (gCons (gName 5) gNil))) rfl scLCs.nd
            (pi_list (pe_ix ix_tup (pe_call PT.ok hr (by rfl) PT.g PT.kp PT.b .nil pass0 (pa_cons (pv 0) (pa_cons (pv 3) pa_nil))) pe_int (fun _ _ => rfl)))
            (blkOk_by (N := nLCs) (sc := defScope sLCs) (own := [("_law_to", 4), ("_law_amount_here", 5)]) (by decide +kernel))
            (fun _ _ _ _ _ => pg_tup rfl (pgs_cons (pg_name (i := 4) scLCs.nd rfl (.inl rfl) (hf := .inr rfl)) (pgs_cons (pg_name (i := 5) scLCs.nd rfl (.inl rfl) (hf := .inr rfl)) pgs_nil)))
            (fun _ _ _ _ _ => pts_one (pt_cmpR op_eq (pv 4) (pv 1) (nomark _))) (fun _ _ _ _ _ => pv 5)) pa_nil))))))
      (pss_one (ps_ret (pv 2)))), ?_⟩
    obtain ⟨gv, f', l', r, xs, eg, ef, el', er, hr0, hd0⟩ := hM.at_ ej
    refine ⟨.ref a.m, rfl, a.m, .ref a.dg, rfl, hM.g1, .str z, rfl, a.dg, .int gv, rfl, hM.gg ej eg, .ref a.m, rfl, a.m, .ref a.df, rfl, hM.g2, .str z, rfl, a.df, .int f', rfl, hM.gf ej ef, _, _, rfl, rfl, ?_⟩
    refine ⟨.ref a.m, rfl, a.m, .ref a.lo, rfl, hM.g0, a.lo, rfl, ⟨_, .inl (.inl hM.ho)⟩, ?_⟩
    refine for_it (walk_list (K := K) (a := a.lo) (xs := zs.map V.str)) (fun i σ H' => ∃ y3 y4 y5, σ = [some (.ref a.m), some (.str z), some (.int (gv - f' + (((D.notes.zip D.fallen).take i).map fun p => sumTo z (goneN p.1 p.2)).sum)), y3, y4, y5] ∧ Same H H')
      ⟨_, _, _, by simp; rfl, Same.refl _⟩ (fun i σ H' _ hP => ?_) (fun i x σ H2' H2 hi hP hY => ?_) (fun σ H' hP => ?_)
    · obtain ⟨_, _, _, _, s1⟩ := hP
      exact .inl (.inl (s1 _ _ hM.ho))
    · obtain ⟨rfl, hx⟩ := hY
      obtain ⟨y3, y4, y5, rfl, s2⟩ := hP
      rw [List.length_map] at hi
      have exx : x = .str zs[i] := by
        rw [List.getElem?_map, List.getElem?_eq_getElem hi] at hx
        exact (Option.some.inj hx).symm
      subst exx
      have hs : i < D.notes.length := by rw [hM.ln]; exact hi
      have hdr : i < D.fallen.length := by rw [hM.lf]; exact hi
      have ll := ro _ (List.getElem_mem hs)
      refine ⟨_, rfl, .ref a.m, rfl, .str zs[i], rfl, a, D, zs, _, i, _, _, rfl, model_same hM s2, List.getElem?_eq_getElem hi, List.getElem?_eq_getElem hs, List.getElem?_eq_getElem hdr, by omega, fun t g m gx mx H4 s4 ht ng nm hg hm dg dm => ?_⟩
      refine ⟨t, _, 0, .ref g, rfl, rfl, .inl (.inl ht), rfl, g, rfl, ⟨_, .inl (.inl hg)⟩, fun D' nD => ?_⟩
      generalize hG : goneN D.notes[i] D.fallen[i] = G at dg
      have lg : gx.length = G.length := by
        rw [dg.len]
        unfold notesD
        rw [List.length_map]
      have lG : G.length ≤ 60 := by
        rw [← hG]
        exact Nat.le_trans (goneN_len _ _) ll
      refine lc_it (walk_list (K := K) (a := g) (xs := gx)) (fun i' H' => Same H4 H' ∧ H' D' = some (.lst (((G.take i').filter fun n => decide (n.1 = z)).map fun n => .int n.2))) ⟨same_upd nD, upd_same⟩ (fun i' H' _ hP => hP.1.seq (.inl (.inl hg)))
        (fun i' x' H5' H5 hi' hP hY => ?_) (fun H5 hP => ?_)
      · obtain ⟨rfl, hx'⟩ := hY
        obtain ⟨hil, dn⟩ := (DtAll.same hP.1 _ dg).notes_get hx'
        obtain ⟨na, rfl, qn⟩ := note_inv dn
        refine ⟨na, _, rfl, qn, rfl, _, _, rfl, _, _, rfl, rfl, rfl, _, rfl, _, rfl, rfl, _, rfl, ?_⟩
        have tk := take_succ hil
        by_cases hz : G[i'].1 = z
        · rw [show decide (V.str G[i'].1 = V.str z) = true from decide_eq_true (by rw [hz])]
          refine iteT ⟨_, rfl, _, hP.2, ?_, fun c o ec => ?_, ?_⟩
          · rw [List.length_map]
            have := List.length_filter_le (fun n : Str × Int => decide (n.1 = z)) (G.take i')
            rw [List.length_take] at this
            exact small1000 (by omega)
          · rw [upd_ne (ne_of_none ec nD)]
            exact hP.1 c o ec
          · rw [upd_same, tk, List.filter_append, List.map_append]
            simp [hz]
        · rw [show decide (V.str G[i'].1 = V.str z) = false from decide_eq_false (fun c => hz (V.str.inj c))]
          refine iteF ⟨hP.1, ?_⟩
          rw [hP.2, tk, List.filter_append]
          simp [hz]
      · refine ⟨D', (G.filter fun n => decide (n.1 = z)).map (·.2), rfl, .inl (.inl ?_), _, _, rfl, rfl, ?_⟩
        · rw [hP.2, lg, List.take_length, List.map_map]
          rfl
        refine ⟨some (.str zs[i]), y4, y5, ?_, s2.trans (s4.trans hP.1)⟩
        have tk : (D.notes.zip D.fallen).take (i + 1) = (D.notes.zip D.fallen).take i ++ [(D.notes[i], D.fallen[i])] := by
          rw [List.take_add_one, List.getElem?_zip_eq_some (z := (D.notes[i], D.fallen[i])) |>.mpr ⟨List.getElem?_eq_getElem hs, List.getElem?_eq_getElem hdr⟩]
          rfl
        rw [tk, List.map_append, List.sum_append]
        simp only [List.map_cons, List.map_nil, List.sum_cons, List.sum_nil, Int.add_zero]
        rw [hG, ← Int.add_assoc]
        rfl
    · obtain ⟨y3, y4, y5, rfl, s2⟩ := hP
      refine ⟨_, rfl, ?_⟩
      rw [List.take_of_length_le (by rw [List.length_zip, hM.ln, hM.lf, Nat.min_self, List.length_map]; exact Nat.le_refl _)]
      have ec : cashD D j z = gv - f' + ((D.notes.zip D.fallen).map fun p => sumTo z (goneN p.1 p.2)).sum := by
        unfold cashD sumsD
        rw [getD_of eg, getD_of ef]
      rw [← ec]
      exact q _ s2
end
end Rc

namespace Rc
open PySem PySem.Spec PyProof.Rows L2 RZ
section
variable {P : Program} {w : World} {K : PySem.W.Frag} {mg : Str → Option Value} {base : Heap}
/-! ### _law_done -/
abbrev sLDn : Stmt := topS 37
theorem scLDn : FnScope ["_law_model_here", "_law_deed"] ["_law_model_here", "_law_deed"] (defScope sLDn) := ⟨rfl, rfl, rfl, by decide +kernel, rfl, by decide +kernel, by decide +kernel⟩
def spLDn (K : PySem.W.Frag) : Sp := fun vs H Q _ => ∃ (a : MdA) (D : Md) (zs : List Str) (v : V) (d : Deed), vs = [.ref a.m, v] ∧ ModelAt K H zs a D ∧ Dt K H v (deedD d) ∧ d.Ok zs ∧ zs.length ≤ 13 ∧ RowsOk D ∧ ∀ H', ButF a H H' → ModelAt K H' zs a (doneD zs D d) → Q .non H'
theorem ok_ldn {f : Addr} {fd : FuncData} (F : Fun K "_law_done" "_law_done" sLDn f fd) : FnOk P w K mg base CX0 1 f fd ["_law_model_here", "_law_deed"] (spLDn K) := by
  refine F.ok scLDn (fun vs H Q E h => ?_) (fun cdv Ar outer s H vs Q E hr h => ?_)
  · obtain ⟨_, _, _, _, _, rfl, _⟩ := h
    rfl
  · obtain ⟨a, D, zs, v, d, rfl, hM, hd, od, lz, ro, q⟩ := h
    have hu := hu_of hr
    refine ⟨_, pss_one (ps_if (pt_cmpR op_eq (pe_ix ix_tupD (pv 1) pe_int (fun _ _ => rfl)) pe_str (nomark _))
      (pss_one (ps_dput hu (pe_dget hu (pv 0) pe_str (fun _ _ => rfl)) (pe_ix ix_tupD (pv 1) pe_int (fun _ _ => rfl))
        (pe_op op_add (pe_dget hu (pe_dget hu (pv 0) pe_str (fun _ _ => rfl)) (pe_ix ix_tupD (pv 1) pe_int (fun _ _ => rfl)) (fun _ _ => rfl)) (pe_ix ix_tupD (pv 1) pe_int (fun _ _ => rfl))) rfl))
      (pss_one (ps_expr (pe_bm PySem.F.plainAttrs_list PySem.F.slot_list_append PySem.F.type_list_append mt_append (pe_dget hu (pe_dget hu (pv 0) pe_str (fun _ _ => rfl)) (pe_ix ix_tupD (pv 1) pe_int (fun _ _ => rfl)) (fun _ _ => rfl))
        (pa_cons (pe_tup (pa_cons (pe_ix ix_tupD (pv 1) pe_int (fun _ _ => rfl)) (pa_cons (pe_ix ix_tupD (pv 1) pe_int (fun _ _ => rfl)) pa_nil))) pa_nil))))), ?_⟩
    cases d with
    | give z n =>
      have ej := idx_get od.1
      obtain ⟨gv, f', l', r, xs, eg, ef, el, er, hr0, hd0⟩ := hM.at_ ej
      refine ⟨v, rfl, _, 0, .str "give", hd, rfl, rfl, fun v0 d0 => ?_⟩
      cases d0
      refine ⟨rfl, _, rfl, ?_⟩
      rw [decide_eq_true rfl]
      refine iteT ⟨.ref a.m, rfl, a.m, .ref a.dg, rfl, hM.g1, v, rfl, _, 1, .str z, hd, rfl, rfl, fun v1 d1 => ?_⟩
      cases d1
      refine ⟨a.dg, .int gv, rfl, hM.gg ej eg, v, rfl, _, 2, .int n, hd, rfl, rfl, fun v2 d2 => ?_⟩
      cases d2
      refine ⟨_, _, rfl, rfl, .ref a.m, rfl, a.m, .ref a.dg, rfl, hM.g1, v, rfl, _, 1, .str z, hd, rfl, rfl, fun v3 d3 => ?_⟩
      cases d3
      have hj : zs.idxOf z < D.given.length := by
        rw [hM.lg]
        exact List.idxOf_lt_length_of_mem od.1
      refine ⟨a.dg, _, rfl, DPut.k (k := Sum.inr z) hM.hg (by rw [dct_len (by rw [List.length_map, hM.lg])]; exact small1000 (by omega)), ?_⟩
      rw [dct_put hM.zn ej (by rw [List.length_map]; exact hj), map_set V.int]
      have bf' : ButF a H (upd H a.dg (.dK (dct zs ((D.given.set (zs.idxOf z) (gv + n)).map V.int)))) := fun b o nf e => by
        rw [upd_ne (fun z => nf (.inl z))]
        exact e
      have rne : ∀ r ∈ a.rs, r ≠ a.dg := fun r hr z => by
        obtain ⟨i, hi, e'⟩ := List.getElem_of_mem hr
        have hn : i < D.notes.length := by
          rw [hM.ln, ← hM.lr]
          exact hi
        obtain ⟨xs, e1, _⟩ := hM.rows i r _ (by rw [List.getElem?_eq_getElem hi, e']) (List.getElem?_eq_getElem hn)
        rw [z, hM.hg] at e1
        cases e1
      have lone : a.lo ≠ a.dg := fun z => by
        have := hM.ho
        rw [z, hM.hg] at this
        cases this
      refine q _ bf' ⟨?_, ?_, ?_, ?_, ?_, fun i r l e1 e2 => ?_, hM.nd, hM.olo, hM.ogf, hM.ogn, hM.ogm, hM.omn, hM.zn, ?_, hM.lf, hM.ln, hM.lr⟩
      · rw [upd_ne hM.ogm.symm]
        exact hM.hm
      · rw [upd_ne lone]
        exact hM.ho
      · rw [upd_same]
        show _ = some (HO.dK (dct zs ((D.given.set (zs.idxOf z) (D.given.getD (zs.idxOf z) 0 + n)).map V.int)))
        rw [getD_of eg]
      · rw [upd_ne hM.ogf.symm]
        exact hM.hf
      · rw [upd_ne hM.ogn.symm]
        exact hM.hn
      · obtain ⟨xs, e3, d3⟩ := hM.rows i r l e1 e2
        refine ⟨xs, ?_, DtAll.keepT (bf'.kt hM) _ (tup_notes l) d3⟩
        rw [upd_ne (rne r (List.mem_of_getElem? e1))]
        exact e3
      · show (D.given.set _ _).length = _
        rw [List.length_set]
        exact hM.lg
    | put z y n =>
      have ej := idx_get od.1
      obtain ⟨gv, f', l', r, xs, eg, ef, el, er, hr0, hd0⟩ := hM.at_ ej
      refine ⟨v, rfl, _, 0, .str "put", hd, rfl, rfl, fun v0 d0 => ?_⟩
      cases d0
      refine ⟨rfl, _, rfl, ?_⟩
      rw [decide_eq_false give_ne_put]
      refine iteF ⟨.ref a.m, rfl, a.m, .ref a.dn, rfl, hM.g3, v, rfl, _, 1, .str z, hd, rfl, rfl, fun v1 d1 => ?_⟩
      cases d1
      refine ⟨a.dn, .ref r, rfl, hM.gn ej er, .inl ⟨rfl, _, .inl (.inl hr0)⟩, v, rfl, _, 2, .str y, hd, rfl, rfl, fun v2 d2 => ?_⟩
      cases d2
      refine ⟨v, rfl, _, 3, .int n, hd, rfl, rfl, fun v3 d3 => ?_⟩
      cases d3
      refine ⟨by show 2 ≤ sizeLine; decide, fun t nt => ?_⟩
      have tr : t ≠ r := (ne_of_none hr0 nt).symm
      have lx : xs.length ≤ 60 := by
        rw [hd0.len]
        unfold notesD
        rw [List.length_map]
        exact ro _ (List.mem_of_getElem? el)
      refine ⟨r, xs, _, rfl, rfl, by rw [upd_ne tr.symm]; exact hr0, small1000 (by omega), ?_⟩
      have rm : r ∈ a.rs := List.mem_of_getElem? er
      have bf' : ButF a H (upd (upd H t (.tup [V.str y, V.int n])) r (.lst (xs ++ [V.ref t]))) := fun b o nf e => by
        have nb : b ≠ r := fun z => nf (.inr (by rw [z]; exact rm))
        rw [upd_ne nb, upd_ne (ne_of_none e nt)]
        exact e
      have keepD : ∀ {b : Addr} {o : HO}, b ≠ r → H b = some o → upd (upd H t (.tup [V.str y, V.int n])) r (.lst (xs ++ [V.ref t])) b = some o := fun {b o} n e => by
        rw [upd_ne n, upd_ne (ne_of_none e nt)]
        exact e
      have dne : ∀ {b : Addr} {kvs : List (Key × V)}, H b = some (.dK kvs) → b ≠ r := fun {b kvs} e z => by
        rw [z, hr0] at e
        cases e
      refine q _ bf' ⟨keepD (dne hM.hm) hM.hm, keepD (fun z => hM.olo (by rw [z]; exact rm)) hM.ho, keepD (dne hM.hg) hM.hg, keepD (dne hM.hf) hM.hf, keepD (dne hM.hn) hM.hn, fun i r' l e1 e2 => ?_, hM.nd, hM.olo, hM.ogf, hM.ogn, hM.ogm, hM.omn, hM.zn, hM.lg, hM.lf, ?_, hM.lr⟩
      · have hkt := bf'.kt hM
        by_cases hi : i = zs.idxOf z
        · have er' : r' = r := by
            rw [hi, er] at e1
            exact (Option.some.inj e1).symm
          subst er'
          have e2' : (D.notes.set (zs.idxOf z) (D.notes.getD (zs.idxOf z) [] ++ [(y, n)]))[i]? = some l := e2
          rw [hi, List.getElem?_set_self (by rw [hM.ln]; exact List.idxOf_lt_length_of_mem od.1), getD_of el] at e2'
          cases e2'
          refine ⟨_, upd_same, ?_⟩
          unfold notesD
          rw [List.map_append]
          refine (DtAll.keepT hkt _ (tup_notes l') hd0).append (.cons (.tup (.inl (.inl ?_)) (.cons (.str _) (.cons (.int _) .nil))) .nil)
          rw [upd_ne tr, upd_same]
        · have e2' : (D.notes.set (zs.idxOf z) (D.notes.getD (zs.idxOf z) [] ++ [(y, n)]))[i]? = some l := e2
          rw [List.getElem?_set_ne (fun c => hi c.symm)] at e2'
          obtain ⟨xs', e3, d3⟩ := hM.rows i r' l e1 e2'
          have nr' : r' ≠ r := fun c => by
            obtain ⟨h1, k1⟩ := List.getElem?_eq_some_iff.mp e1
            obtain ⟨h2, k2⟩ := List.getElem?_eq_some_iff.mp er
            exact hi ((List.getElem_inj hM.nd).mp (k1.trans (c.trans k2.symm)))
          exact ⟨xs', keepD nr' e3, DtAll.keepT hkt _ (tup_notes l) d3⟩
      · show (D.notes.set _ _).length = _
        rw [List.length_set]
        exact hM.ln
end
end Rc

namespace Rc
open PySem PySem.Spec PyProof.Rows L2 RZ
section
variable {P : Program} {w : World} {K : PySem.W.Frag} {mg : Str → Option Value} {base : Heap}
/-! ### _law_booked -/
abbrev sLBk : Stmt := topS 38
theorem scLBk : FnScope ["_law_book", "_law_deeds_here", "_law_deed"] ["_law_book", "_law_deeds_here"] (defScope sLBk) := ⟨rfl, rfl, rfl, by decide +kernel, rfl, by decide +kernel, by decide +kernel⟩
def spLBk (K : PySem.W.Frag) (C : Addr) : Sp := fun vs H Q _ => ∃ (b : Addr) (M : Bk) (dl : Addr) (xs : List V) (ds : List Deed), vs = [.ref b, .ref dl] ∧ BookAt K C H b M ∧ M.Ok ∧ H dl = some (.lst xs) ∧ DtAll K H xs (deedsD ds) ∧ (∀ d ∈ ds, d.Ok M.names) ∧ manyM M + ds.length ≤ 60 ∧
  ∀ b' H', Same H H' → BookAt K C H' b' (ds.foldl stepM M) → Q (.ref b') H'
theorem ok_lbk {f f1 f2 C : Addr} {fd fd1 fd2 : FuncData} (F : Fun K "_law_booked" "_law_booked" sLBk f fd) (T : ClsF K C) (GV : HasM P w K mg base C 6 "give" ["self", "who", "amount"] (spGive K C) f1 fd1) (PU : HasM P w K mg base C 6 "put" ["self", "who", "to", "amount"] (spPut K C) f2 fd2) :
    FnOk P w K mg base CX0 7 f fd ["_law_book", "_law_deeds_here"] (spLBk K C) := by
  refine F.ok scLBk (fun vs H Q E h => ?_) (fun cdv Ar outer s H vs Q E hr h => ?_)
  · obtain ⟨_, _, _, _, _, rfl, _⟩ := h
    rfl
  · obtain ⟨b, M, dl, xs, ds, rfl, hb, ok, hl, hd, od, hm, q⟩ := h
    refine ⟨_, pss_cons (ps_for PassesOwn.never rfl (pi_list (pv 1)) (pg_name (i := 2) scLBk.nd rfl (.inl rfl))
      (pss_one (ps_set (i := 0) scLBk.nd rfl (.inl rfl) (pe_ifExp (pt_cmpR op_eq (pe_ix ix_tupD (pv 2) pe_int (fun _ _ => rfl)) pe_str (nomark _))
        (pe_meth (pv 0) T.cl GV.m GV.ok hr GV.b .nil pass0 (pa_cons (pe_ix ix_tupD (pv 2) pe_int (fun _ _ => rfl)) (pa_cons (pe_ix ix_tupD (pv 2) pe_int (fun _ _ => rfl)) pa_nil)))
        (pe_meth (pv 0) T.cl PU.m PU.ok hr PU.b .nil pass0 (pa_cons (pe_ix ix_tupD (pv 2) pe_int (fun _ _ => rfl)) (pa_cons (pe_ix ix_tupD (pv 2) pe_int (fun _ _ => rfl)) (pa_cons (pe_ix ix_tupD (pv 2) pe_int (fun _ _ => rfl)) pa_nil))))))))
      (pss_one (ps_ret (pv 0))), ?_⟩
    have lx : xs.length = ds.length := by
      rw [hd.len]
      unfold deedsD
      rw [List.length_map]
    refine ⟨.ref dl, rfl, dl, rfl, ⟨_, .inl (.inl hl)⟩, ?_⟩
    refine for_it (walk_list (K := K) (a := dl) (xs := xs)) (fun i σ H' => ∃ b' y2, σ = [some (.ref b'), some (.ref dl), y2] ∧ Same H H' ∧ BookAt K C H' b' ((ds.take i).foldl stepM M)) ⟨b, _, rfl, Same.refl _, hb⟩ (fun i σ H' _ hP => ?_) (fun i x σ H1' H1 hi hP hY => ?_) (fun σ H' hP => ?_)
    · obtain ⟨_, _, _, s1, _⟩ := hP
      exact .inl (.inl (s1 _ _ hl))
    · obtain ⟨rfl, hx⟩ := hY
      obtain ⟨b', y2, rfl, s1, hb1⟩ := hP
      have hid : i < ds.length := by omega
      obtain ⟨ok1, mm1, nm1⟩ := dfold_ok (ds.take i) ok (fun d hd => od d (List.mem_of_mem_take hd)) (by rw [List.length_take]; omega)
      have oki : ds[i].Ok ((ds.take i).foldl stepM M).names := by
        rw [nm1]
        exact od _ (List.getElem_mem hid)
      obtain ⟨v', g1, d1⟩ := (DtAll.same s1 _ hd).get (n := i) (d := deedD ds[i]) (map_get (List.getElem?_eq_getElem hid))
      rw [hx] at g1
      cases g1
      have tk := take_succ hid
      have ef : (ds.take (i + 1)).foldl stepM M = stepM ((ds.take i).foldl stepM M) ds[i] := by
        rw [tk, List.foldl_append]
        rfl
      rw [List.length_take] at mm1
      obtain ⟨dx, tn, on, wg, ws, wd, e, h1, hn, h2, h3, h4⟩ := hb1.ex
      cases hdd : ds[i] with
      | give z n =>
        rw [hdd] at d1 oki ef
        refine ⟨x, rfl, _, 0, .str "give", d1, rfl, rfl, fun v0 d0 => ?_⟩
        cases d0
        refine ⟨rfl, _, rfl, ?_⟩
        rw [decide_eq_true rfl]
        refine iteT ⟨.ref b', rfl, b', dx, _, rfl, e, bf_no (NoF.mk' (by decide +kernel)), x, rfl, _, 1, .str z, d1, rfl, rfl, fun v1 d1' => ?_⟩
        cases d1'
        refine ⟨x, rfl, _, 2, .int n, d1, rfl, rfl, fun v2 d2 => ?_⟩
        cases d2
        refine ⟨b', _, z, _, n, rfl, hb1, ok1, idx_get oki.1, oki.2.1, fun b2 H2 s2 nb hb2 => ?_⟩
        refine ⟨b2, _, rfl, s1.trans s2, ?_⟩
        rw [ef]
        exact hb2
      | put z y n =>
        rw [hdd] at d1 oki ef
        refine ⟨x, rfl, _, 0, .str "put", d1, rfl, rfl, fun v0 d0 => ?_⟩
        cases d0
        refine ⟨rfl, _, rfl, ?_⟩
        rw [decide_eq_false give_ne_put]
        refine iteF ⟨.ref b', rfl, b', dx, _, rfl, e, bf_no (NoF.mk' (by decide +kernel)), x, rfl, _, 1, .str z, d1, rfl, rfl, fun v1 d1' => ?_⟩
        cases d1'
        refine ⟨x, rfl, _, 2, .str y, d1, rfl, rfl, fun v2 d2 => ?_⟩
        cases d2
        refine ⟨x, rfl, _, 3, .int n, d1, rfl, rfl, fun v3 d3 => ?_⟩
        cases d3
        refine ⟨b', _, z, y, _, _, n, rfl, hb1, ok1, idx_get oki.1, idx_get oki.2.1, oki.2.2.1, by omega, fun b2 H2 s2 nb hb2 => ?_⟩
        refine ⟨b2, _, rfl, s1.trans s2, ?_⟩
        rw [ef]
        exact hb2
    · obtain ⟨b', y2, rfl, s1, hb1⟩ := hP
      rw [lx, List.take_length] at hb1
      exact ⟨.ref b', rfl, q b' H' s1 hb1⟩
end
end Rc

namespace Rc
open PySem PySem.Spec PyProof.Rows L2 RZ
/-! ### the most that can be paid, cleared -/
def mostP (M : Bk) (j : Nat) (z : Str) : Int := match (duesM M).getD j none with
  | none => 0
  | some n => if cashM M j z < n.2 then cashM M j z else n.2
def amtAt (zs : List Str) (os : List (Option (Str × Int))) (y : Str) : Int := match os.getD (zs.idxOf y) none with
  | none => 0
  | some n => n.2
def leastI : List Int → Int
  | [] => 0
  | x :: r => r.foldl (fun a b => if b < a then b else a) x
theorem least_fold : ∀ (r : List Int) (x : Int), (r.foldl (fun a b => if b < a then b else a) x = x ∨ r.foldl (fun a b => if b < a then b else a) x ∈ r) ∧ r.foldl (fun a b => if b < a then b else a) x ≤ x ∧ ∀ y ∈ r, r.foldl (fun a b => if b < a then b else a) x ≤ y
  | [], x => ⟨.inl rfl, Int.le_refl _, fun y hy => by cases hy⟩
  | b :: r, x => by
    obtain ⟨h1, h2, h3⟩ := least_fold r (if b < x then b else x)
    rw [List.foldl_cons]
    refine ⟨?_, ?_, fun y hy => ?_⟩
    · rcases h1 with h1 | h1
      · rw [h1]
        by_cases c : b < x
        · rw [if_pos c]
          exact .inr List.mem_cons_self
        · rw [if_neg c]
          exact .inl rfl
      · exact .inr (List.mem_cons_of_mem _ h1)
    · refine Int.le_trans h2 ?_
      split <;> omega
    · rcases List.mem_cons.mp hy with hy | hy
      · subst hy
        refine Int.le_trans h2 ?_
        split <;> omega
      · exact h3 y hy
theorem least_mem {ns : List Int} (h : ns ≠ []) : leastI ns ∈ ns ∧ ∀ y ∈ ns, leastI ns ≤ y := by
  cases ns with
  | nil => exact absurd rfl h
  | cons x r =>
    obtain ⟨h1, h2, h3⟩ := least_fold r x
    refine ⟨?_, fun y hy => ?_⟩
    · rcases h1 with h1 | h1
      · exact List.mem_cons.mpr (.inl h1)
      · exact List.mem_cons_of_mem _ h1
    · rcases List.mem_cons.mp hy with hy | hy
      · subst hy
        exact h2
      · exact h3 y hy
theorem least_uniq {ns : List Int} {m : Int} (h1 : m ∈ ns) (h2 : ∀ y ∈ ns, m ≤ y) : m = leastI ns := by
  obtain ⟨a, b⟩ := least_mem (ns := ns) (fun e => by rw [e] at h1; cases h1)
  have := h2 _ a
  have := b _ h1
  omega
def mostC (zs : List Str) (os : List (Option (Str × Int))) (z : Str) : Int := match ringM zs (nxOf zs os) z with
  | none => 0
  | some r => leastI (r.map (amtAt zs os))
theorem mostC_none {zs : List Str} {os : List (Option (Str × Int))} {z : Str} (h : ringM zs (nxOf zs os) z = none) : mostC zs os z = 0 := by
  unfold mostC
  rw [h]
theorem mostC_some {zs : List Str} {os : List (Option (Str × Int))} {z : Str} {r : List Str} (h : ringM zs (nxOf zs os) z = some r) : mostC zs os z = leastI (r.map (amtAt zs os)) := by
  unfold mostC
  rw [h]
theorem mostP_none {M : Bk} {j : Nat} {z : Str} (h : (duesM M).getD j none = none) : mostP M j z = 0 := by
  unfold mostP
  rw [h]
theorem mostP_some {M : Bk} {j : Nat} {z : Str} {n : Str × Int} (h : (duesM M).getD j none = some n) : mostP M j z = if cashM M j z < n.2 then cashM M j z else n.2 := by
  unfold mostP
  rw [h]
end Rc

namespace Rc
open PySem PySem.Spec PyProof.Rows L2 RZ
/-! ### bounds, for what is shown -/
structure Gb (D : Md) : Prop where
  gv : ∀ g ∈ D.given, 0 ≤ g ∧ g ≤ 100 * 10 ^ 58
  fw : ∀ (j : Nat) (l : List (Str × Int)) (f : Int), D.notes[j]? = some l → D.fallen[j]? = some f → f ≤ wholeN l
theorem wholeN_le {zs : List Str} : ∀ {l : List (Str × Int)}, (∀ n ∈ l, NoteOk zs n) → wholeN l ≤ (l.length : Int) * 10 ^ 58
  | [], _ => by simp [wholeN]
  | n :: r, h => by
    have ih := wholeN_le fun m hm => h m (List.mem_cons_of_mem _ hm)
    have h1 : n.2 ≤ 10 ^ 58 := (h n List.mem_cons_self).2.2
    rw [wholeN_cons, List.length_cons]
    have e : ((r.length + 1 : Nat) : Int) * 10 ^ 58 = (r.length : Int) * 10 ^ 58 + 10 ^ 58 := by
      rw [Int.natCast_add, Int.add_mul]
      rfl
    rw [e]
    omega
theorem sumTo_le (z : Str) : ∀ {l : List (Str × Int)} {f : Int}, (∀ n ∈ l, 1 ≤ n.2) → 0 ≤ f → 0 ≤ sumTo z (goneN l f) ∧ sumTo z (goneN l f) ≤ wholeN l
  | [], f, _, _ => ⟨Int.le_refl _, Int.le_refl _⟩
  | (t, a) :: r, f, h, f0 => by
    have h1 : 1 ≤ a := h _ List.mem_cons_self
    have hp : 0 ≤ partOf a f ∧ partOf a f ≤ f ∧ partOf a f ≤ a := by
      unfold partOf
      split <;> omega
    obtain ⟨i1, i2⟩ := sumTo_le z (l := r) (f := f - partOf a f) (fun m hm => h m (List.mem_cons_of_mem _ hm)) (by omega)
    rw [goneN_cons, sumTo_app, sumTo_one z t _ hp.1, wholeN_cons]
    have : 0 ≤ (if t = z then partOf a f else 0) ∧ (if t = z then partOf a f else 0) ≤ a := by
      split <;> omega
    exact ⟨by omega, by show _ ≤ a + wholeN r; omega⟩
theorem sums_le (z : Str) : ∀ {L : List (List (Str × Int) × Int)}, (∀ p ∈ L, (∀ n ∈ p.1, 1 ≤ n.2) ∧ 0 ≤ p.2) → 0 ≤ (L.map fun p => sumTo z (goneN p.1 p.2)).sum ∧ (L.map fun p => sumTo z (goneN p.1 p.2)).sum ≤ (L.map fun p => wholeN p.1).sum
  | [], _ => ⟨Int.le_refl _, Int.le_refl _⟩
  | p :: r, h => by
    obtain ⟨h1, h2⟩ := h p List.mem_cons_self
    obtain ⟨a, b⟩ := sumTo_le z h1 h2
    obtain ⟨i1, i2⟩ := sums_le z (L := r) fun q hq => h q (List.mem_cons_of_mem _ hq)
    simp only [List.map_cons, List.sum_cons]
    omega
theorem wholes_le {zs : List Str} : ∀ {L : List (List (Str × Int) × Int)}, (∀ p ∈ L, ∀ n ∈ p.1, NoteOk zs n) → (L.map fun p => wholeN p.1).sum ≤ (((L.map fun p => p.1.length).sum : Nat) : Int) * 10 ^ 58
  | [], _ => by simp
  | p :: r, h => by
    have h1 := wholeN_le (h p List.mem_cons_self)
    have ih := wholes_le (L := r) fun q hq => h q (List.mem_cons_of_mem _ hq)
    simp only [List.map_cons, List.sum_cons]
    rw [Int.natCast_add, Int.add_mul]
    omega
theorem Gs.fallTo {zs : List Str} {D : Md} (g : Gs zs D) (z : Str) : fallTo (bkOf zs D) z ≤ 60 * 10 ^ 58 := by
  have h1 := (sums_le z (L := D.notes.zip D.fallen) fun p hp => by
    obtain ⟨a, b⟩ := List.of_mem_zip hp
    exact ⟨fun n hn => (g.nt _ a n hn).2.1, g.fl _ b⟩).2
  have h2 := wholes_le (zs := zs) (L := D.notes.zip D.fallen) fun p hp => g.nt _ (List.of_mem_zip hp).1
  have h3 : ((D.notes.zip D.fallen).map fun p => p.1.length) = D.notes.map List.length := by
    rw [show (fun p : List (Str × Int) × Int => p.1.length) = List.length ∘ Prod.fst from rfl, ← List.map_map, List.map_fst_zip (by rw [g.ln, g.lf]; exact Nat.le_refl _)]
  rw [h3] at h2
  have h4 := g.my
  have h5 : ((D.notes.map List.length).sum : Int) * 10 ^ 58 ≤ 60 * 10 ^ 58 := Int.mul_le_mul_of_nonneg_right (by omega) (by decide)
  show ((D.notes.zip D.fallen).map fun p => sumTo z (goneN p.1 p.2)).sum ≤ _
  omega
theorem big_of {i : Int} (h0 : 0 ≤ i) (h1 : i ≤ 1000 * 10 ^ 58) : BigOk i := by
  have e : (1000 : Int) * 10 ^ 58 < 2 ^ 300 := by decide
  have e2 : ((2 ^ 300 : Nat) : Int) = 2 ^ 300 := by decide
  unfold BigOk
  omega
theorem Gb.bigs {zs : List Str} {D : Md} (b : Gb D) (g : Gs zs D) {j : Nat} {z : Str} {gv f : Int} {l : List (Str × Int)} (ej : zs[j]? = some z) (eg : D.given[j]? = some gv) (ef : D.fallen[j]? = some f) (el : D.notes[j]? = some l) :
    BigOk gv ∧ BigOk f ∧ BigOk (cashM (bkOf zs D) j z) := by
  obtain ⟨g0, g1⟩ := b.gv gv (List.mem_of_getElem? eg)
  have f0 := g.fl f (List.mem_of_getElem? ef)
  have f1 := b.fw j l f el ef
  have w1 := wholeN_le (g.nt l (List.mem_of_getElem? el))
  have ll := g.rows l (List.mem_of_getElem? el)
  have w2 : (l.length : Int) * 10 ^ 58 ≤ 60 * 10 ^ 58 := Int.mul_le_mul_of_nonneg_right (by omega) (by decide)
  have c0 := g.cs j z ej
  have c1 := g.fallTo z
  have ec : cashM (bkOf zs D) j z = gv + fallTo (bkOf zs D) z - f := by
    unfold cashM
    show D.given.getD j 0 + _ - D.fallen.getD j 0 = _
    rw [getD_of eg, getD_of ef]
  refine ⟨big_of g0 (by omega), big_of f0 (by omega), big_of c0 (by rw [ec]; omega)⟩
theorem Gd.gb {zs : List Str} {D : Md} {k : Nat} (h : Gd zs D k) : Gb D := by
  refine ⟨fun g hg => ?_, fun j l f el ef => ?_⟩
  · obtain ⟨a, b⟩ := h.gv g hg
    have k1 := h.k1
    have : (k : Int) * 10 ^ 58 ≤ 60 * 10 ^ 58 := Int.mul_le_mul_of_nonneg_right (by omega) (by decide)
    exact ⟨a, by omega⟩
  · have hf := List.mem_of_getElem? ef
    rw [h.zf] at hf
    rw [List.eq_of_mem_replicate hf]
    exact wholeN_nonneg fun n hn => (h.nt l (List.mem_of_getElem? el) n hn).2.1
theorem Gb.fell {D : Md} {j : Nat} {l : List (Str × Int)} {x : Int} (b : Gb D) (el : D.notes[j]? = some l) (hx : x ≤ wholeN l) : Gb (fellD D j x) := by
  refine ⟨b.gv, fun i l' f' el' ef' => ?_⟩
  have ef2 : (D.fallen.set j x)[i]? = some f' := ef'
  by_cases h : i = j
  · subst h
    have e : l' = l := Option.some.inj (Eq.trans (Eq.symm (show D.notes[i]? = some l' from el')) el)
    obtain ⟨hl, e2⟩ := List.getElem?_eq_some_iff.mp ef2
    rw [List.getElem_set_self] at e2
    rw [e, ← e2]
    exact hx
  · rw [List.getElem?_set_ne (fun c => h c.symm)] at ef2
    exact b.fw i l' f' el' ef2
theorem Gs.key {zs : List Str} {D : Md} (g : Gs zs D) : KeyOk (bkOf zs D) := by
  have ln : ∀ n : Str × Int, (noteD n).depth = 1 := fun n => by simp [noteD, PyData.depth, PyData.depthAll]
  have ls : ∀ l, (stackD l).depth ≤ 2 := fun l => by
    unfold stackD notesD
    simp only [PyData.depth]
    have := dep_map (f := noteD) (n := 1) (l := l) fun n _ => Nat.le_of_eq (ln n)
    omega
  have c1 : PyData.canLayAll0 (zs.map .str) = true := (nice_names g.nz.nm).cl
  have c2 : ∀ l : List Int, PyData.canLayAll0 (l.map .int) = true := fun l => lay_map fun x _ => by simp only [PyData.canLay0]
  have c3 : PyData.canLayAll0 (D.notes.map stackD) = true := lay_map fun l hl => by
    unfold stackD
    simp only [PyData.canLay0]
    exact (nice_notes g.nz.nm (g.nt l hl)).cl
  unfold KeyOk SeqAt.shaped
  have ec : (keyD (bkOf zs D)).canLay0 = true := by
    show (PyData.tuple [.tuple (zs.map .str), .tuple (D.given.map .int), .tuple (D.notes.map stackD), .tuple (D.fallen.map .int)]).canLay0 = true
    simp only [PyData.canLay0, PyData.canLayAll0, c1, c2, c3, Bool.and_self]
  have ed : (keyD (bkOf zs D)).depth ≤ 64 := by
    show (PyData.tuple [.tuple (zs.map .str), .tuple (D.given.map .int), .tuple (D.notes.map stackD), .tuple (D.fallen.map .int)]).depth ≤ 64
    simp only [PyData.depth, PyData.depthAll]
    have d1 := dep_map (f := PyData.str) (n := 0) (l := zs) fun _ _ => by simp only [PyData.depth]; omega
    have d2 := dep_map (f := PyData.int) (n := 0) (l := D.given) fun _ _ => by simp only [PyData.depth]; omega
    have d3 := dep_map (f := stackD) (n := 2) (l := D.notes) fun l _ => ls l
    have d4 := dep_map (f := PyData.int) (n := 0) (l := D.fallen) fun _ _ => by simp only [PyData.depth]; omega
    omega
  rw [ec, decide_eq_true ed]
  rfl
theorem key_eqv {M : Bk} (h : KeyOk M) : PyData.eqv (keyD M) (keyD M) = true := SeqAt.eqv_refl _ (SeqAt.canLay_of_shaped h)
theorem fold_eq (zs : List Str) : ∀ (ds : List Deed) (D : Md), ds.foldl stepM (bkOf zs D) = bkOf zs (ds.foldl (doneD zs) D)
  | [], _ => rfl
  | d :: r, D => by
    rw [List.foldl_cons, List.foldl_cons, step_eq, fold_eq zs r]
/-! ### rings hang together -/
def Chain (nx : Str → Option Str) (T : List Str) : Prop := ∀ (i : Nat) (x y : Str), T[i]? = some x → T[i + 1]? = some y → nx x = some y
theorem chain_snoc {nx : Str → Option Str} {ini : List Str} {l y : Str} (c : Chain nx (ini ++ [l])) (h : nx l = some y) : Chain nx (ini ++ [l] ++ [y]) := fun i a b h1 h2 => by
  have lb : i + 1 < (ini ++ [l] ++ [y]).length := (List.getElem?_eq_some_iff.mp h2).1
  rw [List.length_append] at lb
  have l1 : [y].length = 1 := rfl
  rw [List.getElem?_append_left (by omega)] at h1
  by_cases hi : i + 1 < (ini ++ [l]).length
  · rw [List.getElem?_append_left hi] at h2
    exact c i a b h1 h2
  · have ei : i = ini.length := by
      rw [List.length_append] at hi lb
      have l2 : [l].length = 1 := rfl
      omega
    subst ei
    rw [List.getElem?_append_right (by rw [List.length_append]; exact Nat.le_refl _)] at h2
    rw [List.getElem?_append_right (Nat.le_refl _)] at h1
    simp at h1 h2
    rw [← h1, ← h2]
    exact h
theorem trail_chain {nx : Str → Option Str} : ∀ (k : Nat) (ini : List Str) (l : Str) (d : Option Str), Chain nx (ini ++ [l]) → d = nx l → Chain nx (trailF nx k (ini ++ [l]) d)
  | 0, _, _, _, c, _ => c
  | k + 1, ini, l, none, c, _ => c
  | k + 1, ini, l, some y, c, e => by
    simp only [trailF]
    split
    · exact c
    · exact trail_chain k (ini ++ [l]) y (nx y) (chain_snoc c e.symm) rfl
theorem trailM_chain (zs : List Str) (nx : Str → Option Str) (z : Str) : Chain nx (trailM zs nx z) :=
  trail_chain zs.length [] z (nx z) (fun i x y _ h => by simp at h) rfl
/-- each person of a ring has a due note -/
theorem ring_due {zs : List Str} {nx : Str → Option Str} {z : Str} {r : List Str} (ld : Leads zs nx) (hz : z ∈ zs) (h : ringM zs nx z = some r) : ∀ y ∈ r, y ∈ zs ∧ ∃ x, nx y = some x := fun y hy => by
  have en := trail_ended ld hz
  have ch := trailM_chain zs nx z
  unfold ringM at h
  split at h
  · rename_i hl
    have e := Option.some.inj h
    subst e
    have hyT : y ∈ trailM zs nx z := by
      rcases List.mem_append.mp hy with hy | hy
      · exact List.mem_of_mem_drop hy
      · exact List.mem_of_mem_take hy
    refine ⟨en.sub y hyT, ?_⟩
    obtain ⟨i, hi, e⟩ := List.getElem_of_mem hyT
    by_cases hl' : i + 1 < (trailM zs nx z).length
    · exact ⟨_, ch i y _ (by rw [List.getElem?_eq_getElem hi, e]) (List.getElem?_eq_getElem hl')⟩
    · obtain ⟨ini, l, eT, _⟩ := en.last
      have el : y = l := by
        have h1 : (trailM zs nx z)[i]? = some y := by rw [List.getElem?_eq_getElem hi, e]
        rw [eT] at h1 hi hl'
        rw [List.length_append] at hi hl'
        have l1 : [l].length = 1 := rfl
        rw [List.getElem?_append_right (by omega)] at h1
        have : i - ini.length = 0 := by omega
        rw [this] at h1
        simpa using h1.symm
      rw [lastM_eq eT] at hl
      exact ⟨z, el ▸ hl⟩
  · cases h
end Rc

namespace Rc
open PySem PySem.Spec PyProof.Rows L2 RZ
def mostW (zs : List Str) (D : Md) (wd z : Str) : Int := if wd = "pay" then mostP (bkOf zs D) (zs.idxOf z) z else mostC zs (duesM (bkOf zs D)) z
theorem pay_ne_clear : ¬ (V.str ("clear" : Str)) = V.str ("pay" : Str) := fun e => absurd (V.str.inj e) (by decide +kernel)
theorem clear_ne : ¬ ("clear" : Str) = "pay" := by decide +kernel
def stepW (p : Str × Str) : PyData := .tuple [.str p.1, .str p.2]
theorem tup_stepW (p : Str × Str) : tupD (stepW p) = true := by simp [stepW, tupD, tupDs]
def kindsW : List Str := ["pay", "clear"]
def stepsAt (zs : List Str) (D : Md) (z : Str) : List (Str × Str) := (kindsW.filter fun k => decide (0 < mostW zs D k z)).map fun k => (k, z)
def stepsW (zs : List Str) (D : Md) : List (Str × Str) := zs.flatMap (stepsAt zs D)
def fallAll (zs : List Str) (D : Md) (r : List Str) (m : Int) : Md := r.foldl (fun D y => fellD D (zs.idxOf y) (D.fallen.getD (zs.idxOf y) 0 + m)) D
theorem steps_len (zs : List Str) (D : Md) (z : Str) : (stepsAt zs D z).length ≤ 2 := by
  unfold stepsAt
  rw [List.length_map]
  exact List.length_filter_le _ _
end Rc

namespace Rc
open PySem PySem.Spec PyProof.Rows L2 RZ
/-! ### a ring goes round -/
theorem chain_tail {nx : Str → Option Str} {x : Str} {r : List Str} (c : Chain nx (x :: r)) : Chain nx r := fun i a b h1 h2 => c (i + 1) a b (by simpa using h1) (by simpa using h2)
theorem chain_map {nx : Str → Option Str} : ∀ (r : List Str) (x : Str), Chain nx (x :: r) → (x :: r).map nx = r.map some ++ [nx (r.getLastD x)]
  | [], x, _ => rfl
  | y :: r, x, c => by
    have ih := chain_map r y (chain_tail c)
    have e : nx x = some y := c 0 x y rfl rfl
    rw [List.map_cons, ih, e, List.map_cons]
    show some y :: (r.map some ++ [nx (r.getLastD y)]) = some y :: (r.map some) ++ [nx ((y :: r).getLastD x)]
    have : (y :: r).getLastD x = r.getLastD y := by cases r <;> simp [List.getLastD]
    rw [this]
    rfl
theorem ring_perm {zs : List Str} {nx : Str → Option Str} {z : Str} {r : List Str} (ld : Leads zs nx) (hz : z ∈ zs) (h : ringM zs nx z = some r) : (r.map nx).Perm (r.map some) ∧ r.Nodup ∧ (∀ y ∈ r, y ∈ zs) ∧ r ≠ [] := by
  have en := trail_ended ld hz
  have ch := trailM_chain zs nx z
  unfold ringM at h
  split at h
  · rename_i hl
    have e := Option.some.inj h
    subst e
    generalize hi : (trailM zs nx z).idxOf (firstM zs (trailM zs nx z)) = i
    obtain ⟨tl, eT⟩ := en.first
    have eL : tl.getLastD z = lastM zs nx z := by
      unfold lastM
      rw [eT]
      cases tl with
      | nil => rfl
      | cons a b => simp
    have p1 : ((trailM zs nx z).drop i ++ (trailM zs nx z).take i).Perm (trailM zs nx z) := by
      have := List.perm_append_comm (l₁ := (trailM zs nx z).drop i) (l₂ := (trailM zs nx z).take i)
      rw [List.take_append_drop] at this
      exact this
    have p2 : ((trailM zs nx z).map nx).Perm ((trailM zs nx z).map some) := by
      rw [eT] at ch ⊢
      rw [chain_map tl z ch, eL, hl, List.map_cons]
      exact List.perm_append_comm
    refine ⟨(p1.map nx).trans (p2.trans (p1.map some).symm), p1.symm.nodup en.nd, fun y hy => en.sub y (p1.mem_iff.mp hy), fun c => ?_⟩
    have := p1.length_eq
    rw [c, eT] at this
    simp at this
  · cases h
theorem ring_count {nx : Str → Option Str} {r : List Str} (p : (r.map nx).Perm (r.map some)) (nd : r.Nodup) (y : Str) : (r.filter fun x => decide (nx x = some y)).length = if y ∈ r then 1 else 0 := by
  have h1 := p.count_eq (some y)
  have h2 : (r.map nx).count (some y) = (r.filter fun x => decide (nx x = some y)).length := by
    rw [List.count, List.countP_map, List.countP_eq_length_filter]
    refine congrArg List.length (List.filter_congr fun x _ => ?_)
    show (nx x == some y) = decide (nx x = some y)
    by_cases h : nx x = some y
    · rw [h]
      simp
    · rw [decide_eq_false h]
      exact beq_false_of_ne h
  have h3 : (r.map some).count (some y) = r.count y := by
    rw [List.count, List.countP_map, List.count]
    congr 1
  rw [← h2, h1, h3]
  exact nd.count
/-! ### falling of several -/
theorem fell_cash {zs : List Str} {D : Md} {j : Nat} {t : Str} {l r : List (Str × Int)} {f m b : Int} (hn : ∀ n ∈ l, 1 ≤ n.2) (f0 : 0 ≤ f) (el : D.notes[j]? = some l) (ef : D.fallen[j]? = some f) (e : leftN l f = (t, b) :: r) (m0 : 0 ≤ m) (mb : m ≤ b)
    (i : Nat) (y : Str) : cashM (bkOf zs (fellD D j (f + m))) i y = cashM (bkOf zs D) i y + (if t = y then m else 0) - (if i = j then m else 0) := by
  obtain ⟨_, h2⟩ := fall_one hn f0 m0 mb e
  have e1 : fallTo (bkOf zs (fellD D j (f + m))) y = fallTo (bkOf zs D) y + (if t = y then m else 0) := by
    show ((D.notes.zip (D.fallen.set j (f + m))).map fun p => sumTo y (goneN p.1 p.2)).sum = ((D.notes.zip D.fallen).map fun p => sumTo y (goneN p.1 p.2)).sum + _
    rw [sum_zip_set (α := Nat) (fun p => sumTo y (goneN p.1 p.2)) D.notes D.fallen j l f (f + m) el ef]
    show _ + (sumTo y (goneN l (f + m)) - sumTo y (goneN l f)) = _
    rw [h2 y]
    omega
  have e2 : (bkOf zs (fellD D j (f + m))).drops.getD i 0 = (bkOf zs D).drops.getD i 0 + (if i = j then m else 0) := by
    show (D.fallen.set j (f + m)).getD i 0 = D.fallen.getD i 0 + _
    by_cases h : i = j
    · subst h
      rw [if_pos rfl, getD_of ef]
      have hj : i < D.fallen.length := (List.getElem?_eq_some_iff.mp ef).1
      rw [getD_of (List.getElem?_set_self hj)]
    · rw [if_neg h, List.getD_eq_getElem?_getD, List.getElem?_set_ne (fun c => h c.symm), List.getD_eq_getElem?_getD]
      omega
  unfold cashM
  rw [e1, e2]
  show (bkOf zs D).gifts.getD i 0 + _ - _ = _
  omega
theorem fallAll_cons (zs : List Str) (D : Md) (x : Str) (r : List Str) (m : Int) : fallAll zs D (x :: r) m = fallAll zs (fellD D (zs.idxOf x) (D.fallen.getD (zs.idxOf x) 0 + m)) r m := rfl
theorem fallAll_keeps (zs : List Str) (m : Int) : ∀ (r : List Str) (D : Md), (fallAll zs D r m).given = D.given ∧ (fallAll zs D r m).notes = D.notes ∧ (fallAll zs D r m).fallen.length = D.fallen.length
  | [], _ => ⟨rfl, rfl, rfl⟩
  | x :: r, D => by
    rw [fallAll_cons]
    obtain ⟨a, b, c⟩ := fallAll_keeps zs m r (fellD D (zs.idxOf x) (D.fallen.getD (zs.idxOf x) 0 + m))
    refine ⟨a, b, c.trans ?_⟩
    show (D.fallen.set _ _).length = _
    rw [List.length_set]
theorem fallAll_at {zs : List Str} (nd : zs.Nodup) (m : Int) : ∀ (r : List Str) (D : Md), r.Nodup → (∀ y ∈ r, y ∈ zs) → D.fallen.length = zs.length → ∀ (i : Nat) (y : Str) (f : Int), zs[i]? = some y → D.fallen[i]? = some f →
    (fallAll zs D r m).fallen[i]? = some (f + if y ∈ r then m else 0)
  | [], D, _, _, _, i, y, f, _, ef => by
    show D.fallen[i]? = _
    rw [ef]
    simp
  | x :: r, D, nr, sub, lf, i, y, f, ei, ef => by
    obtain ⟨n1, n2⟩ := List.nodup_cons.mp nr
    rw [fallAll_cons]
    have hx := sub x List.mem_cons_self
    have ex := idx_get hx
    have hxl : zs.idxOf x < D.fallen.length := by
      rw [lf]
      exact List.idxOf_lt_length_of_mem hx
    have ih := fallAll_at nd m r (fellD D (zs.idxOf x) (D.fallen.getD (zs.idxOf x) 0 + m)) n2 (fun y hy => sub y (List.mem_cons_of_mem _ hy)) (by show (D.fallen.set _ _).length = _; rw [List.length_set]; exact lf) i y
    by_cases h : i = zs.idxOf x
    · subst h
      have exy : x = y := Option.some.inj (ex.symm.trans ei)
      subst exy
      have e2 : (fellD D (zs.idxOf x) (D.fallen.getD (zs.idxOf x) 0 + m)).fallen[zs.idxOf x]? = some (f + m) := by
        show (D.fallen.set _ _)[_]? = _
        rw [List.getElem?_set_self hxl, getD_of ef]
      rw [ih _ ei e2, if_neg n1, if_pos List.mem_cons_self]
      congr 1
      omega
    · have hne : ¬ y = x := fun c => h (by
        rw [← c]
        obtain ⟨hi, e⟩ := List.getElem?_eq_some_iff.mp ei
        rw [← e]
        exact (nd.idxOf_getElem i hi).symm)
      have e2 : (fellD D (zs.idxOf x) (D.fallen.getD (zs.idxOf x) 0 + m)).fallen[i]? = some f := by
        show (D.fallen.set _ _)[_]? = _
        rw [List.getElem?_set_ne (fun c => h c.symm)]
        exact ef
      rw [ih _ ei e2]
      congr 1
      have : (y ∈ x :: r) ↔ y ∈ r := by
        rw [List.mem_cons]
        exact ⟨fun c => c.resolve_left hne, .inr⟩
      simp only [this]
/-- each of some persons has a due note of at least so much -/
def DuesOf (zs : List Str) (D : Md) (nx : Str → Option Str) (m : Int) (r : List Str) : Prop := ∀ x ∈ r, ∃ l f t b rest, D.notes[zs.idxOf x]? = some l ∧ D.fallen[zs.idxOf x]? = some f ∧ (∀ n ∈ l, 1 ≤ n.2) ∧ 0 ≤ f ∧ leftN l f = (t, b) :: rest ∧ m ≤ b ∧ nx x = some t
theorem fallAll_cash {zs : List Str} (nd : zs.Nodup) {nx : Str → Option Str} {m : Int} (m0 : 0 ≤ m) : ∀ (r : List Str) (D : Md), r.Nodup → (∀ y ∈ r, y ∈ zs) → DuesOf zs D nx m r → ∀ (i : Nat) (y : Str), zs[i]? = some y →
    cashM (bkOf zs (fallAll zs D r m)) i y = cashM (bkOf zs D) i y + m * ((r.filter fun x => decide (nx x = some y)).length : Int) - (if y ∈ r then m else 0)
  | [], D, _, _, _, i, y, _ => by
    show cashM (bkOf zs D) i y = _
    simp
  | x :: r, D, nr, sub, du, i, y, ei => by
    obtain ⟨n1, n2⟩ := List.nodup_cons.mp nr
    rw [fallAll_cons]
    obtain ⟨l, f, t, b, rest, el, ef, hn, f0, eL, mb, ex⟩ := du x List.mem_cons_self
    rw [getD_of ef]
    have du2 : DuesOf zs (fellD D (zs.idxOf x) (f + m)) nx m r := fun x' hx' => by
      obtain ⟨l2, f2, t2, b2, rest2, el2, ef2, hn2, f02, eL2, mb2, ex2⟩ := du x' (List.mem_cons_of_mem _ hx')
      have hne : zs.idxOf x ≠ zs.idxOf x' := fun c => by
        have e1 := idx_get (sub x List.mem_cons_self)
        have e2 := idx_get (sub x' (List.mem_cons_of_mem _ hx'))
        rw [c, e2] at e1
        exact n1 (Option.some.inj e1 ▸ hx')
      refine ⟨l2, f2, t2, b2, rest2, el2, ?_, hn2, f02, eL2, mb2, ex2⟩
      show (D.fallen.set _ _)[_]? = _
      rw [List.getElem?_set_ne hne]
      exact ef2
    rw [fallAll_cash nd m0 r _ n2 (fun y hy => sub y (List.mem_cons_of_mem _ hy)) du2 i y ei, fell_cash hn f0 el ef eL m0 mb i y]
    have hix : (i = zs.idxOf x) ↔ y = x := by
      obtain ⟨hi, e⟩ := List.getElem?_eq_some_iff.mp ei
      refine ⟨fun c => ?_, fun c => ?_⟩
      · have := idx_get (sub x List.mem_cons_self)
        rw [← c, ei] at this
        exact Option.some.inj this
      · rw [← c, ← e]
        exact (nd.idxOf_getElem i hi).symm
    rw [List.filter_cons, ex]
    have c1 : (if t = y then m else 0) + m * ((r.filter fun x => decide (nx x = some y)).length : Int) = m * (((if decide (some t = some y) = true then x :: r.filter fun x => decide (nx x = some y) else r.filter fun x => decide (nx x = some y)).length : Nat) : Int) := by
      by_cases h : t = y
      · rw [if_pos h, if_pos (decide_eq_true (congrArg some h)), List.length_cons, Int.natCast_add, Int.mul_add]
        simp
        omega
      · rw [if_neg h, if_neg (by simp [h])]
        omega
    have c2 : (if i = zs.idxOf x then m else 0) + (if y ∈ r then m else 0) = (if y ∈ x :: r then m else 0) := by
      by_cases h : y = x
      · subst h
        rw [if_pos (hix.mpr rfl), if_neg n1, if_pos List.mem_cons_self]
        omega
      · rw [if_neg (fun c => h (hix.mp c))]
        have : (y ∈ x :: r) ↔ y ∈ r := by
          rw [List.mem_cons]
          exact ⟨fun c => c.resolve_left h, .inr⟩
        simp only [this]
        omega
    omega
theorem moreAt_all (m : Int) (y : Str) : ∀ r : List Str, moreAt (r.map fun x => (x, m)) y = if y ∈ r then m else 0
  | [] => rfl
  | x :: r => by
    have ih := moreAt_all m y r
    unfold moreAt at ih ⊢
    rw [List.map_cons]
    by_cases h : x = y
    · rw [List.find?_cons_of_pos (by simp [h]), if_pos (by rw [h]; exact List.mem_cons_self)]
      rfl
    · rw [List.find?_cons_of_neg (by simp [h]), ih]
      have : (y ∈ x :: r) ↔ y ∈ r := by
        rw [List.mem_cons]
        exact ⟨fun c => c.resolve_left fun e => h e.symm, .inr⟩
      simp only [this]
theorem fallAll_eq {zs : List Str} {D : Md} {r : List Str} {m : Int} (nd : zs.Nodup) (lf : D.fallen.length = zs.length) (nr : r.Nodup) (sub : ∀ y ∈ r, y ∈ zs) : fallM (bkOf zs D) (r.map fun x => (x, m)) = bkOf zs (fallAll zs D r m) := by
  obtain ⟨a, b, c⟩ := fallAll_keeps zs m r D
  have e : ((zs.zip D.fallen).map fun p => p.2 + moreAt (r.map fun x => (x, m)) p.1) = (fallAll zs D r m).fallen := by
    refine List.ext_getElem? fun i => ?_
    rw [List.getElem?_map]
    by_cases hi : i < zs.length
    · have hf : i < D.fallen.length := by omega
      rw [List.getElem?_zip_eq_some (z := (zs[i], D.fallen[i])) |>.mpr ⟨List.getElem?_eq_getElem hi, List.getElem?_eq_getElem hf⟩, fallAll_at nd m r D nr sub lf i zs[i] D.fallen[i] (List.getElem?_eq_getElem hi) (List.getElem?_eq_getElem hf)]
      show some (D.fallen[i] + moreAt (r.map fun x => (x, m)) zs[i]) = _
      rw [moreAt_all]
    · rw [List.getElem?_eq_none (by rw [List.length_zip]; omega), List.getElem?_eq_none (by omega)]
      rfl
  show Bk.mk zs D.given D.notes ((zs.zip D.fallen).map fun p => p.2 + moreAt (r.map fun x => (x, m)) p.1) = Bk.mk zs (fallAll zs D r m).given (fallAll zs D r m).notes (fallAll zs D r m).fallen
  rw [e, a, b]
/-- a ring that is cleared -/
theorem clear_ok {zs : List Str} {D : Md} {z : Str} {m : Int} {r : List Str} (g : Gs zs D) (gb : Gb D) (hz : z ∈ zs) (m1 : 1 ≤ m) (hR : ringM zs (nxD zs D) z = some r) (mm : m ≤ leastI (r.map (amtAt zs (duesM (bkOf zs D))))) :
    Gs zs (fallAll zs D r m) ∧ Gb (fallAll zs D r m) ∧ FallOk (bkOf zs D) (r.map fun x => (x, m)) ∧ r.Nodup ∧ (∀ y ∈ r, y ∈ zs) := by
  have wk := g.walks
  obtain ⟨p, nr, sub, ne⟩ := ring_perm wk.ld hz hR
  have rd := ring_due wk.ld hz hR
  have du : DuesOf zs D (nxD zs D) m r := fun x hx => by
    obtain ⟨hxz, t, ht⟩ := rd x hx
    have hj : zs.idxOf x < zs.length := List.idxOf_lt_length_of_mem hxz
    have h1 : zs.idxOf x < D.notes.length := by rw [g.ln]; exact hj
    have h2 : zs.idxOf x < D.fallen.length := by rw [g.lf]; exact hj
    have el := List.getElem?_eq_getElem h1
    have ef := List.getElem?_eq_getElem h2
    have hnx : nxD zs D x = some t := ht
    rw [nxD_at g.nz.nd (idx_get hxz) el ef] at hnx
    cases hL : leftN D.notes[zs.idxOf x] D.fallen[zs.idxOf x] with
    | nil =>
      rw [hL] at hnx
      cases hnx
    | cons n rest =>
      obtain ⟨t', b⟩ := n
      rw [hL] at hnx
      have e1 : t' = t := Option.some.inj hnx
      subst e1
      have ea : amtAt zs (duesM (bkOf zs D)) x = b := by
        unfold amtAt
        have eo : (duesM (bkOf zs D)).getD (zs.idxOf x) none = (leftN D.notes[zs.idxOf x] D.fallen[zs.idxOf x]).head? := getD_of (dues_at (M := bkOf zs D) el ef)
        rw [eo, hL]
        rfl
      have hb : m ≤ b := by
        have := (least_mem (ns := r.map (amtAt zs (duesM (bkOf zs D)))) (by simpa using ne)).2 _ (List.mem_map.mpr ⟨x, hx, rfl⟩)
        omega
      exact ⟨_, _, t', b, rest, el, ef, fun n hn => (g.nt _ (List.getElem_mem h1) n hn).2.1, g.fl _ (List.getElem_mem h2), hL, hb, ht⟩
  obtain ⟨ka, kb, kc⟩ := fallAll_keeps zs m r D
  have cs : ∀ (i : Nat) (y : Str), zs[i]? = some y → 0 ≤ cashM (bkOf zs (fallAll zs D r m)) i y := fun i y ei => by
    rw [fallAll_cash g.nz.nd (by omega) r D nr sub du i y ei, ring_count p nr y]
    have c0 := g.cs i y ei
    by_cases h : y ∈ r
    · rw [if_pos h, if_pos h]
      simp
      omega
    · rw [if_neg h, if_neg h]
      simp
      omega
  have at_ : ∀ (i : Nat) (f' : Int), (fallAll zs D r m).fallen[i]? = some f' → ∃ y f, zs[i]? = some y ∧ D.fallen[i]? = some f ∧ f' = f + if y ∈ r then m else 0 := fun i f' e => by
    have hi : i < (fallAll zs D r m).fallen.length := (List.getElem?_eq_some_iff.mp e).1
    have hif : i < D.fallen.length := by omega
    have hiz : i < zs.length := by
      rw [← g.lf]
      exact hif
    have := fallAll_at g.nz.nd m r D nr sub g.lf i zs[i] D.fallen[i] (List.getElem?_eq_getElem hiz) (List.getElem?_eq_getElem hif)
    rw [e] at this
    exact ⟨_, _, List.getElem?_eq_getElem hiz, List.getElem?_eq_getElem hif, Option.some.inj this⟩
  have fw : ∀ (i : Nat) (y : Str) (l : List (Str × Int)) (f : Int), zs[i]? = some y → D.notes[i]? = some l → D.fallen[i]? = some f → y ∈ r → f + m ≤ wholeN l := fun i y l f ei el ef hy => by
    obtain ⟨l2, f2, t2, b2, rest2, el2, ef2, hn2, f02, eL2, mb2, _⟩ := du y hy
    have e : zs.idxOf y = i := by
      obtain ⟨hi, e⟩ := List.getElem?_eq_some_iff.mp ei
      rw [← e]
      exact g.nz.nd.idxOf_getElem i hi
    rw [e, el] at el2
    rw [e, ef] at ef2
    have e1 := Option.some.inj el2
    have e2 := Option.some.inj ef2
    subst e1 e2
    exact (fall_one hn2 f02 (by omega) mb2 eL2).1
  refine ⟨⟨g.nz, by rw [kb]; exact g.nt, fun x hx => ?_, by rw [kb]; exact g.my, by rw [ka]; exact g.lg, by rw [kc]; exact g.lf, by rw [kb]; exact g.ln, cs⟩, ⟨by rw [ka]; exact gb.gv, fun i l f' el' ef' => ?_⟩, ⟨fun q hq => ?_, fun i y ei => ?_⟩, nr, sub⟩
  · obtain ⟨i, hi, e⟩ := List.getElem_of_mem hx
    obtain ⟨y, f, _, ef, e2⟩ := at_ i x (by rw [List.getElem?_eq_getElem hi, e])
    have f0 := g.fl f (List.mem_of_getElem? ef)
    rw [e2]
    split <;> omega
  · rw [kb] at el'
    obtain ⟨y, f, ei, ef, e2⟩ := at_ i f' ef'
    rw [e2]
    by_cases hy : y ∈ r
    · rw [if_pos hy]
      exact fw i y l f ei el' ef hy
    · rw [if_neg hy, Int.add_zero]
      exact gb.fw i l f el' ef
  · obtain ⟨x, hx, rfl⟩ := List.mem_map.mp hq
    obtain ⟨l, f, t, b, rest, el, ef, hn, f0, eL, mb, ex⟩ := du x hx
    exact ⟨_, l, f, idx_get (sub x hx), el, ef, by show 0 ≤ m; omega, (fall_one hn f0 (by omega) mb eL).1⟩
  · rw [fallAll_eq g.nz.nd g.lf nr sub]
    exact cs i y ei
end Rc

namespace Rc
open PySem PySem.Spec PyProof.Rows L2 RZ
section
variable {P : Program} {w : World} {K : PySem.W.Frag} {mg : Str → Option Value} {base : Heap}
/-! ### _law_alike, whatever has fallen -/
abbrev sLAl : Stmt := topS 39
abbrev nLAl : List Str := ["_law_model_here", "_law_book", "_law_who", "_law_told_here", "_law_wanted_here"]
theorem scLAl : FnScope nLAl ["_law_model_here", "_law_book"] (defScope sLAl) := ⟨rfl, rfl, rfl, by decide +kernel, rfl, by decide +kernel, by decide +kernel⟩
def spLAl (K : PySem.W.Frag) (C : Addr) : Sp := fun vs H Q _ => ∃ (a : MdA) (D : Md) (zs : List Str) (b : Addr), vs = [.ref a.m, .ref b] ∧ ModelAt K H zs a D ∧ BookAt K C H b (bkOf zs D) ∧ Gs zs D ∧ Gb D ∧ ∀ H', Same H H' → Q (.bl true) H'
def toldD (g f c : Int) (l p : List (Str × Int)) : PyData := .list [.int g, .int f, .int c, .list (notesD l), .list (notesD p)]
theorem notes_depth {zs : List Str} (hz : ∀ z ∈ zs, nameT z = true) : ∀ {l : List (Str × Int)}, (∀ n ∈ l, NoteOk zs n) → PyData.depthAll (notesD l) ≤ 1
  | [], _ => Nat.zero_le _
  | a :: r, h => by
    show PyData.depthAll (noteD a :: notesD r) ≤ 1
    simp only [PyData.depthAll]
    have h1 := (nice_note hz (h a List.mem_cons_self)).2
    have h2 := notes_depth hz fun n hn => h n (List.mem_cons_of_mem _ hn)
    omega
theorem nice_told {zs : List Str} (hz : ∀ z ∈ zs, nameT z = true) {g f c : Int} {l p : List (Str × Int)} (hg : BigOk g) (hf : BigOk f) (hc : BigOk c) (hl : ∀ n ∈ l, NoteOk zs n) (ll : l.length ≤ 60) (hp : ∀ n ∈ p, NoteOk zs n) (lp : p.length ≤ 60) : NiceD (toldD g f c l p) 8000 := by
  have nl := (nice_notes hz hl).list
  have np := (nice_notes hz hp).list
  have dl : (PyData.list (notesD l)).depth ≤ 4 := by
    simp only [PyData.depth]
    have := notes_depth hz hl
    omega
  have dp : (PyData.list (notesD p)).depth ≤ 4 := by
    simp only [PyData.depth]
    have := notes_depth hz hp
    omega
  have z4 : ∀ i : Int, (PyData.int i).depth ≤ 4 := fun i => by simp only [PyData.depth]; omega
  have a := (NiceA.cons (nice_int hg) (z4 _) (NiceA.cons (nice_int hf) (z4 _) (NiceA.cons (nice_int hc) (z4 _) (NiceA.cons nl dl (NiceA.cons np dp NiceA.nil))))).list
  exact ⟨a.sh, a.lv, a.nd, a.dp, Nat.le_trans a.bk (by omega), a.cl⟩
theorem ok_lal {f f1 f2 f3 f4 f5 f6 f7 f8 C : Addr} {fd fd1 fd2 fd3 fd4 fd5 fd6 fd7 fd8 : FuncData} (F : Fun K "_law_alike" "_law_alike" sLAl f fd) (T : ClsF K C) (B2 : Blt2 mg)
    (PE1 : HasM P w K mg base C 1 "persons" ["self"] (spPersons K C) f1 fd1) (GV : HasM P w K mg base C 4 "given" ["self", "who"] (spNum K C Bk.gifts) f2 fd2) (FL : HasM P w K mg base C 4 "fallen" ["self", "who"] (spNum K C Bk.drops) f3 fd3)
    (CS : HasM P w K mg base C 5 "cash" ["self", "who"] (spCalc K C cashM) f4 fd4) (NT : HasM P w K mg base C 4 "notes" ["self", "who"] (spRow K C fun l _ => l) f5 fd5) (PL : HasM P w K mg base C 5 "pile" ["self", "who"] (spRow K C leftN) f6 fd6)
    (LC : Has P w K mg base 2 "_law_cash" ["_law_model_here", "_law_who"] (spLCs K) f7 fd7) (LL : Has P w K mg base 2 "_law_left" ["_law_model_here", "_law_who"] (spLLf K) f8 fd8) :
    FnG P w K mg base CX0 6 f fd ["_law_model_here", "_law_book"] (spLAl K C) := by
  refine okG0 F scLAl (fun vs H Q E h => ?_) (fun cdv Ar outer s H vs Q E hr hgd h => ?_)
  · obtain ⟨_, _, _, _, rfl, _⟩ := h
    rfl
  · obtain ⟨a, D, zs, b, rfl, hM, hb, g, gb, q⟩ := h
    have nz := g.nz
    have hu := hu_of hr
    have hr1 := hr.mono (show 1 ≤ 5 by decide)
    have hr2 := hr.mono (show 2 ≤ 5 by decide)
    have hr4 := hr.mono (show 4 ≤ 5 by decide)
    refine ⟨_, pss_cons (ps_if (pt_cmpR (op_neD hr.units) (pe_meth0 (pv 1) T.cl PE1.m PE1.ok hr1 PE1.b .nil pass0) (pe_dget hu (pv 0) pe_str (fun _ _ => rfl)) (nomark _)) (pss_one (ps_ret pe_bl)) pss_nil)
      (pss_cons (ps_for PassesOwn.never rfl (pi_list (pe_dget hu (pv 0) pe_str (fun _ _ => rfl))) (pg_name (i := 2) scLAl.nd rfl (.inl rfl))
        (pss_cons (ps_set (i := 3) scLAl.nd rfl (.inl rfl) (pe_lst (pa_cons (pe_meth (pv 1) T.cl GV.m GV.ok hr4 GV.b .nil pass0 (pa_cons (pv 2) pa_nil)) (pa_cons (pe_meth (pv 1) T.cl FL.m FL.ok hr4 FL.b .nil pass0 (pa_cons (pv 2) pa_nil))
          (pa_cons (pe_meth (pv 1) T.cl CS.m CS.ok hr CS.b .nil pass0 (pa_cons (pv 2) pa_nil)) (pa_cons (pe_meth (pv 1) T.cl NT.m NT.ok hr4 NT.b .nil pass0 (pa_cons (pv 2) pa_nil)) (pa_cons (pe_meth (pv 1) T.cl PL.m PL.ok hr PL.b .nil pass0 (pa_cons (pv 2) pa_nil)) pa_nil)))))))
        (pss_cons (ps_set (i := 4) scLAl.nd rfl (.inl rfl) (pe_lst (pa_cons (pe_dget hu (pe_dget hu (pv 0) pe_str (fun _ _ => rfl)) (pv 2) (fun _ _ => rfl)) (pa_cons (pe_dget hu (pe_dget hu (pv 0) pe_str (fun _ _ => rfl)) (pv 2) (fun _ _ => rfl))
          (pa_cons (pe_call LC.ok hr2 (by rfl) LC.g LC.kp LC.b .nil pass0 (pa_cons (pv 0) (pa_cons (pv 2) pa_nil))) (pa_cons (pe_dget hu (pe_dget hu (pv 0) pe_str (fun _ _ => rfl)) (pv 2) (fun _ _ => rfl)) pa_nil))))))
        (pss_one (ps_if (pt_cmpR op_ne (pe_callB (call_repr hr hgd) (by rfl) B2.repr (by decide +kernel) (pa_cons (pv 3) pa_nil))
          (pe_callB (call_repr hr hgd) (by rfl) B2.repr (by decide +kernel) (pa_cons (pe_op op_cat (pv 4) (pe_lst (pa_cons (pe_call LL.ok hr2 (by rfl) LL.g LL.kp LL.b .nil pass0 (pa_cons (pv 0) (pa_cons (pv 2) pa_nil))) pa_nil))) pa_nil)) (nomark _))
          (pss_one (ps_ret pe_bl)) pss_nil)))))
      (pss_one (ps_ret pe_bl))), ?_⟩
    obtain ⟨dx, tn, on, wg, ws, wd, e, h1, hn, h2, h3, h4⟩ := hb.ex
    have okb := g.ok
    have nn := nice_names nz.nm
    refine ⟨.ref b, rfl, b, dx, _, rfl, e, bf_no (NoF.mk' (by decide +kernel)), b, _, rfl, hb, fun l nl => ?_⟩
    have s1 := same_upd (o := .lst ((bkOf zs D).names.map V.str)) nl
    have hM1 := model_same hM s1
    refine ⟨.ref a.m, rfl, a.m, .ref a.lo, rfl, hM1.g0, .list (zs.map .str), .list (zs.map .str), .lst (.inl (.inl upd_same)) (DpAll.strs zs), .lst (.inl (.inl hM1.ho)) (DpAll.strs zs), nice_shaped nn.list, nice_shaped nn.list, _, rfl, ?_⟩
    rw [SeqAt.eqv_refl _ nn.list.cl]
    refine iteF ?_
    refine ⟨.ref a.m, rfl, a.m, .ref a.lo, rfl, hM1.g0, a.lo, rfl, ⟨_, .inl (.inl hM1.ho)⟩, ?_⟩
    refine for_it (walk_list (K := K) (a := a.lo) (xs := zs.map V.str)) (fun i σ H' => ∃ y2 y3 y4, σ = [some (.ref a.m), some (.ref b), y2, y3, y4] ∧ Same H H') ⟨_, _, _, rfl, s1⟩ (fun i σ H' _ hP => ?_) (fun i x σ H2' H2 hi hP hY => ?_) (fun σ H' hP => ?_)
    · obtain ⟨_, _, _, _, s2⟩ := hP
      exact .inl (.inl (s2 _ _ hM.ho))
    · obtain ⟨rfl, hx⟩ := hY
      obtain ⟨y2, y3, y4, rfl, s2⟩ := hP
      rw [List.length_map] at hi
      have exx : x = .str zs[i] := by
        rw [List.getElem?_map, List.getElem?_eq_getElem hi] at hx
        exact (Option.some.inj hx).symm
      subst exx
      have ej : zs[i]? = some zs[i] := List.getElem?_eq_getElem hi
      obtain ⟨gv, f', l', r, xs, eg, ef, el, er, hr0, hd0⟩ := hM.at_ ej
      have hl' := g.nt l' (List.mem_of_getElem? el)
      have ll' := g.rows l' (List.mem_of_getElem? el)
      have gl := g.left el ef
      have lp : (leftN l' f').length ≤ 60 := Nat.le_trans (leftN_len _ _) ll'
      obtain ⟨bg, bff, bc⟩ := gb.bigs g ej eg ef el
      generalize hc : cashM (bkOf zs D) i zs[i] = cc at bc
      generalize hpl : leftN l' f' = pl at gl lp
      have noB : ∀ {m : Str}, ((m == "names") || (m == "gifts") || (m == "stacks") || (m == "drops")) = false → (bf (.ref tn) wg ws wd).lookup m = none := fun h => bf_no (NoF.mk' h)
      -- told
      refine ⟨.ref b, rfl, b, dx, _, rfl, s2 _ _ e, noB (by decide +kernel), .str zs[i], rfl, b, _, _, i, gv, rfl, book_same hb s2, nz, ej, eg, fun H3 s3 => ?_⟩
      have s23 := s2.trans s3
      refine ⟨.ref b, rfl, b, dx, _, rfl, s23 _ _ e, noB (by decide +kernel), .str zs[i], rfl, b, _, _, i, f', rfl, book_same hb s23, nz, ej, ef, fun H4 s4 => ?_⟩
      have s24 := s23.trans s4
      refine ⟨.ref b, rfl, b, dx, _, rfl, s24 _ _ e, noB (by decide +kernel), .str zs[i], rfl, b, _, _, i, rfl, book_same hb s24, okb, ej, fun H5 s5 => ?_⟩
      rw [hc]
      have s25 := s24.trans s5
      refine ⟨.ref b, rfl, b, dx, _, rfl, s25 _ _ e, noB (by decide +kernel), .str zs[i], rfl, b, _, _, i, l', f', rfl, book_same hb s25, nz, ej, el, ef, by omega, fun r1 x1 H6 s6 nr1 hr1' d1 => ?_⟩
      have s26 := s25.trans s6
      refine ⟨.ref b, rfl, b, dx, _, rfl, s26 _ _ e, noB (by decide +kernel), .str zs[i], rfl, b, _, _, i, l', f', rfl, book_same hb s26, nz, ej, el, ef, by omega, fun r2 x2 H7 s7 nr2 hr2' d2 => ⟨by show 5 ≤ sizeLine; decide, fun t1 nt1 => ?_⟩⟩
      rw [hpl] at d2
      have s8 := same_upd (o := .lst [V.int gv, V.int f', V.int cc, V.ref r1, V.ref r2]) nt1
      have s28 := s26.trans (s7.trans s8)
      generalize hH8 : upd H7 t1 (.lst [V.int gv, V.int f', V.int cc, V.ref r1, V.ref r2]) = H8 at s8 s28
      have ht1 : H8 t1 = some (.lst [V.int gv, V.int f', V.int cc, V.ref r1, V.ref r2]) := by
        rw [← hH8, upd_same]
      have hM8 := model_same hM s28
      -- wanted
      refine ⟨.ref a.m, rfl, a.m, .ref a.dg, rfl, hM8.g1, .str zs[i], rfl, a.dg, .int gv, rfl, hM8.gg ej eg, .ref a.m, rfl, a.m, .ref a.df, rfl, hM8.g2, .str zs[i], rfl, a.df, .int f', rfl, hM8.gf ej ef, .ref a.m, rfl, .str zs[i], rfl, a, D, zs, _, i, rfl, hM8, ej, g.rows, fun H9 s9 => ?_⟩
      have ec2 : cashD D i zs[i] = cc := by
        rw [← cash_eq zs]
        exact hc
      rw [ec2]
      have s29 := s28.trans s9
      have hM9 := model_same hM s29
      refine ⟨.ref a.m, rfl, a.m, .ref a.dn, rfl, hM9.g3, .str zs[i], rfl, a.dn, .ref r, rfl, hM9.gn ej er, by show 4 ≤ sizeLine; decide, fun t2 nt2 => ?_⟩
      have s10 := same_upd (o := .lst [V.int gv, V.int f', V.int cc, V.ref r]) nt2
      generalize hH10 : upd H9 t2 (.lst [V.int gv, V.int f', V.int cc, V.ref r]) = H10 at s10
      have ht2 : H10 t2 = some (.lst [V.int gv, V.int f', V.int cc, V.ref r]) := by
        rw [← hH10, upd_same]
      have s210 := s29.trans s10
      have dTold : Dt K H10 (.ref t1) (toldD gv f' cc l' pl) := .lst (.inl (.inl (s10 _ _ (s9 _ _ ht1)))) (.cons (.int _) (.cons (.int _) (.cons (.int _) (.cons (.lst (.inl (.inl ((s9.trans s10) _ _ (s8 _ _ (s7 _ _ hr1'))))) (DtAll.same ((s7.trans s8).trans (s9.trans s10)) _ d1))
        (.cons (.lst (.inl (.inl ((s9.trans s10) _ _ (s8 _ _ hr2')))) (DtAll.same (s8.trans (s9.trans s10)) _ d2)) .nil)))))
      have nt := nice_told nz.nm bg bff bc hl' ll' gl lp
      have dp20 : (toldD gv f' cc l' pl).depth ≤ 20 := by
        have := nt.dp
        omega
      refine ⟨.ref t1, rfl, .ref t1, toldD gv f' cc l' pl, rfl, dTold, nt.sh, .inl nt.nd, dp20, nice_fits nt (Nat.le_refl _), ?_⟩
      have hM10 := model_same hM s210
      refine ⟨.ref t2, rfl, .ref a.m, rfl, .str zs[i], rfl, a, D, zs, _, i, l', f', rfl, hM10, ej, el, ef, by omega, fun m mx H11 s11 nm hm dm => ⟨by show 1 ≤ sizeLine; decide, fun t3 nt3 => ?_⟩⟩
      rw [hpl] at dm
      have s12 := s11.trans (same_upd (o := .lst [V.ref m]) nt3)
      refine ⟨t2, t3, _, _, rfl, rfl, s12 _ _ ht2, upd_same, by show 4 + 1 ≤ sizeLine; decide, fun t4 nt4 => ?_⟩
      have s13 := same_upd (o := .lst ([V.int gv, V.int f', V.int cc, V.ref r] ++ [V.ref m])) nt4
      have s1013 := s12.trans s13
      have hMr : ∀ {H' : Hp}, Same H H' → Dt K H' (.ref r) (.list (notesD l')) := fun {H'} sm => .lst (.inl (.inl (sm _ _ hr0))) (DtAll.same sm _ hd0)
      have dW : Dt K (upd (upd H11 t3 (.lst [V.ref m])) t4 (.lst ([V.int gv, V.int f', V.int cc, V.ref r] ++ [V.ref m]))) (.ref t4) (toldD gv f' cc l' pl) := .lst (.inl (.inl upd_same)) (.cons (.int _) (.cons (.int _) (.cons (.int _) (.cons (hMr (s210.trans s1013))
        (.cons (.lst (.inl (.inl (s13 _ _ (same_upd nt3 _ _ hm)))) (DtAll.same ((same_upd nt3).trans s13) _ dm)) .nil)))))
      refine ⟨_, _, rfl, dW, nt.sh, .inl nt.nd, dp20, nice_fits nt (Nat.le_refl _), rfl, _, rfl, ?_⟩
      exact iteNS rfl ⟨_, _, _, rfl, s210.trans s1013⟩
    · obtain ⟨_, _, _, rfl, s2⟩ := hP
      exact q _ s2
end
end Rc

namespace Rc
open PySem PySem.Spec PyProof.Rows L2
/-! ### what can be shown -/
structure ShowOk (d : PyData) : Prop where
  sh : d.showable = true
  tp : DictTop d
  dp : d.depth ≤ 20
  ft : (∃ i, d = .int i) ∨ d.shown.length ≤ sizeLine
theorem NiceD.show {d : PyData} {n : Nat} (h : NiceD d n) (hn : n ≤ 8000) : ShowOk d := ⟨h.sh, .inl h.nd, by have := h.dp; omega, nice_fits h hn⟩
theorem nice_text {z : Str} {n : Nat} (hc : ∀ c ∈ z.cps.toList, c < 128) (hl : z.length ≤ n) : NiceD (.str z) n := by
  refine ⟨by simp only [PyData.showable], ?_, by simp only [PyData.hasDict], by simp only [PyData.depth]; omega, ?_, ?_⟩
  · simp only [PyData.leavesShort, List.all_eq_true, decide_eq_true_eq]
    exact fun c h => Nat.lt_trans (hc c h) (by decide)
  · simp only [PyData.bulk]
    exact hl
  · simp only [PyData.canLay0]
    show z.cps.all (fun c => decide (c < 0x110000)) = true
    rw [← Array.all_toList, List.all_eq_true]
    exact fun c h => decide_eq_true (Nat.lt_trans (hc c h) (by decide))
section
variable {X : Cx}
/-- repr, whatever is being handled -/
theorem call_reprU {K : PySem.W.Frag} (eK : X.K = K) (hu : X.A.units + 64 < cLine) (hg : X.A.guards = some []) : CallR X (.builtin "repr") (rRepr K) := by
  subst eK
  intro pins s σ H xs us Q I r h
  obtain ⟨v, d, rfl, hd, hs, ht, hp, hz, q⟩ := h
  obtain ⟨u, rfl, ru⟩ := vals1 r
  obtain ⟨as, rd, nsm⟩ := Dt.reads I d v u hd ru
  have far : ∀ a, u = .ref a → d.shown.length ≤ sizeLine → wpAny (model X.prog X.w) X.A (call (.builtin "repr") [u]) (EP X pins σ Q) X.xe s := by
    rintro a rfl fit
    refine repr_of_reads' rd hs (fun hx => ?_) hg (by omega) (fun _ _ e => e) (fun h' t tk hk => ⟨.str _, H, I.kept hk, ⟨t, rfl⟩, q⟩) fit
    rcases ht with z | z
    · rw [z] at hx; cases hx
    · exact nsm z
  cases hd with
  | non => cases ru; exact PySem.P.repr_of_none ⟨.str _, H, I.tok _, ⟨_, rfl⟩, q⟩
  | bl b => cases ru; exact PySem.P.repr_of_bool ⟨.str _, H, I.tok _, ⟨_, rfl⟩, q⟩
  | int i =>
    obtain ⟨t, rfl⟩ := ru
    exact PySem.P.repr_of_int (by simpa [PyData.showable] using hs) ⟨.str _, H, I.tok _, ⟨_, rfl⟩, by simpa [PyData.shown] using q⟩
  | str x =>
    obtain ⟨t, rfl⟩ := ru
    exact PySem.P.repr_of_str ⟨.str _, H, I.tok _, ⟨_, rfl⟩, by simpa [PyData.shown] using q⟩ (by simpa [PyData.shown] using notInt hz (fun _ z => nomatch z))
  | lst _ _ => exact far _ ru (notInt hz fun _ z => nomatch z)
  | tup _ _ => exact far _ ru (notInt hz fun _ z => nomatch z)
  | dct _ _ _ => exact far _ ru (notInt hz fun _ z => nomatch z)
/-- isinstance(e, c), e the exception of the suite, with fields -/
def rIsX (K : PySem.W.Frag) (D a : Addr) (cls : Value) (d : Option Addr) : List V → Hp → VK → Prop := fun xs H Q => ∃ (c : V) (cv : Value) (b : Bool) (dd : Addr) (fs : List (Str × V)),
  xs = [.ref a, c] ∧ (∀ u, RelV c u → u = cv) ∧ PySem.W.kitOne K (.ref D) cv = some b ∧ cls = .ref D ∧ d = some dd ∧ H dd = some (.xd fs) ∧ Q (.bl b) H
theorem call_isX {K : PySem.W.Frag} {a D : Addr} {oe : Obj} {cls : Value} {d : Option Addr} {pn : List (Addr × Obj)} (eK : X.K = K) (C : ExcC K D) (hz : Zc cls d oe) (hf : ∃ vs, oe.data = .fields vs) : CallR (X.suite a ((a, oe) :: pn)) (.builtin "isinstance") (rIsX K D a cls d) := by
  subst eK
  intro pins s σ H xs us Q I r h
  obtain ⟨c, cv, b, dd, fs, rfl, hcv, e, rfl, rfl, hdd, q⟩ := h
  cases r with
  | cons rx rr =>
    cases rr with
    | cons rt rr =>
      cases rr
      cases rx
      have ec := hcv _ rt
      subst ec
      obtain ⟨hget, _⟩ := I.pin (a, oe) (List.mem_append.mpr (.inl List.mem_cons_self))
      obtain ⟨vs, hv⟩ := hf
      have hx : ObjOk X.prog X.w H s.heap dd (.xd fs) := I.hok dd _ hdd
      obtain ⟨mA, ⟨od, es, ep, hod, _⟩, _⟩ := hx
      have J : PySem.W.InstAt s.heap a oe D (some od) := by
        obtain ⟨h1, h2⟩ := hz
        exact ⟨hget, h1, by unfold PySem.W.notCls; rw [hv] <;> rfl, by rw [h2]; exact hod⟩
      obtain ⟨cdD, hcD, _⟩ := PySem.W.any_some C.hd
      exact PySem.W.kia_one (PySem.W.kitx_exc (by rw [hcD]; rfl) C.hg C.hk C.hs C.ha C.hn C.ht C.hm) I.kIn J e (fun z => nomatch z) fun tk => ⟨.bl b, H, I.kept (t' := tk) fun _ _ z => z, rfl, q⟩
/-- "a" * 9 -/
theorem op_mulA : OpR X (binaryOp .Mult) (fun x y H Q => x = .str "a" ∧ y = .int 9 ∧ Q (.str "aaaaaaaaa") H) := by
  intro pins s σ H x y v u Q I rx ry h
  obtain ⟨rfl, rfl, q⟩ := h
  obtain ⟨t, rfl⟩ := rx
  obtain ⟨t', rfl⟩ := ry
  refine PySem.P.mul_str (by decide) (fun _ _ => by decide) (fun _ _ => by decide +kernel) ?_
  rw [if_neg (by decide), if_neg (by decide)]
  exact ⟨by decide +kernel, ⟨.str "aaaaaaaaa", H, I.tok _, ⟨_, rfl⟩, q⟩⟩
end
/-- BookError, beside NoSuch -/
structure ClsB (K : PySem.W.Frag) (mg : Str → Option Value) (CB CN : Addr) : Prop where
  g : mg "BookError" = some (.ref CB)
  ex : PySem.W.subIn K (.ref CB) (.type "BaseException") = some true
  hd : PySem.W.hasDictIn K CB = true
  ty : PySem.W.typeIn K (.ref CB) = some (.type "type")
  no : PySem.W.subIn K (.ref CN) (.ref CB) = some false
  self : PySem.W.subIn K (.ref CN) (.ref CN) = some true
  kit : PySem.W.kitOne K (.ref CN) (.ref CB) = some false
  kil : PySem.W.kitOne K (.ref CN) (.type "LookupError") = some true
  lk : mg "LookupError" = none
  cl : PySem.W.findIn K (.ref CN) "__class__" = some (some (.builtin "object.__class__"))
  sp : PySem.W.specialIn K (.builtin "object.__class__") "__get__" = some (some (.builtin "getset_descriptor.__get__"))
  tk : PySem.W.takesIn K (.builtin "object.__class__") = some true
  ob : PySem.W.mroIn K CN (.type "object") = some true
section
variable {P : Program} {K : PySem.W.Frag} {mg : Str → Option Value} {CB CN : Addr}
theorem ClsB.exc (B : ClsB K mg CB CN) (N : ClsN P K mg CN) : ExcC K CN := ⟨N.ga, N.gg, N.exC, N.hd, B.cl, B.sp, B.tk, B.ob⟩
theorem ClsB.miss (B : ClsB K mg CB CN) : PySem.W.exmOne K (.ref CN) (.ref CB) = some false := PySem.W.exm_ref B.ex B.hd B.ty B.no
theorem ClsB.hit (B : ClsB K mg CB CN) (N : ClsN P K mg CN) : PySem.W.exmOne K (.ref CN) (.ref CN) = some true := PySem.W.exm_ref N.exC N.hd N.tyC B.self
theorem no_xf (N : ClsN P K mg CN) : XfC K CN := ⟨N.ga, N.gg, N.exC, N.hd⟩
end
end Rc

set_option pp.maxSteps 700
namespace Rc
open PySem PySem.Spec PyProof.Rows L2
/-! ### methods within a try; exceptions without fields -/
section
variable {X : Cx} {CX : CXT} {k : Nat} {f C : Addr} {fd : FuncData} {ps : List Str} {sp : Sp} {E : L2.St → XK} {m : Str} {pos apos : Pos} {e o : Expr} {es : List Expr} {ta : TE} {t : TA}
def tMethP (C : Addr) (m : Str) (sp : Sp) (E : L2.St → XK) (ta : TE) (t : TA) : TE := fun σ H Q => ta σ H fun x H1 => ∃ a dx fs, x = .ref a ∧ H1 a = some (.ins C dx fs) ∧ fs.lookup m = none ∧ t σ H1 fun vs H2 => sp (x :: vs) H2 Q (E σ)
theorem pe_methP {pl : Sem Bool} (he : PE X o ta) (c : Cls X.K C) (hm : Meth X.K C m f) (F : FnOk X.prog X.w X.K X.mg X.base CX k f fd ps sp) (hr : Room k X.A) (hb : Binds X.K fd ps []) (hx : ∀ σ, PassesAt CX X σ (E σ)) (ha : PA X (e :: es) t)
    (hst : starEach (e :: es) X.env = (false, eval e X.env) :: starEach es X.env := by rfl) (hpl : (backTo pos (starEach es X.env)).any (·.1) = false := by rfl)
    (ht : eval (.Call (.Attribute o m apos) (e :: es) [] pos) X.env = (do
      let ov ← eval o X.env
      standAt apos.atName
      let (f, first) ← holding [ov] (getMethod ov m pl)
      callWith pos f first (backTo pos (starEach (e :: es) X.env)) (backToKw pos (keywordEach [] X.env))) := by rfl) :
    PE X (.Call (.Attribute o m apos) (e :: es) [] pos) (tMethP C m sp E ta t) := by
  refine ⟨fun pins s σ H Q I h => ?_⟩
  refine PySem.W.methodCall_KW (pl := pl) (thn (he.run pins s σ H _ I h) fun u s1 ⟨x, H1, I1, rx, a, dx, fs, ex, ea, l, q⟩ => ?_) ht
  subst ex
  obtain rfl : u = Value.ref a := rx
  refine getmeth_ok I1 ea c hm l ?_
  refine PySem.W.callWith_K (first := [.ref a]) (h₀ := X.base) I.ok.mod.kin hm.kp (thn (ha.run pos pins s1 σ H1 _ I1 q) fun us s2 ⟨vs, H2, I2, r, q2⟩ => ⟨I2.kIn, ?_⟩) hst hpl
  exact run_fnS (us := .ref a :: us) (vs := .ref a :: vs) F hr hb (hx σ) I2 (.cons rfl r) q2
/-- isinstance(e, c), e without fields -/
def rIsN (K : PySem.W.Frag) (D a : Addr) (cls : Value) (d : Option Addr) : List V → Hp → VK → Prop := fun xs H Q => ∃ (c : V) (cv : Value) (b : Bool), xs = [.ref a, c] ∧ (∀ u, RelV c u → u = cv) ∧ PySem.W.kitOne K (.ref D) cv = some b ∧ cls = .ref D ∧ d = none ∧ Q (.bl b) H
theorem call_isN {K : PySem.W.Frag} {a D : Addr} {oe : Obj} {cls : Value} {d : Option Addr} {pn : List (Addr × Obj)} (eK : X.K = K) (C : ExcC K D) (hz : Zc cls d oe) (hf : ∃ vs, oe.data = .fields vs) : CallR (X.suite a ((a, oe) :: pn)) (.builtin "isinstance") (rIsN K D a cls d) := by
  subst eK
  intro pins s σ H xs us Q I r h
  obtain ⟨c, cv, b, rfl, hcv, e, rfl, rfl, q⟩ := h
  exact call_isE C hz hf pins s σ H _ us Q I r ⟨c, cv, b, rfl, hcv, e, q⟩
end
/-- an exception class over BookError, without an __init__ of its own -/
structure ClsP (K : PySem.W.Frag) (mg : Str → Option Value) (nm : Str) (D CB : Addr) : Prop where
  gP : mg nm = some (.ref D)
  xP : PySem.W.excIn K D [.type "ValueError", .type "Exception", .type "BaseException", .type "object"] "ValueError.__new__" = true
  kP : PySem.W.keepIn K (.ref D) = true
  bP : PySem.W.subIn K (.ref D) (.type "BaseException") = some true
  tP : PySem.W.typeIn K (.ref D) = some (.type "type")
  hd : PySem.W.hasDictIn K D = true
  sP : PySem.W.subIn K (.ref D) (.ref D) = some true
  ga : PySem.W.findIn K (.ref D) "__getattribute__" = some (some (.builtin "BaseException.__getattribute__"))
  gg : PySem.W.findIn K (.ref D) "__getattr__" = some none
  cl : PySem.W.findIn K (.ref D) "__class__" = some (some (.builtin "object.__class__"))
  sp : PySem.W.specialIn K (.builtin "object.__class__") "__get__" = some (some (.builtin "getset_descriptor.__get__"))
  tk : PySem.W.takesIn K (.builtin "object.__class__") = some true
  ob : PySem.W.mroIn K D (.type "object") = some true
  gB : mg "BookError" = some (.ref CB)
  kit : PySem.W.kitOne K (.ref D) (.ref CB) = some true
section
variable {K : PySem.W.Frag} {mg : Str → Option Value} {nm : Str} {D CB : Addr}
theorem ClsP.exc (P : ClsP K mg nm D CB) : ExcC K D := ⟨P.ga, P.gg, P.bP, P.hd, P.cl, P.sp, P.tk, P.ob⟩
theorem ClsP.hit (P : ClsP K mg nm D CB) : PySem.W.exmOne K (.ref D) (.ref D) = some true := PySem.W.exm_ref P.bP P.hd P.tP P.sP
theorem mkClsP {h : Heap} (X : K.In h) (G : h.Ns mainGlobals mg) (a : PySem.W.nsIn K mainGlobals nm = some (some (.ref D)))
    (a1 : PySem.W.excIn K D [.type "ValueError", .type "Exception", .type "BaseException", .type "object"] "ValueError.__new__" = true) (a2 : PySem.W.keepIn K (.ref D) = true) (a3 : PySem.W.subIn K (.ref D) (.type "BaseException") = some true)
    (a4 : PySem.W.typeIn K (.ref D) = some (.type "type")) (a5 : PySem.W.hasDictIn K D = true) (a6 : PySem.W.subIn K (.ref D) (.ref D) = some true)
    (a7 : PySem.W.findIn K (.ref D) "__getattribute__" = some (some (.builtin "BaseException.__getattribute__"))) (a8 : PySem.W.findIn K (.ref D) "__getattr__" = some none) (a9 : PySem.W.findIn K (.ref D) "__class__" = some (some (.builtin "object.__class__")))
    (b1 : PySem.W.specialIn K (.builtin "object.__class__") "__get__" = some (some (.builtin "getset_descriptor.__get__"))) (b2 : PySem.W.takesIn K (.builtin "object.__class__") = some true) (b3 : PySem.W.mroIn K D (.type "object") = some true)
    (b4 : PySem.W.nsIn K mainGlobals "BookError" = some (some (.ref CB))) (b5 : PySem.W.kitOne K (.ref D) (.ref CB) = some true) : ClsP K mg nm D CB :=
  ⟨PySem.W.mg_of X G a, a1, a2, a3, a4, a5, a6, a7, a8, a9, b1, b2, b3, PySem.W.mg_of X G b4, b5⟩
end
end Rc

namespace Rc
open PySem PySem.Spec PyProof.Rows L2 RZ PySem.Builtin.Str
/-! ### texts of plain signs -/
def Asc (x : Str) : Prop := ∀ c ∈ x.cps.toList, c < 128
instance (x : Str) : Decidable (Asc x) := inferInstanceAs (Decidable (∀ c ∈ x.cps.toList, c < 128))
theorem Asc.app {x y : Str} (a : Asc x) (b : Asc y) : Asc (x ++ y) := fun c hc => by
  have e : (x ++ y).cps.toList = x.cps.toList ++ y.cps.toList := by
    show (x.cps ++ y.cps).toList = _
    rw [Array.toList_append]
  rw [e] at hc
  rcases List.mem_append.mp hc with h | h
  · exact a c h
  · exact b c h
theorem asc2 {a b : Str} (ha : Asc a) (hb : Asc b) : ∀ t ∈ [a, b], Asc t := fun t h => by
  rcases List.mem_cons.mp h with rfl | h
  · exact ha
  · rw [List.mem_singleton.mp h]
    exact hb
theorem asc_ok {x : Str} (h : Asc x) : PyData.strOk x = true := by
  show x.cps.all (· < 0x110000) = true
  rw [← Array.all_toList, List.all_eq_true]
  exact fun c hc => decide_eq_true (Nat.lt_trans (h c hc) (by decide))
theorem quote_two (x : Str) : reprQuote x = 34 ∨ reprQuote x = 39 := by
  unfold reprQuote
  split <;> simp
theorem char_asc : ∀ q ∈ [34, 39], ∀ c < 128, ∀ d ∈ Builtin.Str.reprChar q c, d < 128 := by decide +kernel
theorem repr_asc {x : Str} (h : Asc x) : Asc (reprText x) := by
  have q2 : reprQuote x ∈ [34, 39] := by
    rcases quote_two x with e | e <;> rw [e] <;> decide
  have q3 : reprQuote x < 128 := by
    rcases quote_two x with e | e <;> rw [e] <;> decide
  unfold reprText
  generalize reprQuote x = q at q2 q3
  have go : ∀ (l : List Nat) (acc : Array Nat), (∀ c ∈ l, c < 128) → (∀ c ∈ acc.toList, c < 128) → ∀ c ∈ (l.foldl (fun out c => out ++ (Builtin.Str.reprChar q c).toArray) acc).toList, c < 128 := fun l => by
    induction l with
    | nil => exact fun _ _ ha => ha
    | cons a r ih =>
      intro acc hl ha
      refine ih _ (fun c hc => hl c (List.mem_cons_of_mem _ hc)) fun c hc => ?_
      rw [Array.toList_append] at hc
      rcases List.mem_append.mp hc with h | h
      · exact ha c h
      · exact char_asc q q2 a (hl a List.mem_cons_self) c (by simpa using h)
  intro c hc
  have hc : c ∈ ((x.cps.foldl (fun out c => out ++ (Builtin.Str.reprChar q c).toArray) #[q]).push q).toList := hc
  rw [Array.toList_push] at hc
  rcases List.mem_append.mp hc with hc | hc
  · rw [← Array.foldl_toList] at hc
    exact go _ _ h (fun c hc => by rw [List.mem_singleton.mp hc]; exact q3) c hc
  · rw [List.mem_singleton.mp hc]
    exact q3
theorem text_asc : ∀ (ts : List Str) (k : Nat) (acc : Str), Asc acc → (∀ t ∈ ts, Asc t) → Asc (textFrom k acc ts)
  | [], _, _, ha, _ => ha
  | t :: r, k, acc, ha, h => by
    refine text_asc r (k + 1) _ ((ha.app ?_).app (h t List.mem_cons_self)) fun u hu => h u (List.mem_cons_of_mem _ hu)
    split
    · exact (by decide +kernel : Asc (", " : Str))
    · exact (by decide +kernel : Asc ("" : Str))
theorem list_asc {ts : List Str} (h : ∀ t ∈ ts, Asc t) : Asc (listText ts) := (text_asc ts 0 _ (by decide +kernel : Asc ("[" : Str)) h).app (by decide +kernel : Asc ("]" : Str))
theorem shownAll_strs : ∀ zs : List Str, PyData.shownAll (zs.map .str) = zs.map reprText
  | [] => by simp [PyData.shownAll]
  | z :: r => by
    rw [List.map_cons, List.map_cons, PyData.shownAll, shownAll_strs r, PyData.shown]
theorem name_asc {z : Str} (h : nameT z = true) : Asc z := fun c hc => abc_lt c (name_signs h c hc)
theorem str_asc {z : Str} (h : Asc z) : Asc (PyData.shown (.str z)) := by
  rw [PyData.shown]
  exact repr_asc h
theorem names_asc {zs : List Str} (h : ∀ z ∈ zs, nameT z = true) : Asc (PyData.shown (.list (zs.map .str))) := by
  rw [PyData.shown, shownAll_strs]
  refine list_asc fun t ht => ?_
  obtain ⟨z, hz, rfl⟩ := List.mem_map.mp ht
  exact repr_asc (name_asc (h z hz))
theorem one_asc {z : Str} (h : nameT z = true) : Asc (PyData.shown (.tuple [.str z])) := by
  have e : PyData.shown (.tuple [.str z]) = ("(" : Str) ++ reprText z ++ (",)" : Str) := by
    simp only [PyData.shown, PyData.shownAll]
    rfl
  rw [e]
  exact ((by decide +kernel : Asc ("(" : Str)).app (repr_asc (name_asc h))).app (by decide +kernel)
/-! ### lists of plain texts -/
theorem strs_self12 : ∀ l : List Str, PyData.eqvAll (l.map PyData.str) (l.map PyData.str) = true
  | [] => by simp [PyData.eqvAll]
  | x :: r => by
    rw [List.map_cons, PyData.eqvAll, strs_self12 r]
    have : PyData.eqv (.str x) (.str x) = true := by simp [PyData.eqv]
    rw [this]
    rfl
theorem list_self12 (l : List Str) : PyData.eqv (.list (l.map PyData.str)) (.list (l.map PyData.str)) = true := by
  have := strs_self12 l
  simp only [PyData.eqv]
  exact this
theorem shaped12 {l : List Str} (h : ∀ t ∈ l, Asc t) : SeqAt.shaped (.list (l.map PyData.str)) = true := by
  have c : PyData.canLayAll0 (l.map PyData.str) = true := by
    induction l with
    | nil => rfl
    | cons a r ih =>
      rw [List.map_cons, PyData.canLayAll0, ih fun t ht => h t (List.mem_cons_of_mem _ ht), PyData.canLay0, asc_ok (h a List.mem_cons_self)]
      rfl
  have d : PyData.depthAll (l.map PyData.str) ≤ 1 := by
    induction l with
    | nil => exact Nat.zero_le _
    | cons a r ih =>
      rw [List.map_cons]
      simp only [PyData.depthAll]
      have h1 : (PyData.str a).depth ≤ 0 := by simp only [PyData.depth]; omega
      have h2 := ih (fun t ht => h t (List.mem_cons_of_mem _ ht)) (by
        rw [List.map_cons, PyData.canLayAll0, Bool.and_eq_true] at c
        exact c.2)
      omega
  unfold SeqAt.shaped
  have ec : (PyData.list (l.map PyData.str)).canLay0 = true := by rw [PyData.canLay0]; exact c
  rw [ec, decide_eq_true (show (PyData.list (l.map PyData.str)).depth ≤ 64 by simp only [PyData.depth]; omega)]
  rfl
theorem strs_dp12 {K : PySem.W.Frag} {H : Hp} {x : Addr} {l : List Str} (h : H x = some (.lst (l.map V.str))) : Dp K H (.ref x) (.list (l.map PyData.str)) := .lst (.inl (.inl h)) (DpAll.strs l)
end Rc

namespace Rc
open PySem PySem.Spec PyProof.Rows L2
/-! ### a dict with a key of another kind: d[None] = v, d[("a",)] = v -/
section
variable {prog : Program} {w : World} {A : Around} {E : Value → Shared → Prop} {s : Shared}
theorem hash_none {Q : Int → Shared → Prop} (h : Q 0xFCA86420 { s with toks := s.toks + 1 }) : wpAny (model prog w) A (pyHash .none) Q E s := by
  have tT : s.TypeIs .none "NoneType" := rfl
  unfold pyHash
  unfold pyHashByItsType
  have hv : [Value.none].any Value.onHeap = false := rfl
  refine wpAny_bind ?_
  rw [cRoomFor, if_neg (by rw [hv]; exact Bool.false_ne_true)]; refine wpAny_pure ?_
  refine wpAny_bind (wpAny_specialOf tT PySem.F.slot_NoneType_hash.lookup ?_)
  show wpAny _ _ (if (some (Value.builtin "NoneType.__hash__") == some Value.none) = true then _ else _) Q E s
  rw [if_neg (by rw [beq_builtin_none]; exact Bool.false_ne_true)]
  refine wpAny_bind (wpAny_specialOf tT PySem.F.slot_NoneType_hash.lookup ?_)
  show wpAny _ _ (callSpecialIfBoundUnlessNone? .none "__hash__" _ >>= _) Q E s
  refine wpAny_bind (wpAny_callSpecialIfBoundUnlessNone?_slot tT PySem.F.slot_NoneType_hash
    (wpAny_call_entry PySem.F.slot_NoneType_hash tT PySem.F.entry_NoneType_hash
      (show wpAny _ _ (do ret (← mkInt 0xFCA86420)) _ _ s from wpAny_ret_mkInt ?_) (PySem.F.args_NoneType_hash_1 _)))
  show wpAny _ _ (if (decide (-(2 : Int) ^ 63 ≤ 0xFCA86420) && decide ((0xFCA86420 : Int) < 2 ^ 63)) = true then _ else _) Q E _
  rw [if_pos (by decide)]
  exact wpAny_pure h
/-- no key of the dict is like it -/
theorem find_none {d : Addr} {o : Obj} {es : Array DictEntry} {ep : Nat} {hk : Int} {Q : Option Nat → Shared → Prop} (ho : s.heap.get? d = some o) (hd : o.data = .dict es ep) (hs : ∀ e ∈ es, ∃ x t, e.key = .str x t) (h : Q none s) :
    wpAny (model prog w) A (dictFind d .none hk) Q E s := by
  have hall : ((Value.none :: (placesWithHash es.size (fun i => es[i]?.map (·.hash)) hk).filterMap fun i => es[i]?.map (·.key)).all carriedByValue) = true := by
    rw [List.all_cons, List.all_eq_true.mpr]
    · rfl
    · intro v hv
      obtain ⟨i, _, hi⟩ := List.mem_filterMap.mp hv
      cases he : es[i]? with
      | none => rw [he] at hi; cases hi
      | some e =>
        rw [he] at hi
        obtain rfl : e.key = v := by simpa using hi
        obtain ⟨x, t, ek⟩ := hs e (Array.mem_of_getElem? he)
        rw [ek]
        rfl
  unfold dictFind
  try with_reducible refine wpAny_holding ?_
  refine wpAny_bind (wpAny_dictEntries ho hd ?_)
  dsimp only
  rw [if_pos hall]
  refine wpAny_bind ?_
  refine wpAny_forIn_list _ (fun rest b s' => s' = s ∧ b = (none, ())) _ ?_ ?_ _ _ ⟨rfl, rfl⟩
  · rintro x rest b s' ⟨rfl, rfl⟩
    cases hex : es[x]? with
    | none => exact wpAny_pure ⟨rfl, rfl⟩
    | some e =>
      obtain ⟨y, t, ek⟩ := hs e (Array.mem_of_getElem? hex)
      dsimp only
      by_cases hh : (e.hash == hk) = true
      · rw [if_pos hh, ek]
        refine wpAny_bind (wpAny_dictEpoch ho hd (wpAny_bind (SeqAt.EqAt.str_none y t _ _ _ _ (wpAny_bind (wpAny_dictEpoch ho hd ?_)))))
        show wpAny _ _ (if (ep != ep) = true then _ else _) _ E _
        rw [if_neg (by simp)]
        simp only [Bool.false_eq_true, if_false]
        exact wpAny_bind (wpAny_rule (wpAny_pure ⟨rfl, rfl⟩))
      · rw [if_neg hh]
        exact wpAny_pure ⟨rfl, rfl⟩
  · rintro b s' ⟨rfl, rfl⟩
    exact wpAny_pure h
theorem tells_no {u : Value} {stored : List Value} {Q : Bool → Shared → Prop} (hq : ∀ Q' : Bool → Shared → Prop, Q' true s → wpAny (model prog w) A (eqIsQuiet 8 u) Q' E s) (hst : ∀ v ∈ stored, carriedByValue v = true) (h : Q false s) : wpAny (model prog w) A (tableMayTell u stored) Q E s := by
  unfold tableMayTell
  split
  · exact wpAny_pure h
  · refine wpAny_bind (hq _ ?_)
    simp only [Bool.not_true, Bool.false_eq_true, if_false]
    refine wpAny_bind ?_
    refine wpAny_forIn_list _ (fun rest r s' => s' = s ∧ r = (none, ()) ∧ ∀ v ∈ rest, carriedByValue v = true) _ ?_ ?_ _ _ ⟨rfl, rfl, hst⟩
    · rintro x rest r s' ⟨rfl, rfl, hr⟩
      rw [eqIsQuiet_byValue 8 (hr x List.mem_cons_self)]
      refine wpAny_bind (wpAny_pure ?_)
      simp only [Bool.not_true, Bool.false_eq_true, if_false]
      exact wpAny_pure ⟨rfl, rfl, fun v hv => hr v (List.mem_cons_of_mem _ hv)⟩
    · rintro r s' ⟨rfl, rfl, _⟩
      exact wpAny_pure h
theorem find_tup {d a : Addr} {o : Obj} {es : Array DictEntry} {ep : Nat} {hk : Int} {ks : List Key} {items : Array Value} {Q : Option Nat → Shared → Prop} (hu : A.units < cLine) (hkey : (tupleKind (mixKind prog w)).is s.heap ks a) (hT : IsTup s.heap a items)
    (ho : s.heap.get? d = some o) (hd : o.data = .dict es ep) (hs : ∀ e ∈ es, ∃ x t, e.key = .str x t) (h : Q none s) : wpAny (model prog w) A (dictFind d (.ref a) hk) Q E s := by
  have hany : ¬ (es.any fun e => e.key == Value.ref a && e.hash != hk) = true := by
    rw [← Array.any_toList, List.any_eq_true]
    rintro ⟨e, hin, hc⟩
    obtain ⟨x, t, ek⟩ := hs e (Array.mem_toList_iff.mp hin)
    rw [ek] at hc
    simp at hc
  have hst : ∀ v ∈ (placesWithHash es.size (fun i => es[i]?.map (·.hash)) hk).filterMap (fun i => es[i]?.map (·.key)), carriedByValue v = true := by
    intro v hv
    obtain ⟨i, _, hi⟩ := List.mem_filterMap.mp hv
    cases hei : es[i]? with
    | none => rw [hei] at hi; cases hi
    | some e =>
      rw [hei] at hi
      obtain rfl : e.key = v := by simpa using hi
      obtain ⟨x, t, ek⟩ := hs e (Array.mem_of_getElem? hei)
      rw [ek]
      rfl
  unfold dictFind
  try with_reducible refine wpAny_holding ?_
  refine wpAny_bind (wpAny_dictEntries ho hd ?_)
  dsimp only
  rw [if_neg (show ¬ ((Value.ref a :: (placesWithHash es.size (fun i => es[i]?.map (·.hash)) hk).filterMap (fun i => es[i]?.map (·.key))).all carriedByValue) = true by simp [carriedByValue])]
  rw [if_neg hany]
  by_cases hone : (((placesWithHash es.size (fun i => es[i]?.map (·.hash)) hk).filterMap (fun i => es[i]?.map (·.key))) == [Value.ref a]) = true <;>
  (first | rw [if_pos hone] | rw [if_neg hone]) <;> (first | refine wpAny_bind (wpAny_pure ?_) | refine wpAny_bind (tells_no (fun Q' q => (tupleKind (mixKind prog w)).quiet hkey q) hst ?_)) <;> (
    rw [if_neg (by simp)]
    refine wpAny_bind ?_
    refine wpAny_forIn_list _ (fun rest b s' => s' = s ∧ b = (none, none)) _ ?_ ?_ _ _ ⟨rfl, rfl⟩
    · rintro x rest b s' ⟨rfl, rfl⟩
      cases hex : es[x]? with
      | none => exact wpAny_pure ⟨rfl, rfl⟩
      | some e =>
        obtain ⟨y, t, ek⟩ := hs e (Array.mem_of_getElem? hex)
        dsimp only
        by_cases hh : (e.hash == hk) = true
        · rw [if_pos hh, ek]
          refine wpAny_bind (wpAny_dictEpoch ho hd (wpAny_bind (SeqAt.EqAt.str_tuple y t hT hu _ _ _ _ (wpAny_bind (wpAny_dictEpoch ho hd ?_)))))
          show wpAny _ _ (if (ep != ep) = true then _ else _) _ E _
          rw [if_neg (by simp)]
          simp only [Bool.false_eq_true, if_false]
          refine wpAny_bind (wpAny_rule ?_)
          first | rw [if_neg (by simp)] | skip
          first
            | exact wpAny_pure ⟨rfl, rfl⟩
            | exact wpAny_bind (wpAny_pure (wpAny_pure ⟨rfl, rfl⟩))
        · rw [if_neg hh]
          exact wpAny_pure ⟨rfl, rfl⟩
    · rintro b s' ⟨rfl, rfl⟩
      exact wpAny_pure h)
theorem set_raw {d : Addr} {o : Obj} {es : Array DictEntry} {ep n : Nat} {u r : Value} {hk : Int} {Q : Unit → Shared → Prop} (hu : A.units + 1 < cLine) (ho : s.heap.get? d = some o) (hc : o.ExactDict) (hd : o.data = .dict es ep) (hz : es.size ≤ sizeLine)
    (hash : ∀ (A' : Around) (E' : Value → Shared → Prop) (Q' : Int → Shared → Prop), A'.units < cLine → Q' hk { s with toks := s.toks + n } → wpAny (model prog w) A' (pyHash u) Q' E' s)
    (find : ∀ (A' : Around) (E' : Value → Shared → Prop) (Q' : Option Nat → Shared → Prop), A'.units < cLine → Q' none { s with toks := s.toks + n } → wpAny (model prog w) A' (dictFind d u hk) Q' E' { s with toks := s.toks + n })
    (hQ : ∀ h', (∃ o', h'.get? d = some o' ∧ o'.ExactDict ∧ o'.data = .dict (es.push ⟨hk, u, r⟩) (ep + 1)) → Heap.SameBut d s.heap h' → Q () { s with heap := h', toks := s.toks + n }) :
    wpAny (model prog w) A (setItem (.ref d) u r) Q E s := by
  have hT : s.TypeIs (.ref d) "dict" := ⟨o, ho, hc.1⟩
  have hr : A.in1.units < cLine := tupleKind_room_in1 (knd := mixKind prog w) hu
  unfold setItem
  try with_reducible refine wpAny_holding ?_
  refine wpAny_bind (wpAny_sequenceKey hT (by decide) ?_)
  refine wpAny_bind (wpAny_callSpecial?_slot (name := Str.ofString "__setitem__") hT slot_dict_setitem
    (wpAny_call_entry slot_dict_setitem hT entry_dict_setitem ?_ (args_dict_setitem _ _ _)))
  show wpAny _ _ (Builtin.Dict.notOrdered "__setitem__" ⟨[.ref d, u, r], []⟩ >>= _) _ _ s
  refine wpAny_bind (wpAny_notOrdered_dict hT ?_)
  show wpAny _ _ (dictSet d u r >>= _) _ _ s
  refine wpAny_bind ?_
  unfold dictSet
  try with_reducible refine wpAny_holding ?_
  refine wpAny_bind (hash _ _ _ hr ?_)
  unfold dictSetHashed
  try with_reducible refine wpAny_holding ?_
  refine wpAny_bind (find _ _ _ hr ?_)
  refine wpAny_bind (wpAny_rule (wpAny_updateDictKeys (hz := hz) (s := { s with toks := s.toks + n }) ho hd ?_))
  exact wpAny_pure ⟨.none, rfl, wpAny_pure (hQ _ ⟨_, Heap.get?_update_self _ ho (Obj.isFreed_of_dict (Obj.data_mapDictKeys hd _)), hc.mapDictKeys _, Obj.data_mapDictKeys hd _⟩ (Heap.SameBut.update ..))⟩
end
/-! as a thing of the heap -/
def MxAt (d : Addr) (ks vs : List V) (h : Heap) : Prop := (d == sysModules) = false ∧ ks.length ≤ sizeLine ∧ ∃ o es ep, h.get? d = some o ∧ o.ExactDict ∧ o.data = .dict es ep ∧ Vals ks (es.toList.map (·.key)) ∧ Vals vs (es.toList.map (·.val))
def dMx (d : Addr) (ks vs : List V) : HO := .ext (MxAt d ks vs)
theorem mx_ok {P : Program} {w : World} {H : Hp} {h : Heap} {d : Addr} {ks vs : List V} (e : MxAt d ks vs h) : ObjOk P w H h d (dMx d ks vs) := by
  refine ⟨e, ?_, fun h1 h2 x k => ?_⟩
  · obtain ⟨_, _, o, _, _, e, _⟩ := e
    exact ⟨o, e⟩
  · obtain ⟨a, b, o, es, ep, ho, r⟩ := x
    exact ⟨a, b, o, es, ep, k o ho, r⟩
theorem mx_of {P : Program} {w : World} {H : Hp} {h : Heap} {d : Addr} {ks vs : List V} (ok : HOk P w H h) (e : H d = some (dMx d ks vs)) : MxAt d ks vs h := (show ObjOk P w H h d (dMx d ks vs) from ok d _ e).1
theorem vals_snoc {xs : List V} {us : List Value} {x : V} {u : Value} (h : Vals xs us) (r : RelV x u) : Vals (xs ++ [x]) (us ++ [u]) := h.append (.cons r .nil)
/-- a key of another kind -/
inductive Frn (H : Hp) : V → Prop
  | non : Frn H .non
  | tup {t : Addr} {x : Str} : H t = some (.tup [.str x]) → Frn H (.ref t)
/-- d[k] = v, k of another kind -/
def rSetM : TSet := fun o i v H Q => ∃ (d : Addr) (zs : List Str) (ws : List V), o = .ref d ∧ H d = some (.dK (dct zs ws)) ∧ zs.length = ws.length ∧ zs.length < 1000 ∧ Frn H i ∧ Q (upd H d (dMx d (zs.map V.str ++ [i]) (ws ++ [v])))
theorem dct_fst : ∀ {zs : List Str} {ws : List V}, zs.length = ws.length → (dct zs ws).map (fun p => kV p.1) = zs.map V.str ∧ (dct zs ws).map (·.2) = ws
  | [], [], _ => ⟨rfl, rfl⟩
  | z :: zs, w :: ws, h => by
    obtain ⟨a, b⟩ := dct_fst (zs := zs) (ws := ws) (by simpa using h)
    constructor
    · show V.str z :: (dct zs ws).map (fun p => kV p.1) = V.str z :: zs.map V.str
      rw [a]
    · show w :: (dct zs ws).map (·.2) = w :: ws
      rw [b]
  | [], _ :: _, h => by simp at h
  | _ :: _, [], h => by simp at h
theorem set_mx {X : Cx} (hu : X.A.units + 1 < cLine) : PSet X rSetM := by
  intro pins s σ H o i v ov iv u Q I ro ri rv h
  obtain ⟨d, zs, ws, rfl, e, lz, l1, fr, q⟩ := h
  obtain rfl : ov = Value.ref d := ro
  obtain ⟨z, hd, vs, rel, ob, es, ep, ho, hx, hdt, hk, hp, _⟩ := dk_of I.hok e
  obtain ⟨k1, k2⟩ := keys_rel hp rel
  obtain ⟨f1, f2⟩ := dct_fst lz
  rw [f1] at k1
  rw [f2] at k2
  have les : es.size = zs.length := by
    have := k1.length
    rw [List.length_map, List.length_map] at this
    simpa using this.symm
  have hs : ∀ e ∈ es, ∃ x t, e.key = Value.str x t := fun e he => by
    have hm : e.key ∈ es.toList.map (·.key) := List.mem_map.mpr ⟨e, Array.mem_toList_iff.mpr he, rfl⟩
    obtain ⟨j, hj⟩ := List.mem_iff_getElem?.mp hm
    have hjl : j < (zs.map V.str).length := by
      rw [k1.length]
      exact (List.getElem?_eq_some_iff.mp hj).1
    obtain ⟨u', e1, r1⟩ := k1.get (List.getElem?_eq_getElem hjl)
    rw [hj] at e1
    cases e1
    rw [List.getElem_map] at r1
    obtain ⟨t, e2⟩ := r1
    exact ⟨_, t, e2⟩
  have line : es.size ≤ sizeLine := by rw [les]; exact small_line (by omega)
  have fin : ∀ (hk' : Int) (h' : Heap) (t' : Nat), (∃ o', h'.get? d = some o' ∧ o'.ExactDict ∧ o'.data = .dict (es.push ⟨hk', iv, u⟩) (ep + 1)) → Heap.SameBut d s.heap h' →
      (fun _ s' => ∃ H', Inv X pins σ H' s' ∧ Q H') () { s with heap := h', toks := t' } := fun hk' h' t' ⟨o', e1, e2, e3⟩ sb => by
    refine ⟨_, d_write I (by rw [e]; exact True.intro) sb ⟨o', e1⟩ (mx_ok ⟨hd, ?_, o', _, _, e1, e2, e3, ?_, ?_⟩), q⟩
    · rw [List.length_append, List.length_map]
      exact small_line (show zs.length + 1 ≤ 1000 by omega)
    · rw [Array.toList_push, List.map_append]
      exact vals_snoc k1 ri
    · rw [Array.toList_push, List.map_append]
      exact vals_snoc k2 rv
  cases fr with
  | non =>
    obtain rfl : iv = Value.none := ri
    exact set_raw (n := 1) hu ho hx hdt line (fun A' E' Q' _ q' => hash_none q') (fun A' E' Q' _ q' => find_none (s := { s with toks := s.toks + 1 }) ho hdt hs q') fun h' a b => fin _ h' _ a b
  | @tup t x hT =>
    obtain rfl : iv = Value.ref t := ri
    have hkey : (tupleKind (mixKind X.prog X.w)).is s.heap [Sum.inr x] t := key_of (ks := [Sum.inr x]) I.hok hT
    obtain ⟨_, its, _, hI⟩ := (show ObjOk X.prog X.w H s.heap t (.tup [.str x]) from I.hok t _ hT)
    exact set_raw hu ho hx hdt line (fun A' E' Q' hu' q' => (tupleKind (mixKind X.prog X.w)).pyHash hu' hkey q') (fun A' E' Q' hu' q' => find_tup (s := { s with toks := _ }) hu' hkey hI ho hdt hs q') fun h' a b => fin _ h' _ a b
end Rc

namespace Rc
open PySem PySem.Spec PyProof.Rows L2 RZ
/-! ### isinstance(d, dict), len(d), repr(d) of such a one -/
section
variable {prog : Program} {w : World} {A : Around} {E : Value → Shared → Prop} {s : Shared}
theorem meets_len_raw {d : Addr} {n : Nat} (hd : (d == sysModules) = false) :
    MeetsIn prog w (Builtin.«dict.__len__» ⟨[.ref d], []⟩) (fun _ R s => (∃ o es ep, s.heap.get? d = some o ∧ o.data = .dict es ep ∧ es.size = n) ∧ R (.ok (.ret (.int n s.toks))) { s with toks := s.toks + 1 }) :=
  .of_wp fun A R s ⟨⟨o, es, ep, ho, hdat, hn⟩, h⟩ => by
    show wpAny _ _ (dictSize d >>= _) _ _ s
    unfold dictSize
    refine wpAny_bind (wpAny_bind (wpAny_dictEntries ho hdat (wpAny_pure ?_)))
    show wpAny _ _ (Builtin.Dict.pendingCount d >>= _) _ _ s
    refine wpAny_bind (wpAny_pendingCount_other hd ?_)
    refine wpAny_ret_mkInt ?_
    rw [Nat.add_zero, hn]; exact h
theorem len_body_raw {d : Addr} {o : Obj} {es : Array DictEntry} {ep : Nat} {Q : Value → Shared → Prop} (hd : (d == sysModules) = false) (ho : s.heap.get? d = some o) (hc : o.ExactDict) (hdat : o.data = .dict es ep) (hfit : (es.size : Int) < 2 ^ 63)
    (h : Q (.int es.size (s.toks + 1)) { s with toks := s.toks + 1 + 1 }) : wpAny (model prog w) A (Builtin.«len» ⟨[.ref d], []⟩) (fun fin s' => ∃ r, fin = .done (.ret r) ∧ Q r s') E s := by
  have hT : s.TypeIs (.ref d) "dict" := ⟨o, ho, hc.1⟩
  unfold Builtin.«len»
  refine wpAny_bind (m := oneArg "len" _) (wpAny_pure ?_)
  refine wpAny_bind (m := callSpecial? (.ref d) (Str.ofString "__len__")) (wpAny_callSpecial?_slot (name := Str.ofString "__len__") hT PySem.F.slot_dict_len
    (call_meetsIn PySem.F.slot_dict_len hT PySem.F.entry_dict_len (PySem.F.args_dict_len_1 _) (meets_len_raw (n := es.size) hd) ⟨⟨o, es, ep, ho, hdat, rfl⟩, ?_⟩))
  show wpAny _ _ _ _ _ { s with toks := s.toks + 1 }
  refine wpAny_bind (wpAny_holding (wpAny_pure ?_))
  refine wpAny_bind (wpAny_letGo ?_)
  show wpAny _ _ (if ((es.size : Nat) : Int) < 0 then _ else _) _ _ _
  rw [if_neg (by omega)]
  show wpAny _ _ (if ((es.size : Nat) : Int) ≥ 2 ^ 63 then _ else _) _ _ _
  rw [if_neg (by omega)]
  exact wpAny_bind (wpAny_mkInt (wpAny_pure ⟨_, rfl, h⟩))
theorem call_len_raw {d : Addr} {o : Obj} {es : Array DictEntry} {ep : Nat} {Q : Value → Shared → Prop} (hd : (d == sysModules) = false) (ho : s.heap.get? d = some o) (hc : o.ExactDict) (hdat : o.data = .dict es ep) (hfit : (es.size : Int) < 2 ^ 63)
    (h : Q (.int es.size (s.toks + 1)) { s with toks := s.toks + 1 + 1 }) : wpAny (model prog w) A (call (.builtin "len") [.ref d]) Q E s :=
  Calls.call_function_entry kind_len plain_len entry_len (args_len1 _) (len_body_raw hd ho hc hdat hfit h)
end
section
variable {X : Cx}
def rIsiM (K : PySem.W.Frag) : List V → Hp → VK → Prop := fun xs H Q => rIsi K xs H Q ∨ ∃ (d : Addr) (ks vs : List V), xs = [.ref d, .ty "dict"] ∧ H d = some (dMx d ks vs) ∧ Q (.bl true) H
theorem call_isiM : CallR X (.builtin "isinstance") (rIsiM X.K) := by
  intro pins s σ H xs us Q I r h
  rcases h with h | ⟨d, ks, vs, rfl, hd, q⟩
  · exact call_isi pins s σ H xs us Q I r h
  · obtain ⟨u1, u2, rfl, r1, r2⟩ := vals2 r
    obtain rfl : u1 = Value.ref d := r1
    obtain rfl : u2 = Value.type "dict" := r2
    obtain ⟨_, _, o, es, ep, ho, hc, _⟩ := mx_of I.hok hd
    exact PySem.W.kia_one PySem.W.kitx_dict I.kIn ⟨o, ho, hc.1⟩ (kit_ty (a := "dict") (b := "dict") (r := true) (by decide +kernel)) (fun z => nomatch z) fun tk => ⟨.bl true, H, I.tok tk, rfl, q⟩
def rLenM : List V → Hp → VK → Prop := fun xs H Q => (∃ a kvs, xs = [V.ref a] ∧ H a = some (.dK kvs) ∧ Q (.int kvs.length) H) ∨ ∃ (d : Addr) (ks vs : List V), xs = [.ref d] ∧ H d = some (dMx d ks vs) ∧ Q (.int ks.length) H
theorem call_lenM : CallR X (.builtin "len") rLenM := by
  intro pins s σ H xs us Q I r h
  rcases h with h | ⟨d, ks, vs, rfl, hd, q⟩
  · exact call_lenD pins s σ H xs us Q I r h
  · obtain ⟨u, rfl, ru⟩ := vals1 r
    obtain rfl : u = Value.ref d := ru
    obtain ⟨hs, hl, o, es, ep, ho, hc, hdt, k1, k2⟩ := mx_of I.hok hd
    have e1 : es.size = ks.length := by
      have := k1.length
      rw [List.length_map] at this
      simpa using this.symm
    have hn := line63
    refine call_len_raw hs ho hc hdt (by omega) ?_
    rw [e1]
    exact ⟨.int ks.length, H, I.kept (t' := s.toks + 1 + 1) fun _ _ z => z, ⟨_, rfl⟩, q⟩
/-- [..], the new one not where modules stand -/
def tLstN (t : TA) : TE := fun σ H Q => t σ H fun xs H1 => xs.length ≤ sizeLine ∧ ∀ a, H1 a = none → a ≠ sysModules → Q (.ref a) (upd H1 a (.lst xs))
theorem sys_fresh {pins : List (Addr × Obj)} {σ : L2.St} {H : Hp} {s : Shared} (I : Inv X pins σ H s) : s.heap.objs.size ≠ sysModules := by
  have := I.big
  intro e
  rw [e] at this
  exact absurd this (by decide)
theorem pe_lstN {es : List Expr} {t : TA} {pos : Pos} (h : PA X es t) : PE X (.List es pos) (tLstN t) := by
  refine ⟨fun pins s σ H Q I hq => ?_⟩
  refine wpAny_List_spliced (thn (h.run pos pins s σ H _ I hq) fun us s1 ⟨xs, H1, I1, r, z, q⟩ => ⟨by rw [← r.length]; exact z, ?_⟩)
  have hf : H1 s1.heap.objs.size = none := I1.hok.fresh (Nat.le_refl _)
  refine ⟨.ref s1.heap.objs.size, upd H1 s1.heap.objs.size (.lst xs), I1.laid (t' := s1.toks) (fun b u e => Heap.get?_push_of_some _ e) (Nat.le_refl _) ?_, rfl, q _ hf (sys_fresh I1)⟩
  exact ⟨z, us, 0, r, Heap.get?_push_size _ rfl⟩
end
/-- flat, or a list or a tuple of such -/
inductive FlV (H : Hp) : V → PyData → Prop
  | flat {v : V} {d : PyData} : Flat v d → FlV H v d
  | lst {a : Addr} {xs : List V} {ds : List PyData} : H a = some (.lst xs) → a ≠ sysModules → Flats xs ds → FlV H (.ref a) (.list ds)
  | tup {a : Addr} {xs : List V} {ds : List PyData} : H a = some (.tup xs) → Flats xs ds → FlV H (.ref a) (.tuple ds)
inductive FlVs (H : Hp) : List V → List PyData → Prop
  | nil : FlVs H [] []
  | cons {v : V} {d : PyData} {vs : List V} {ds : List PyData} : FlV H v d → FlVs H vs ds → FlVs H (v :: vs) (d :: ds)
theorem FlV.keep {H H' : Hp} {v : V} {d : PyData} (h : FlV H v d) (k : ∀ c o, H c = some o → ((∃ xs, o = .lst xs) ∨ ∃ xs, o = .tup xs) → H' c = some o) : FlV H' v d := by
  cases h with
  | flat f => exact .flat f
  | lst e n f => exact .lst (k _ _ e (.inl ⟨_, rfl⟩)) n f
  | tup e f => exact .tup (k _ _ e (.inr ⟨_, rfl⟩)) f
theorem FlVs.keep {H H' : Hp} : ∀ {vs : List V} {ds : List PyData}, FlVs H vs ds → (∀ c o, H c = some o → ((∃ xs, o = .lst xs) ∨ ∃ xs, o = .tup xs) → H' c = some o) → FlVs H' vs ds
  | _, _, .nil, _ => .nil
  | _, _, .cons a b, k => .cons (a.keep k) (b.keep k)
theorem dts_flat {K : PySem.W.Frag} {H : Hp} : ∀ {vs : List V} {ds : List PyData}, Flats vs ds → DtAll K H vs ds
  | _, _, .nil => .nil
  | _, _, .cons f r => by
    refine .cons ?_ (dts_flat r)
    cases f with
    | non => exact .non
    | bl b => exact .bl b
    | int i => exact .int i
    | str x => exact .str x
theorem FlV.dt {K : PySem.W.Frag} {H : Hp} {v : V} {d : PyData} (h : FlV H v d) : Dt K H v d := by
  cases h with
  | flat f =>
    cases f with
    | non => exact .non
    | bl b => exact .bl b
    | int i => exact .int i
    | str x => exact .str x
  | lst e n f => exact .lst (.inl (.inl e)) (dts_flat f)
  | tup e f => exact .tup (.inl (.inl e)) (dts_flat f)
theorem FlV.reads {X : Cx} {pins : List (Addr × Obj)} {σ : L2.St} {H : Hp} {s : Shared} (I : Inv X pins σ H s) {v : V} {d : PyData} {u : Value} (h : FlV H v d) (r : RelV v u) : ∃ as, Reads s.heap u d as ∧ sysModules ∉ as := by
  cases h with
  | flat f => exact ⟨_, f.reads r, by simp⟩
  | @lst a xs ds e n f =>
    obtain rfl : u = Value.ref a := r
    obtain ⟨_, its, k, rv, ho⟩ := (show ObjOk X.prog X.w H s.heap a (.lst xs) from I.hok a _ e)
    exact ⟨_, .list ho rfl rfl (f.reads rv), fun z => n ((List.mem_singleton.mp (by simpa using z)).symm)⟩
  | @tup a xs ds e f =>
    obtain rfl : u = Value.ref a := r
    obtain ⟨_, its, rv, o, h1, h2, k, h3⟩ := (show ObjOk X.prog X.w H s.heap a (.tup xs) from I.hok a _ e)
    exact ⟨_, .tuple h1 h2 h3 (f.reads rv), by simp⟩
theorem FlVs.reads {X : Cx} {pins : List (Addr × Obj)} {σ : L2.St} {H : Hp} {s : Shared} (I : Inv X pins σ H s) : ∀ {vs : List V} {ds : List PyData} {us : List Value}, FlVs H vs ds → Vals vs us → ∃ as, ReadsAll s.heap us ds as ∧ sysModules ∉ as
  | _, _, _, .nil, .nil => ⟨_, .nil, by simp⟩
  | _, _, _, .cons a b, .cons r1 r2 => by
    obtain ⟨as, q1, n1⟩ := a.reads I r1
    obtain ⟨bs, q2, n2⟩ := FlVs.reads I b r2
    exact ⟨_, .cons q1 q2, fun z => (List.mem_append.mp z).elim n1 n2⟩
/-- a dict of any kind: its keys, its values -/
def AnyD (H : Hp) (d : Addr) (ks vs : List V) : Prop := H d = some (dMx d ks vs) ∨ ∃ kvs : List (Key × V), H d = some (.dK kvs) ∧ ks = kvs.map (fun p => kV p.1) ∧ vs = kvs.map (·.2)
theorem AnyD.same {H H' : Hp} {d : Addr} {ks vs : List V} (h : AnyD H d ks vs) (e : ∀ o, H d = some o → H' d = some o) : AnyD H' d ks vs := by
  rcases h with h | ⟨kvs, h, r⟩
  · exact .inl (e _ h)
  · exact .inr ⟨kvs, e _ h, r⟩
section
variable {X : Cx}
theorem any_raw {pins : List (Addr × Obj)} {σ : L2.St} {H : Hp} {s : Shared} (I : Inv X pins σ H s) {d : Addr} {ks vs : List V} (h : AnyD H d ks vs) : MxAt d ks vs s.heap := by
  rcases h with h | ⟨kvs, h, rfl, rfl⟩
  · exact mx_of I.hok h
  · obtain ⟨z, hd, ws, rel, ob, es, ep, ho, hx, hdt, hk, hp, _⟩ := dk_of I.hok h
    obtain ⟨k1, k2⟩ := keys_rel hp rel
    exact ⟨hd, by rw [List.length_map]; exact z, ob, es, ep, ho, hx, hdt, k1, k2⟩
def rReprG (K : PySem.W.Frag) : List V → Hp → VK → Prop := fun xs H Q => rRepr K xs H Q ∨ ∃ (d : Addr) (ks vs : List V) (ps : List (PyData × PyData)), xs = [.ref d] ∧ AnyD H d ks vs ∧ FlVs H ks (ps.map (·.1)) ∧ FlVs H vs (ps.map (·.2)) ∧ (PyData.dict ps).showable = true ∧ (PyData.dict ps).depth ≤ 20 ∧ (PyData.dict ps).shown.length ≤ sizeLine ∧ Q (.str (PyData.dict ps).shown) H
theorem call_reprG {k : Nat} (hr : Room k X.A) (hg : X.A.guards = some []) : CallR X (.builtin "repr") (rReprG X.K) := by
  intro pins s σ H xs us Q I r h
  rcases h with h | ⟨d, ks, vs, ps, rfl, ad, fk, fv, sh, dp, hz, q⟩
  · exact call_repr hr hg pins s σ H xs us Q I r h
  · obtain ⟨u, rfl, ru⟩ := vals1 r
    obtain rfl : u = Value.ref d := ru
    obtain ⟨hs, _, o, es, ep, ho, hc, hdt, k1, k2⟩ := any_raw I ad
    obtain ⟨as, r1, n1⟩ := fk.reads I k1
    obtain ⟨bs, r2, n2⟩ := fv.reads I k2
    have hu := hr.units
    refine repr_of_reads' (.dict ho hc.1 hdt r1 r2) sh (fun _ z => ?_) hg (by omega) (fun _ _ e => e) (fun h' t tk hk => ⟨.str _, H, I.kept hk, ⟨t, rfl⟩, q⟩) hz
    rcases List.mem_append.mp z with z | z
    · rcases List.mem_cons.mp z with z | z
      · rw [← z] at hs
        simp at hs
      · exact n1 z
    · exact n2 z
end
end Rc

namespace Rc
open PySem PySem.Spec PyProof.Rows L2
/-! ### a dict of text keys and one key of another kind behind them: none, True, 5 or ("a",) -/
/-- the key of another kind -/
inductive Fk | non | tru | num | tup (x : Str)
deriving DecidableEq
def fkIs : Fk → Value → Bool
  | .non, .none => true
  | .tru, .bool true => true
  | .num, .int i _ => i == 5
  | _, _ => false
def Fk.hash (P : Program) (w : World) : Fk → Int
  | .non => 0xFCA86420
  | .tru => 1
  | .num => hashInt 5
  | .tup x => (tupleKind (mixKind P w)).hash [Sum.inr x]
section
variable {prog : Program} {w : World} {A : Around} {E : Value → Shared → Prop} {s : Shared}
theorem hash_true {Q : Int → Shared → Prop} (h : Q 1 { s with toks := s.toks + 1 }) : wpAny (model prog w) A (pyHash (.bool true)) Q E s := by
  have tT : s.TypeIs (.bool true) "bool" := rfl
  unfold pyHash
  unfold pyHashByItsType
  have hv : [Value.bool true].any Value.onHeap = false := rfl
  refine wpAny_bind ?_
  rw [cRoomFor, if_neg (by rw [hv]; exact Bool.false_ne_true)]; refine wpAny_pure ?_
  refine wpAny_bind (wpAny_specialOf tT PySem.F.slot_bool_hash.lookup ?_)
  show wpAny _ _ (if (some (Value.builtin "int.__hash__") == some Value.none) = true then _ else _) Q E s
  rw [if_neg (by rw [beq_builtin_none]; exact Bool.false_ne_true)]
  refine wpAny_bind (wpAny_specialOf tT PySem.F.slot_bool_hash.lookup ?_)
  show wpAny _ _ (callSpecialIfBoundUnlessNone? (.bool true) "__hash__" _ >>= _) Q E s
  refine wpAny_bind (wpAny_callSpecialIfBoundUnlessNone?_slot tT PySem.F.slot_bool_hash
    (wpAny_call_entry PySem.F.slot_bool_hash tT PySem.F.entry_int_hash
      (show wpAny _ _ (do ret (← mkInt (rawHash 1))) _ _ s from wpAny_ret_mkInt ?_) (PySem.F.args_int_hash_1 _)))
  show wpAny _ _ (if (decide (-(2 : Int) ^ 63 ≤ rawHash 1) && decide (rawHash 1 < 2 ^ 63)) = true then _ else _) Q E _
  rw [show rawHash 1 = 1 by decide +kernel]
  rw [if_pos (by decide)]
  exact wpAny_pure h
/-- the keys with the same hash: just the one at j is like it -/
theorem find_gen {d : Addr} {o : Obj} {es : Array DictEntry} {ep : Nat} {hk : Int} {u : Value} {jo : Option Nat} {Q : Option Nat → Shared → Prop} (hu : (∃ x t, u = .str x t) ∨ (∃ a, u = .ref a) ∨ u = .none ∨ u = .bool true ∨ ∃ i t, u = .int i t) (ho : s.heap.get? d = some o) (hd : o.data = .dict es ep)
    (nx : ∀ x t, u = .str x t → (es.all fun e => isExactStrKey e.key) = false)
    (hj : ∀ j, jo = some j → ∃ e, es[j]? = some e ∧ e.hash = hk)
    (eqs : ∀ i e, es[i]? = some e → e.hash = hk → ∀ (E' : Value → Shared → Prop) (Q' : Bool → Shared → Prop), Q' (decide (jo = some i)) s → wpAny (model prog w) A (eqBool e.key u) Q' E' s)
    (qu : ∀ (E' : Value → Shared → Prop) (Q' : Bool → Shared → Prop), Q' true s → wpAny (model prog w) A (eqIsQuiet 8 u) Q' E' s)
    (qs : ∀ e ∈ es, ∀ (E' : Value → Shared → Prop) (Q' : Bool → Shared → Prop), Q' true s → wpAny (model prog w) A (eqIsQuiet 8 e.key) Q' E' s)
    (nc : ∀ a, u = .ref a → ∀ e ∈ es, e.key = .ref a → e.hash = hk)
    (h : Q jo s) : wpAny (model prog w) A (dictFind d u hk) Q E s := by
  generalize hpl : placesWithHash es.size (fun i => es[i]?.map (·.hash)) hk = places
  have hmem : ∀ i ∈ places, ∃ e, es[i]? = some e ∧ e.hash = hk := fun i hi => by
    rw [← hpl] at hi
    unfold placesWithHash at hi
    obtain ⟨_, h2⟩ := List.mem_filter.mp hi
    replace h2 : (es[i]?.map (·.hash) == some hk) = true := h2
    cases he : es[i]? with
    | none => rw [he] at h2; simp at h2
    | some e => rw [he] at h2; exact ⟨e, rfl, by simpa using h2⟩
  have hnd : places.Nodup := by
    rw [← hpl]
    unfold placesWithHash
    exact List.Pairwise.filter _ List.nodup_range
  have hin : ∀ j, jo = some j → j ∈ places := fun j ej => by
    obtain ⟨e, he, hh⟩ := hj j ej
    rw [← hpl]
    unfold placesWithHash
    refine List.mem_filter.mpr ⟨List.mem_range.mpr (Array.getElem?_eq_some_iff.mp he).1, ?_⟩
    show (es[j]?.map (·.hash) == some hk) = true
    rw [he, Option.map_some, hh]
    simp
  have plain : wpAny (model prog w) A (dictWalkPlain d u hk es places) Q E s := by
    unfold dictWalkPlain
    refine wpAny_bind ?_
    refine wpAny_forIn_list _ (fun rest b s' => s' = s ∧ b = (none, ()) ∧ (∀ i ∈ rest, i ∈ places) ∧ ∀ j, jo = some j → j ∈ rest) _ ?_ ?_ _ _ ⟨rfl, rfl, fun _ h => h, hin⟩
    · rintro x rest b s' ⟨rfl, rfl, hp, hjr⟩
      obtain ⟨e, he, hh⟩ := hmem x (hp x List.mem_cons_self)
      simp only [he]
      rw [if_pos (by rw [hh]; simp)]
      refine wpAny_bind (wpAny_dictEpoch ho hd (wpAny_bind (eqs x e he hh _ _ (wpAny_bind (wpAny_dictEpoch ho hd ?_)))))
      show wpAny _ _ (if (ep != ep) = true then _ else _) _ E _
      rw [if_neg (by simp)]
      by_cases c : jo = some x
      · rw [decide_eq_true c]
        rw [c] at h
        exact wpAny_bind (wpAny_rule (wpAny_pure (wpAny_pure h)))
      · rw [decide_eq_false c]
        exact wpAny_bind (wpAny_rule (wpAny_pure ⟨rfl, rfl, fun i hi => hp i (List.mem_cons_of_mem _ hi), fun j ej => (List.mem_cons.mp (hjr j ej)).resolve_left fun e' => c (e' ▸ ej)⟩))
    · rintro b s' ⟨rfl, rfl, _, hjr⟩
      cases jo with
      | none => exact wpAny_pure h
      | some j => exact absurd (hjr j rfl) (by simp)
  have tells0 : ∀ (E' : Value → Shared → Prop) (Q' : Bool → Shared → Prop), Q' false s → wpAny (model prog w) A (tableMayTell u (places.filterMap fun i => es[i]?.map (·.key))) Q' E' s := fun E' Q' q => by
    unfold tableMayTell
    split
    · exact wpAny_pure q
    · refine wpAny_bind (qu _ _ ?_)
      simp only [Bool.not_true, Bool.false_eq_true, if_false]
      refine wpAny_bind ?_
      refine wpAny_forIn_list _ (fun rest r s' => s' = s ∧ r = (none, ()) ∧ ∀ v ∈ rest, ∃ e ∈ es, e.key = v) _ ?_ ?_ _ _ ⟨rfl, rfl, fun v hv => ?_⟩
      · rintro x rest r s' ⟨rfl, rfl, hr⟩
        obtain ⟨e, he, rfl⟩ := hr x List.mem_cons_self
        refine wpAny_bind (qs e he _ _ ?_)
        simp only [Bool.not_true, Bool.false_eq_true, if_false]
        exact wpAny_pure ⟨rfl, rfl, fun v hv => hr v (List.mem_cons_of_mem _ hv)⟩
      · rintro r s' ⟨rfl, rfl, _⟩
        exact wpAny_pure q
      · obtain ⟨i, _, hi⟩ := List.mem_filterMap.mp hv
        obtain ⟨e, he, ek⟩ := Option.map_eq_some_iff.mp hi
        exact ⟨e, Array.mem_of_getElem? he, ek⟩
  have nany : ∀ a, u = .ref a → ¬ (es.any fun e => e.key == u && e.hash != hk) = true := by
    intro a ea
    rw [← Array.any_toList, List.any_eq_true]
    rintro ⟨e, hin', hc⟩
    rw [Bool.and_eq_true] at hc
    have e1 : e.key = u := by simpa using hc.1
    have e2 := nc a ea e (Array.mem_toList_iff.mp hin') (e1.trans ea)
    have := hc.2
    rw [e2] at this
    simp at this
  have nstr : ∀ x t, u = .str x t → ¬ (es.all fun e => isExactStrKey e.key) = true := fun x t ex => by rw [nx x t ex]; exact Bool.false_ne_true
  unfold dictFind
  try with_reducible refine wpAny_holding ?_
  refine wpAny_bind (wpAny_dictEntries ho hd ?_)
  rcases hu with ⟨x, t, rfl⟩ | ⟨a, rfl⟩ | rfl | rfl | ⟨n, t, rfl⟩
  · dsimp only
    rw [if_neg (nstr x t rfl), hpl]
    by_cases call : ((Value.str x t :: places.filterMap fun i => es[i]?.map (·.key)).all carriedByValue) = true
    · rw [if_pos call]
      exact plain
    · rw [if_neg call]
      by_cases hone : ((places.filterMap fun i => es[i]?.map (·.key)) == [Value.str x t]) = true <;>
      (first | rw [if_pos hone] | rw [if_neg hone]) <;> (first | refine wpAny_bind (wpAny_pure ?_) | refine wpAny_bind (tells0 _ _ ?_)) <;> (
        rw [if_neg (by simp)]
        refine wpAny_bind ?_
        refine wpAny_forIn_list _ (fun rest b s' => s' = s ∧ b.1 = none ∧ (∀ i ∈ rest, i ∈ places) ∧ rest.Nodup ∧ ((b.2 = none ∧ ∀ j, jo = some j → j ∈ rest) ∨ (b.2 = jo ∧ ∀ j, jo = some j → j ∉ rest))) _ ?_ ?_ _ _ ⟨rfl, rfl, fun _ h => h, hnd, .inl ⟨rfl, hin⟩⟩
        · rintro i rest ⟨b1, b2⟩ s' ⟨rfl, hb1, hp, nd, hb⟩
          obtain rfl : b1 = none := hb1
          obtain ⟨e, he, hh⟩ := hmem i (hp i List.mem_cons_self)
          have nd' := List.nodup_cons.mp nd
          simp only [he]
          rw [if_pos (by rw [hh]; simp)]
          refine wpAny_bind (wpAny_dictEpoch ho hd (wpAny_bind (eqs i e he hh _ _ (wpAny_bind (wpAny_dictEpoch ho hd ?_)))))
          show wpAny _ _ (if (ep != ep) = true then _ else _) _ E _
          rw [if_neg (by simp)]
          by_cases c : jo = some i
          · rw [decide_eq_true c]
            have e2 : b2 = none := hb.elim (fun h => h.1) fun h => absurd List.mem_cons_self (h.2 i c)
            subst e2
            rw [c] at h
            simp only [if_true, Option.isSome_none, Bool.false_eq_true, if_false]
            refine wpAny_bind (wpAny_rule ?_)
            split
            · exact wpAny_pure (wpAny_pure h)
            · exact wpAny_pure ⟨rfl, rfl, fun i hi => hp i (List.mem_cons_of_mem _ hi), nd'.2, .inr ⟨c.symm, fun j ej => by rw [c] at ej; cases ej; exact nd'.1⟩⟩
          · rw [decide_eq_false c]
            simp only [Bool.false_eq_true, if_false]
            refine wpAny_bind (wpAny_rule ?_)
            simp only [Bool.false_and, Bool.false_eq_true, if_false]
            refine wpAny_pure ⟨rfl, rfl, fun i hi => hp i (List.mem_cons_of_mem _ hi), nd'.2, ?_⟩
            rcases hb with ⟨h1, h2⟩ | ⟨h1, h2⟩
            · exact .inl ⟨h1, fun j ej => (List.mem_cons.mp (h2 j ej)).resolve_left fun e' => c (e' ▸ ej)⟩
            · exact .inr ⟨h1, fun j ej hr => h2 j ej (List.mem_cons_of_mem _ hr)⟩
        · rintro ⟨b1, b2⟩ s' ⟨rfl, hb1, hp, nd, hb⟩
          obtain rfl : b1 = none := hb1
          have e2 : b2 = jo := hb.elim (fun h => by
            cases jo with
            | none => exact h.1
            | some j => exact absurd (h.2 j rfl) (by simp)) fun h => h.1
          subst e2
          exact wpAny_pure h)
  · dsimp only
    rw [hpl]
    rw [if_neg (show ¬ ((Value.ref a :: places.filterMap fun i => es[i]?.map (·.key)).all carriedByValue) = true by simp [carriedByValue])]
    rw [if_neg (nany a rfl)]
    by_cases hone : ((places.filterMap fun i => es[i]?.map (·.key)) == [Value.ref a]) = true <;>
    (first | rw [if_pos hone] | rw [if_neg hone]) <;> (first | refine wpAny_bind (wpAny_pure ?_) | refine wpAny_bind (tells0 _ _ ?_)) <;> (
      rw [if_neg (by simp)]
      refine wpAny_bind ?_
      refine wpAny_forIn_list _ (fun rest b s' => s' = s ∧ b.1 = none ∧ (∀ i ∈ rest, i ∈ places) ∧ rest.Nodup ∧ ((b.2 = none ∧ ∀ j, jo = some j → j ∈ rest) ∨ (b.2 = jo ∧ ∀ j, jo = some j → j ∉ rest))) _ ?_ ?_ _ _ ⟨rfl, rfl, fun _ h => h, hnd, .inl ⟨rfl, hin⟩⟩
      · rintro i rest ⟨b1, b2⟩ s' ⟨rfl, hb1, hp, nd, hb⟩
        obtain rfl : b1 = none := hb1
        obtain ⟨e, he, hh⟩ := hmem i (hp i List.mem_cons_self)
        have nd' := List.nodup_cons.mp nd
        simp only [he]
        rw [if_pos (by rw [hh]; simp)]
        refine wpAny_bind (wpAny_dictEpoch ho hd (wpAny_bind (eqs i e he hh _ _ (wpAny_bind (wpAny_dictEpoch ho hd ?_)))))
        show wpAny _ _ (if (ep != ep) = true then _ else _) _ E _
        rw [if_neg (by simp)]
        by_cases c : jo = some i
        · rw [decide_eq_true c]
          have e2 : b2 = none := hb.elim (fun h => h.1) fun h => absurd List.mem_cons_self (h.2 i c)
          subst e2
          rw [c] at h
          simp only [if_true, Option.isSome_none, Bool.false_eq_true, if_false]
          refine wpAny_bind (wpAny_rule ?_)
          split
          · exact wpAny_pure (wpAny_pure h)
          · exact wpAny_pure ⟨rfl, rfl, fun i hi => hp i (List.mem_cons_of_mem _ hi), nd'.2, .inr ⟨c.symm, fun j ej => by rw [c] at ej; cases ej; exact nd'.1⟩⟩
        · rw [decide_eq_false c]
          simp only [Bool.false_eq_true, if_false]
          refine wpAny_bind (wpAny_rule ?_)
          simp only [Bool.false_and, Bool.false_eq_true, if_false]
          refine wpAny_pure ⟨rfl, rfl, fun i hi => hp i (List.mem_cons_of_mem _ hi), nd'.2, ?_⟩
          rcases hb with ⟨h1, h2⟩ | ⟨h1, h2⟩
          · exact .inl ⟨h1, fun j ej => (List.mem_cons.mp (h2 j ej)).resolve_left fun e' => c (e' ▸ ej)⟩
          · exact .inr ⟨h1, fun j ej hr => h2 j ej (List.mem_cons_of_mem _ hr)⟩
      · rintro ⟨b1, b2⟩ s' ⟨rfl, hb1, hp, nd, hb⟩
        obtain rfl : b1 = none := hb1
        have e2 : b2 = jo := hb.elim (fun h => by
          cases jo with
          | none => exact h.1
          | some j => exact absurd (h.2 j rfl) (by simp)) fun h => h.1
        subst e2
        exact wpAny_pure h)
  · dsimp only
    rw [hpl]
    by_cases call : ((Value.none :: places.filterMap fun i => es[i]?.map (·.key)).all carriedByValue) = true
    · rw [if_pos call]
      exact plain
    · rw [if_neg call]
      by_cases hone : ((places.filterMap fun i => es[i]?.map (·.key)) == [Value.none]) = true <;>
      (first | rw [if_pos hone] | rw [if_neg hone]) <;> (first | refine wpAny_bind (wpAny_pure ?_) | refine wpAny_bind (tells0 _ _ ?_)) <;> (
        rw [if_neg (by simp)]
        refine wpAny_bind ?_
        refine wpAny_forIn_list _ (fun rest b s' => s' = s ∧ b.1 = none ∧ (∀ i ∈ rest, i ∈ places) ∧ rest.Nodup ∧ ((b.2 = none ∧ ∀ j, jo = some j → j ∈ rest) ∨ (b.2 = jo ∧ ∀ j, jo = some j → j ∉ rest))) _ ?_ ?_ _ _ ⟨rfl, rfl, fun _ h => h, hnd, .inl ⟨rfl, hin⟩⟩
        · rintro i rest ⟨b1, b2⟩ s' ⟨rfl, hb1, hp, nd, hb⟩
          obtain rfl : b1 = none := hb1
          obtain ⟨e, he, hh⟩ := hmem i (hp i List.mem_cons_self)
          have nd' := List.nodup_cons.mp nd
          simp only [he]
          rw [if_pos (by rw [hh]; simp)]
          refine wpAny_bind (wpAny_dictEpoch ho hd (wpAny_bind (eqs i e he hh _ _ (wpAny_bind (wpAny_dictEpoch ho hd ?_)))))
          show wpAny _ _ (if (ep != ep) = true then _ else _) _ E _
          rw [if_neg (by simp)]
          by_cases c : jo = some i
          · rw [decide_eq_true c]
            have e2 : b2 = none := hb.elim (fun h => h.1) fun h => absurd List.mem_cons_self (h.2 i c)
            subst e2
            rw [c] at h
            simp only [if_true, Option.isSome_none, Bool.false_eq_true, if_false]
            refine wpAny_bind (wpAny_rule ?_)
            split
            · exact wpAny_pure (wpAny_pure h)
            · exact wpAny_pure ⟨rfl, rfl, fun i hi => hp i (List.mem_cons_of_mem _ hi), nd'.2, .inr ⟨c.symm, fun j ej => by rw [c] at ej; cases ej; exact nd'.1⟩⟩
          · rw [decide_eq_false c]
            simp only [Bool.false_eq_true, if_false]
            refine wpAny_bind (wpAny_rule ?_)
            simp only [Bool.false_and, Bool.false_eq_true, if_false]
            refine wpAny_pure ⟨rfl, rfl, fun i hi => hp i (List.mem_cons_of_mem _ hi), nd'.2, ?_⟩
            rcases hb with ⟨h1, h2⟩ | ⟨h1, h2⟩
            · exact .inl ⟨h1, fun j ej => (List.mem_cons.mp (h2 j ej)).resolve_left fun e' => c (e' ▸ ej)⟩
            · exact .inr ⟨h1, fun j ej hr => h2 j ej (List.mem_cons_of_mem _ hr)⟩
        · rintro ⟨b1, b2⟩ s' ⟨rfl, hb1, hp, nd, hb⟩
          obtain rfl : b1 = none := hb1
          have e2 : b2 = jo := hb.elim (fun h => by
            cases jo with
            | none => exact h.1
            | some j => exact absurd (h.2 j rfl) (by simp)) fun h => h.1
          subst e2
          exact wpAny_pure h)
  · dsimp only
    rw [hpl]
    by_cases call : (((Value.bool true) :: places.filterMap fun i => es[i]?.map (·.key)).all carriedByValue) = true
    · rw [if_pos call]
      exact plain
    · rw [if_neg call]
      by_cases hone : ((places.filterMap fun i => es[i]?.map (·.key)) == [Value.bool true]) = true <;>
      (first | rw [if_pos hone] | rw [if_neg hone]) <;> (first | refine wpAny_bind (wpAny_pure ?_) | refine wpAny_bind (tells0 _ _ ?_)) <;> (
        rw [if_neg (by simp)]
        refine wpAny_bind ?_
        refine wpAny_forIn_list _ (fun rest b s' => s' = s ∧ b.1 = none ∧ (∀ i ∈ rest, i ∈ places) ∧ rest.Nodup ∧ ((b.2 = none ∧ ∀ j, jo = some j → j ∈ rest) ∨ (b.2 = jo ∧ ∀ j, jo = some j → j ∉ rest))) _ ?_ ?_ _ _ ⟨rfl, rfl, fun _ h => h, hnd, .inl ⟨rfl, hin⟩⟩
        · rintro i rest ⟨b1, b2⟩ s' ⟨rfl, hb1, hp, nd, hb⟩
          obtain rfl : b1 = none := hb1
          obtain ⟨e, he, hh⟩ := hmem i (hp i List.mem_cons_self)
          have nd' := List.nodup_cons.mp nd
          simp only [he]
          rw [if_pos (by rw [hh]; simp)]
          refine wpAny_bind (wpAny_dictEpoch ho hd (wpAny_bind (eqs i e he hh _ _ (wpAny_bind (wpAny_dictEpoch ho hd ?_)))))
          show wpAny _ _ (if (ep != ep) = true then _ else _) _ E _
          rw [if_neg (by simp)]
          by_cases c : jo = some i
          · rw [decide_eq_true c]
            have e2 : b2 = none := hb.elim (fun h => h.1) fun h => absurd List.mem_cons_self (h.2 i c)
            subst e2
            rw [c] at h
            simp only [if_true, Option.isSome_none, Bool.false_eq_true, if_false]
            refine wpAny_bind (wpAny_rule ?_)
            split
            · exact wpAny_pure (wpAny_pure h)
            · exact wpAny_pure ⟨rfl, rfl, fun i hi => hp i (List.mem_cons_of_mem _ hi), nd'.2, .inr ⟨c.symm, fun j ej => by rw [c] at ej; cases ej; exact nd'.1⟩⟩
          · rw [decide_eq_false c]
            simp only [Bool.false_eq_true, if_false]
            refine wpAny_bind (wpAny_rule ?_)
            simp only [Bool.false_and, Bool.false_eq_true, if_false]
            refine wpAny_pure ⟨rfl, rfl, fun i hi => hp i (List.mem_cons_of_mem _ hi), nd'.2, ?_⟩
            rcases hb with ⟨h1, h2⟩ | ⟨h1, h2⟩
            · exact .inl ⟨h1, fun j ej => (List.mem_cons.mp (h2 j ej)).resolve_left fun e' => c (e' ▸ ej)⟩
            · exact .inr ⟨h1, fun j ej hr => h2 j ej (List.mem_cons_of_mem _ hr)⟩
        · rintro ⟨b1, b2⟩ s' ⟨rfl, hb1, hp, nd, hb⟩
          obtain rfl : b1 = none := hb1
          have e2 : b2 = jo := hb.elim (fun h => by
            cases jo with
            | none => exact h.1
            | some j => exact absurd (h.2 j rfl) (by simp)) fun h => h.1
          subst e2
          exact wpAny_pure h)
  · dsimp only
    rw [hpl]
    by_cases call : ((Value.int n t :: places.filterMap fun i => es[i]?.map (·.key)).all carriedByValue) = true
    · rw [if_pos call]
      exact plain
    · rw [if_neg call]
      by_cases hone : ((places.filterMap fun i => es[i]?.map (·.key)) == [Value.int n t]) = true <;>
      (first | rw [if_pos hone] | rw [if_neg hone]) <;> (first | refine wpAny_bind (wpAny_pure ?_) | refine wpAny_bind (tells0 _ _ ?_)) <;> (
        rw [if_neg (by simp)]
        refine wpAny_bind ?_
        refine wpAny_forIn_list _ (fun rest b s' => s' = s ∧ b.1 = none ∧ (∀ i ∈ rest, i ∈ places) ∧ rest.Nodup ∧ ((b.2 = none ∧ ∀ j, jo = some j → j ∈ rest) ∨ (b.2 = jo ∧ ∀ j, jo = some j → j ∉ rest))) _ ?_ ?_ _ _ ⟨rfl, rfl, fun _ h => h, hnd, .inl ⟨rfl, hin⟩⟩
        · rintro i rest ⟨b1, b2⟩ s' ⟨rfl, hb1, hp, nd, hb⟩
          obtain rfl : b1 = none := hb1
          obtain ⟨e, he, hh⟩ := hmem i (hp i List.mem_cons_self)
          have nd' := List.nodup_cons.mp nd
          simp only [he]
          rw [if_pos (by rw [hh]; simp)]
          refine wpAny_bind (wpAny_dictEpoch ho hd (wpAny_bind (eqs i e he hh _ _ (wpAny_bind (wpAny_dictEpoch ho hd ?_)))))
          show wpAny _ _ (if (ep != ep) = true then _ else _) _ E _
          rw [if_neg (by simp)]
          by_cases c : jo = some i
          · rw [decide_eq_true c]
            have e2 : b2 = none := hb.elim (fun h => h.1) fun h => absurd List.mem_cons_self (h.2 i c)
            subst e2
            rw [c] at h
            simp only [if_true, Option.isSome_none, Bool.false_eq_true, if_false]
            refine wpAny_bind (wpAny_rule ?_)
            split
            · exact wpAny_pure (wpAny_pure h)
            · exact wpAny_pure ⟨rfl, rfl, fun i hi => hp i (List.mem_cons_of_mem _ hi), nd'.2, .inr ⟨c.symm, fun j ej => by rw [c] at ej; cases ej; exact nd'.1⟩⟩
          · rw [decide_eq_false c]
            simp only [Bool.false_eq_true, if_false]
            refine wpAny_bind (wpAny_rule ?_)
            simp only [Bool.false_and, Bool.false_eq_true, if_false]
            refine wpAny_pure ⟨rfl, rfl, fun i hi => hp i (List.mem_cons_of_mem _ hi), nd'.2, ?_⟩
            rcases hb with ⟨h1, h2⟩ | ⟨h1, h2⟩
            · exact .inl ⟨h1, fun j ej => (List.mem_cons.mp (h2 j ej)).resolve_left fun e' => c (e' ▸ ej)⟩
            · exact .inr ⟨h1, fun j ej hr => h2 j ej (List.mem_cons_of_mem _ hr)⟩
        · rintro ⟨b1, b2⟩ s' ⟨rfl, hb1, hp, nd, hb⟩
          obtain rfl : b1 = none := hb1
          have e2 : b2 = jo := hb.elim (fun h => by
            cases jo with
            | none => exact h.1
            | some j => exact absurd (h.2 j rfl) (by simp)) fun h => h.1
          subst e2
          exact wpAny_pure h)
end
section
variable {prog : Program} {w : World} {A : Around} {E : Value → Shared → Prop} {s : Shared}
theorem get_raw {d : Addr} {o : Obj} {es : Array DictEntry} {ep n j : Nat} {u : Value} {e : DictEntry} {hk : Int} {Q : Value → Shared → Prop} (hu : A.units + 1 < cLine) (ho : s.heap.get? d = some o) (hc : o.ExactDict) (hd : o.data = .dict es ep) (he : es[j]? = some e)
    (hash : ∀ (A' : Around) (E' : Value → Shared → Prop) (Q' : Int → Shared → Prop), A'.units < cLine → Q' hk { s with toks := s.toks + n } → wpAny (model prog w) A' (pyHash u) Q' E' s)
    (find : ∀ (A' : Around) (E' : Value → Shared → Prop) (Q' : Option Nat → Shared → Prop), A'.units < cLine → Q' (some j) { s with toks := s.toks + n } → wpAny (model prog w) A' (dictFind d u hk) Q' E' { s with toks := s.toks + n })
    (hQ : Q e.val { s with toks := s.toks + n }) :
    wpAny (model prog w) A (getItem (.ref d) u) Q E s := by
  have hT : s.TypeIs (.ref d) "dict" := ⟨o, ho, hc.1⟩
  have hr : A.in1.units < cLine := tupleKind_room_in1 (knd := mixKind prog w) hu
  unfold getItem
  try with_reducible refine wpAny_holding ?_
  refine wpAny_bind (wpAny_sequenceKey hT (by decide) ?_)
  refine wpAny_bind (wpAny_callSpecial?_slot (name := Str.ofString "__getitem__") hT slot_dict_getitem
    (wpAny_call_entry slot_dict_getitem hT entry_dict_getitem ?_ (args_dict_getitem _ _)))
  show wpAny _ _ (dictGet d u >>= _) _ _ s
  refine wpAny_bind ?_
  unfold dictGet
  try with_reducible refine wpAny_holding ?_
  refine wpAny_bind (hash _ _ _ hr (wpAny_bind (find _ _ _ hr ?_)))
  refine wpAny_bind (wpAny_dictEntries (s := { s with toks := s.toks + n }) ho hd (wpAny_pure ?_))
  rw [he]
  exact wpAny_pure ⟨_, rfl, wpAny_pure hQ⟩
end
/-! as a thing of the heap -/
def TxtE (w : World) (es : Array DictEntry) (zs : List Str) : Prop := es.size = zs.length ∧ ∀ (i : Nat) (z : Str), zs[i]? = some z → ∃ e t, es[i]? = some e ∧ e.key = .str z t ∧ e.hash = hashStr w z
def MyAt (P : Program) (w : World) (d : Addr) (zs : List Str) (ws : List V) (f : Fk) (v r : V) (h : Heap) : Prop :=
  (d == sysModules) = false ∧ zs.length < 1000 ∧ zs.Nodup ∧ ∃ (o : Obj) (es : Array DictEntry) (ep : Nat) (fv rv : Value), h.get? d = some o ∧ o.ExactDict ∧ o.data = .dict (es.push ⟨f.hash P w, fv, rv⟩) ep ∧ TxtE w es zs ∧ RelV v fv ∧ RelV r rv ∧ Vals ws (es.toList.map (·.val))
def dMy (P : Program) (w : World) (d : Addr) (zs : List Str) (ws : List V) (f : Fk) (v r : V) : HO := .ext (MyAt P w d zs ws f v r)
theorem my_ok {P : Program} {w : World} {H : Hp} {h : Heap} {d : Addr} {zs : List Str} {ws : List V} {f : Fk} {v r : V} (e : MyAt P w d zs ws f v r h) : ObjOk P w H h d (dMy P w d zs ws f v r) := by
  refine ⟨e, ?_, fun h1 h2 x k => ?_⟩
  · obtain ⟨_, _, _, o, _, _, _, _, e, _⟩ := e
    exact ⟨o, e⟩
  · obtain ⟨a, b, c, o, es, ep, fv, rv, ho, q⟩ := x
    exact ⟨a, b, c, o, es, ep, fv, rv, k o ho, q⟩
theorem my_of {P : Program} {w : World} {H : Hp} {h : Heap} {d : Addr} {zs : List Str} {ws : List V} {f : Fk} {v r : V} (ok : HOk P w H h) (e : Rd H d (dMy P w d zs ws f v r)) : MyAt P w d zs ws f v r h :=
  (show ObjOk P w H h d (dMy P w d zs ws f v r) from e.ok ok).1
/-- what stands for the key of another kind -/
inductive FkV (H : Hp) : Fk → V → Prop
  | non : FkV H .non .non
  | tru : FkV H .tru (.bl true)
  | num : FkV H .num (.int 5)
  | tup {t : Addr} {x : Str} : H t = some (.tup [.str x]) → FkV H (.tup x) (.ref t)
theorem FkV.keep {H H' : Hp} {f : Fk} {v : V} (h : FkV H f v) (k : ∀ c xs, H c = some (.tup xs) → H' c = some (.tup xs)) : FkV H' f v := by
  cases h with
  | non => exact .non
  | tru => exact .tru
  | num => exact .num
  | tup e => exact .tup (k _ _ e)
/-- its value, its hash, how it compares with a text and with itself -/
structure FkR (P : Program) (w : World) (s : Shared) (f : Fk) (u : Value) (n : Nat) : Prop where
  hash : ∀ (A' : Around) (E' : Value → Shared → Prop) (Q' : Int → Shared → Prop), A'.units < cLine → Q' (f.hash P w) { s with toks := s.toks + n } → wpAny (model P w) A' (pyHash u) Q' E' s
  ft : ∀ (tk : Nat) (A' : Around) (E' : Value → Shared → Prop) (Q' : Bool → Shared → Prop) (x : Str) (t : Tok), A'.units < cLine → Q' false { s with toks := tk } → wpAny (model P w) A' (eqBool u (.str x t)) Q' E' { s with toks := tk }
  tf : ∀ (tk : Nat) (A' : Around) (E' : Value → Shared → Prop) (Q' : Bool → Shared → Prop) (x : Str) (t : Tok), A'.units < cLine → Q' false { s with toks := tk } → wpAny (model P w) A' (eqBool (.str x t) u) Q' E' { s with toks := tk }
  ff : ∀ (tk : Nat) (A' : Around) (E' : Value → Shared → Prop) (Q' : Bool → Shared → Prop), A'.units < cLine → Q' true { s with toks := tk } → wpAny (model P w) A' (eqBool u u) Q' E' { s with toks := tk }
  qu : ∀ (tk : Nat) (A' : Around) (E' : Value → Shared → Prop) (Q' : Bool → Shared → Prop), Q' true { s with toks := tk } → wpAny (model P w) A' (eqIsQuiet 8 u) Q' E' { s with toks := tk }
  ns : isExactStrKey u = false
  nk : (∃ x t, u = .str x t) ∨ (∃ a, u = .ref a) ∨ u = .none ∨ u = .bool true ∨ ∃ i t, u = .int i t
theorem fkr {P : Program} {w : World} {H : Hp} {s : Shared} (ok : HOk P w H s.heap) {f : Fk} {v : V} {u : Value} (h : FkV H f v) (r : RelV v u) : ∃ n, FkR P w s f u n := by
  cases h with
  | non =>
    obtain rfl : u = Value.none := r
    refine ⟨1, fun A' E' Q' _ q => hash_none q, fun tk A' E' Q' x t _ q => SeqAt.EqAt.none_str x t _ _ _ _ q, fun tk A' E' Q' x t _ q => SeqAt.EqAt.str_none x t _ _ _ _ q, fun tk A' E' Q' _ q => ?_, fun tk A' E' Q' q => ?_, rfl, .inr (.inr (.inl rfl))⟩
    · unfold eqBool
      rw [if_pos (show (Value.none == Value.none) = true by simp)]
      exact wpAny_bind (wpAny_rule (wpAny_pure q))
    · rw [eqIsQuiet_byValue 8 (show carriedByValue Value.none = true from rfl)]
      exact wpAny_pure q
  | tru =>
    obtain rfl : u = Value.bool true := r
    refine ⟨1, fun A' E' Q' _ q => hash_true q, fun tk A' E' Q' x t _ q => SeqAt.EqAt.bool_str true x t _ _ _ _ q, fun tk A' E' Q' x t _ q => SeqAt.EqAt.str_bool x t true _ _ _ _ q, fun tk A' E' Q' _ q => SeqAt.EqAt.bool_bool true true _ _ _ _ q, fun tk A' E' Q' q => ?_, rfl, .inr (.inr (.inr (.inl rfl)))⟩
    rw [eqIsQuiet_byValue 8 (show carriedByValue (Value.bool true) = true from rfl)]
    exact wpAny_pure q
  | num =>
    obtain ⟨t, rfl⟩ := r
    refine ⟨1, fun A' E' Q' _ q => wpAny_pyHash_int q, fun tk A' E' Q' x t' _ q => SeqAt.EqAt.int_str 5 t x t' _ _ _ _ q, fun tk A' E' Q' x t' _ q => SeqAt.EqAt.str_int x t' 5 t _ _ _ _ q, fun tk A' E' Q' _ q => wpAny_eqBool_int q, fun tk A' E' Q' q => ?_, rfl, .inr (.inr (.inr (.inr ⟨_, _, rfl⟩)))⟩
    rw [eqIsQuiet_byValue 8 (show carriedByValue (Value.int 5 t) = true from rfl)]
    exact wpAny_pure q
  | @tup t x hT =>
    obtain rfl : u = Value.ref t := r
    have hkey : (tupleKind (mixKind P w)).is s.heap [Sum.inr x] t := key_of (ks := [Sum.inr x]) ok hT
    obtain ⟨_, its, _, hI⟩ := (show ObjOk P w H s.heap t (.tup [.str x]) from ok t _ hT)
    refine ⟨_, fun A' E' Q' hu q => (tupleKind (mixKind P w)).pyHash hu hkey q, fun tk A' E' Q' y t' hu q => SeqAt.EqAt.tuple_str (s := { s with toks := tk }) y t' hI hu _ _ _ _ q, fun tk A' E' Q' y t' hu q => SeqAt.EqAt.str_tuple (s := { s with toks := tk }) y t' hI hu _ _ _ _ q, fun tk A' E' Q' hu q => ?_, fun tk A' E' Q' q => (tupleKind (mixKind P w)).quiet (s := { s with toks := tk }) hkey q, rfl, .inr (.inl ⟨_, rfl⟩)⟩
    have := (tupleKind (mixKind P w)).eqBool (s := { s with toks := tk }) (A := A') (E := E') (Q := Q') hu hkey hkey
    refine this ?_
    simpa using q
section
variable {P : Program} {w : World} {A : Around} {E : Value → Shared → Prop} {s : Shared} {d : Addr} {o : Obj} {es : Array DictEntry} {ep n : Nat} {zs : List Str} {f : Fk} {u r : Value}
theorem TxtE.key (T : TxtE w es zs) {e : DictEntry} (he : e ∈ es) : ∃ z t, e.key = .str z t := by
  obtain ⟨i, hi, rfl⟩ := Array.mem_iff_getElem.mp he
  have hz := List.getElem?_eq_getElem (l := zs) (i := i) (by rw [← T.1]; exact hi)
  obtain ⟨e, t, e1, e2, _⟩ := T.2 i _ hz
  rw [Array.getElem?_eq_getElem hi] at e1
  cases e1
  exact ⟨_, t, e2⟩
theorem TxtE.at_ (T : TxtE w es zs) {i : Nat} {e : DictEntry} (he : es[i]? = some e) : ∃ z t, zs[i]? = some z ∧ e.key = .str z t ∧ e.hash = hashStr w z := by
  have hi : i < es.size := (Array.getElem?_eq_some_iff.mp he).1
  have hz := List.getElem?_eq_getElem (l := zs) (i := i) (by rw [← T.1]; exact hi)
  obtain ⟨e', t, e1, e2, e3⟩ := T.2 i _ hz
  rw [he] at e1
  cases e1
  exact ⟨_, t, hz, e2, e3⟩
/-- the key of another kind is not there -/
theorem find_non (R : FkR P w s f u n) (T : TxtE w es zs) (tk : Nat) {Q : Option Nat → Shared → Prop} (hu : A.units < cLine) (ho : s.heap.get? d = some o) (hd : o.data = .dict es ep) (h : Q none { s with toks := tk }) :
    wpAny (model P w) A (dictFind d u (f.hash P w)) Q E { s with toks := tk } := by
  refine find_gen (s := { s with toks := tk }) (jo := none) R.nk ho hd (fun x t e => by have := R.ns; rw [e] at this; cases this) (fun j e => by cases e) (fun i e he hh E' Q' q => ?_) (fun E' Q' q => R.qu tk _ _ _ q) (fun e he E' Q' q => ?_) (fun a ea e he ek => ?_) h
  · obtain ⟨z, t, _, ek, _⟩ := T.at_ he
    rw [ek]
    exact R.tf tk _ _ _ z t hu (by simpa using q)
  · obtain ⟨z, t, ek⟩ := T.key he
    rw [ek, eqIsQuiet_byValue (v := Value.str z t) 8 rfl]
    exact wpAny_pure q
  · obtain ⟨z, t, ek'⟩ := T.key he
    rw [ek'] at ek
    cases ek
theorem nd_inj {α : Type} : ∀ {l : List α} {i j : Nat} {x : α}, l.Nodup → l[i]? = some x → l[j]? = some x → i = j
  | l, i, j, x, nd, h1, h2 => by
    obtain ⟨a1, a2⟩ := List.getElem?_eq_some_iff.mp h1
    obtain ⟨b1, b2⟩ := List.getElem?_eq_some_iff.mp h2
    exact (List.getElem_inj nd).mp (a2.trans b2.symm)
/-- a text among them -/
theorem find_txt (R : FkR P w s f u n) (T : TxtE w es zs) (nd : zs.Nodup) {i : Nat} {z : Str} {t : Tok} (hz : zs[i]? = some z) (tk : Nat) {Q : Option Nat → Shared → Prop} (hu : A.units < cLine) (ho : s.heap.get? d = some o) (hd : o.data = .dict (es.push ⟨f.hash P w, u, r⟩) ep) (h : Q (some i) { s with toks := tk }) :
    wpAny (model P w) A (dictFind d (.str z t) (hashStr w z)) Q E { s with toks := tk } := by
  have hi : i < zs.length := (List.getElem?_eq_some_iff.mp hz).1
  refine find_gen (s := { s with toks := tk }) (jo := some i) (.inl ⟨z, t, rfl⟩) ho hd (fun x t e => ?_) (fun j e => ?_) (fun k e he hh E' Q' q => ?_) (fun E' Q' q => ?_) (fun e he E' Q' q => ?_) (fun a ea => nomatch ea) h
  · rw [Array.all_push, Bool.and_eq_false_iff]
    exact .inr R.ns
  · cases e
    obtain ⟨e, t', e1, e2, e3⟩ := T.2 i z hz
    exact ⟨e, by rw [Array.getElem?_push, if_neg (by rw [T.1]; omega)]; exact e1, e3⟩
  · rw [Array.getElem?_push] at he
    split at he
    · cases he
      refine R.ft tk _ _ _ z t hu ?_
      rw [decide_eq_false (fun c => by cases c; rename_i c'; rw [T.1] at c'; omega)] at q
      exact q
    · obtain ⟨z', t', hz', ek, _⟩ := T.at_ he
      rw [ek]
      refine wpAny_eqBool_str ?_
      have : decide (z' = z) = decide (some i = some k) := by
        by_cases c : i = k
        · subst c
          rw [hz] at hz'
          cases hz'
          simp
        · rw [decide_eq_false (fun e : z' = z => c (nd_inj nd hz (by rw [hz', e]))), decide_eq_false (fun e => c (Option.some.inj e))]
      rw [this]
      exact q
  · rw [eqIsQuiet_byValue (v := Value.str z t) 8 rfl]
    exact wpAny_pure q
  · rcases Array.mem_push.mp he with he | rfl
    · obtain ⟨z, t, ek⟩ := T.key he
      rw [ek, eqIsQuiet_byValue (v := Value.str z t) 8 rfl]
      exact wpAny_pure q
    · exact R.qu tk _ _ _ q
/-- the key of another kind -/
theorem find_frn {u' : Value} {m : Nat} (R : FkR P w s f u n) (R' : FkR P w s f u' m) (tw : ∀ (tk : Nat) (A' : Around) (E' : Value → Shared → Prop) (Q' : Bool → Shared → Prop), A'.units < cLine → Q' true { s with toks := tk } → wpAny (model P w) A' (eqBool u' u) Q' E' { s with toks := tk }) (T : TxtE w es zs) (tk : Nat) {Q : Option Nat → Shared → Prop} (hu : A.units < cLine) (ho : s.heap.get? d = some o) (hd : o.data = .dict (es.push ⟨f.hash P w, u', r⟩) ep) (h : Q (some es.size) { s with toks := tk }) :
    wpAny (model P w) A (dictFind d u (f.hash P w)) Q E { s with toks := tk } := by
  refine find_gen (s := { s with toks := tk }) (jo := some es.size) R.nk ho hd (fun x t e => by have := R.ns; rw [e] at this; cases this) (fun j e => ?_) (fun k e he hh E' Q' q => ?_) (fun E' Q' q => R.qu tk _ _ _ q) (fun e he E' Q' q => ?_) (fun a ea e he ek => ?_) h
  · cases e
    exact ⟨_, by rw [Array.getElem?_push, if_pos rfl], rfl⟩
  · rw [Array.getElem?_push] at he
    split at he
    · rename_i c
      cases he
      refine tw tk _ _ _ hu ?_
      rw [decide_eq_true (by rw [c])] at q
      exact q
    · rename_i c
      obtain ⟨z', t', hz', ek, _⟩ := T.at_ he
      rw [ek]
      refine R.tf tk _ _ _ z' t' hu ?_
      rw [decide_eq_false (fun e => c (Option.some.inj e).symm)] at q
      exact q
  · rcases Array.mem_push.mp he with he | rfl
    · obtain ⟨z, t, ek⟩ := T.key he
      rw [ek, eqIsQuiet_byValue (v := Value.str z t) 8 rfl]
      exact wpAny_pure q
    · exact R'.qu tk _ _ _ q
  · rcases Array.mem_push.mp he with he | rfl
    · obtain ⟨z, t, ek'⟩ := T.key he
      rw [ek'] at ek
      cases ek
    · rfl
end
/-! d[k] = v, k of another kind -/
def rSetY (P : Program) (w : World) : TSet := fun o i v H Q => ∃ (d : Addr) (zs : List Str) (ws : List V) (f : Fk), o = .ref d ∧ H d = some (.dK (dct zs ws)) ∧ zs.length = ws.length ∧ zs.length < 1000 ∧ zs.Nodup ∧ FkV H f i ∧ Q (upd H d (dMy P w d zs ws f i v))
theorem txt_of {P : Program} {w : World} {H : Hp} {h : Heap} {d : Addr} {zs : List Str} {ws : List V} (ok : HOk P w H h) (e : H d = some (.dK (dct zs ws))) (l1 : zs.length = ws.length) :
    (d == sysModules) = false ∧ ∃ (o : Obj) (es : Array DictEntry) (ep : Nat), h.get? d = some o ∧ o.ExactDict ∧ o.data = .dict es ep ∧ TxtE w es zs ∧ Vals ws (es.toList.map (·.val)) := by
  obtain ⟨z, hd, vs, rel, ob, es, ep, ho, hx, hdt, hk, hp, _⟩ := dk_of ok e
  obtain ⟨k1, k2⟩ := keys_rel hp rel
  obtain ⟨f1, f2⟩ := dct_fst l1
  rw [f1] at k1
  rw [f2] at k2
  have les : es.size = zs.length := by
    have := k1.length
    rw [List.length_map, List.length_map] at this
    simpa using this.symm
  refine ⟨hd, ob, es, ep, ho, hx, hdt, ⟨les, fun i z hz => ?_⟩, k2⟩
  have hzv : (zs.map V.str)[i]? = some (.str z) := by rw [List.getElem?_map, hz]; rfl
  obtain ⟨u, hu, ru⟩ := k1.get hzv
  rw [List.getElem?_map] at hu
  obtain ⟨en, hen, ek⟩ := Option.map_eq_some_iff.mp hu
  have hen' : es[i]? = some en := by rw [← Array.getElem?_toList]; exact hen
  obtain ⟨t, rt⟩ := ru
  have ek' : en.key = .str z t := ek.trans rt
  obtain ⟨k, hk1, hk2⟩ := hk en (Array.mem_of_getElem? hen')
  refine ⟨en, t, hen', ek', ?_⟩
  rw [hk2]
  rw [ek'] at hk1
  rcases keyIs_shape hk1 with ⟨i, t', rfl, e⟩ | ⟨x, t', rfl, e⟩
  · exact nomatch e
  · injection e with e1 _
    subst e1
    rfl
theorem set_my {X : Cx} (hu : X.A.units + 1 < cLine) : PSet X (rSetY X.prog X.w) := by
  intro pins s σ H o i v ov iv u Q I ro ri rv h
  obtain ⟨d, zs, ws, f, rfl, e, lz, l1, nd, fr, q⟩ := h
  obtain rfl : ov = Value.ref d := ro
  obtain ⟨hd, ob, es, ep, ho, hx, hdt, T, k2⟩ := txt_of I.hok e lz
  obtain ⟨n, R⟩ := fkr I.hok fr ri
  refine set_raw (n := n) hu ho hx hdt (by rw [T.1]; exact small_line (by omega)) (fun A' E' Q' hu q' => R.hash A' E' Q' hu q') (fun A' E' Q' hu q' => find_non R T _ hu ho hdt q') fun h' ⟨o', e1, e2, e3⟩ sb => ?_
  exact ⟨_, d_write I (by rw [e]; exact True.intro) sb ⟨o', e1⟩ (my_ok ⟨hd, l1, nd, o', es, _, _, _, e1, e2, e3, T, ri, rv, k2⟩), q⟩
/-! d[k] -/
theorem ff_two {P : Program} {w : World} {H : Hp} {s : Shared} (ok : HOk P w H s.heap) {f : Fk} {v : V} {u u' : Value} (h : FkV H f v) (r : RelV v u) (r' : RelV v u') (tk : Nat) (A' : Around) (E' : Value → Shared → Prop) (Q' : Bool → Shared → Prop) (hu : A'.units < cLine) (q : Q' true { s with toks := tk }) :
    wpAny (model P w) A' (eqBool u' u) Q' E' { s with toks := tk } := by
  cases id h with
  | num =>
    obtain ⟨t, rfl⟩ := r
    obtain ⟨t', rfl⟩ := r'
    exact wpAny_eqBool_int q
  | _ =>
    obtain rfl : u' = u := (show u' = _ from r').trans (show u = _ from r).symm
    obtain ⟨n, R⟩ := fkr ok h r
    exact R.ff tk _ _ _ hu q
/-- what it holds at a key -/
inductive YAt (H : Hp) (zs : List Str) (ws : List V) (f : Fk) (v r : V) : V → V → Prop
  | txt {i : Nat} {z : Str} {x : V} : FkV H f v → zs[i]? = some z → ws[i]? = some x → YAt H zs ws f v r (.str z) x
  | frn : FkV H f v → YAt H zs ws f v r v r
def tGetY (P : Program) (w : World) (td ty : TE) : TE := fun σ H Q => td σ H fun x H1 => ty σ H1 fun y H2 => ∃ (a : Addr) (v : V), x = .ref a ∧ (DGet H2 a y (some v) ∨ ∃ zs ws f k r, Rd H2 a (dMy P w a zs ws f k r) ∧ YAt H2 zs ws f k r y v) ∧ Q v H2
section
variable {X : Cx} {o i : Expr} {td ty : TE} {pos : Pos}
theorem pe_getY (hu : X.A.units + 1 < cLine) (ho : PE X o td) (hi : PE X i ty) (hs : NoSl i) : PE X (.Subscript o i pos) (tGetY X.prog X.w td ty) := by
  refine ⟨fun pins s σ H Q I h => ?_⟩
  refine subD_of PySem.F.slot_dict_getitem.lookup hs (thn (ho.run pins s σ H _ I h) fun u s1 ⟨x, H1, I1, rx, q1⟩ => thn (hi.run pins s1 σ H1 _ I1 q1) fun iv s2 ⟨y, H2, I2, ry, a, v, ex, g, q2⟩ => ?_)
  subst ex
  obtain rfl : u = Value.ref a := rx
  rcases g with g | ⟨zs, ws, f, k, r, rd, g⟩
  · exact ⟨dict_typeIs I2 g, d_getItem hu I2 g ry fun w' s3 I3 rw' => ⟨v, H2, I3, rw', q2⟩⟩
  · obtain ⟨hd, l1, nd, ob, es, ep, fv, rv, hob, hx, hdt, T, r1, r2, k2⟩ := my_of I2.hok rd
    refine ⟨⟨ob, hob, hx.1⟩, ?_⟩
    cases g with
    | @txt j z _ fk hz hw =>
      obtain ⟨t, rfl⟩ := ry
      obtain ⟨u, hu', ru⟩ := k2.get hw
      rw [List.getElem?_map] at hu'
      obtain ⟨en, hen, ev⟩ := Option.map_eq_some_iff.mp hu'
      have hen' : es[j]? = some en := by rw [← Array.getElem?_toList]; exact hen
      have hj : j < es.size := (Array.getElem?_eq_some_iff.mp hen').1
      obtain ⟨n, R⟩ := fkr I2.hok fk r1
      refine get_raw (n := 1) (j := j) (e := en) hu hob hx hdt (by rw [Array.getElem?_push, if_neg (by omega)]; exact hen') (fun A' E' Q' _ q' => wpAny_pyHash_str q') (fun A' E' Q' hu q' => find_txt R T nd hz _ hu hob hdt q') ?_
      rw [ev]
      exact ⟨v, H2, I2.tok _, ru, q2⟩
    | frn fk =>
      obtain ⟨n, R⟩ := fkr I2.hok fk ry
      obtain ⟨m, R'⟩ := fkr I2.hok fk r1
      exact get_raw (n := n) (j := es.size) hu hob hx hdt (by rw [Array.getElem?_push, if_pos rfl]) (fun A' E' Q' hu q' => R.hash A' E' Q' hu q') (fun A' E' Q' hu q' => find_frn R R' (ff_two I2.hok fk ry r1) T _ hu hob hdt q') ⟨_, H2, I2.tok _, r2, q2⟩
end
end Rc

namespace Rc
open PySem PySem.Spec PyProof.Rows L2
/-! ### a dict with a key of another kind: shown, walked by keys, walked by items -/
theorem vals_of : ∀ {xs : List V} {us : List Value}, xs.length = us.length → (∀ (i : Nat) (x : V), xs[i]? = some x → ∃ u, us[i]? = some u ∧ RelV x u) → Vals xs us
  | [], [], _, _ => .nil
  | x :: xs, u :: us, h, f => by
    obtain ⟨u', e, r⟩ := f 0 x rfl
    cases e
    exact .cons r (vals_of (by simpa using h) fun i y ey => by simpa using f (i + 1) y (by simpa using ey))
  | [], _ :: _, h, _ => by simp at h
  | _ :: _, [], h, _ => by simp at h
abbrev kyO (zs : List Str) (v : V) : List V := zs.map V.str ++ [v]
theorem my_mx {P : Program} {w : World} {d : Addr} {zs : List Str} {ws : List V} {f : Fk} {v r : V} {h : Heap} (x : MyAt P w d zs ws f v r h) : MxAt d (kyO zs v) (ws ++ [r]) h := by
  obtain ⟨hd, l1, nd, o, es, ep, fv, rv, ho, hx, hdt, T, r1, r2, k2⟩ := x
  refine ⟨hd, ?_, o, _, ep, ho, hx, hdt, ?_, ?_⟩
  · rw [List.length_append, List.length_map]
    exact small_line (show zs.length + 1 ≤ 1000 by omega)
  · rw [Array.toList_push, List.map_append]
    refine vals_snoc (vals_of (by rw [List.length_map, List.length_map, Array.length_toList]; exact T.1.symm) fun i x ex => ?_) r1
    rw [List.getElem?_map] at ex
    obtain ⟨z, hz, rfl⟩ := Option.map_eq_some_iff.mp ex
    obtain ⟨e, t, e1, e2, _⟩ := T.2 i z hz
    exact ⟨e.key, by rw [List.getElem?_map, Array.getElem?_toList, e1]; rfl, t, e2⟩
  · rw [Array.toList_push, List.map_append]
    exact vals_snoc k2 r2
def ItYk (P : Program) (w : World) (d : Addr) (o : Obj) (zs : List Str) (ws : List V) (f : Fk) (v r : V) : It :=
  ⟨fun i H => H d = some (.frz o (dMy P w d zs ws f v r)) ∧ i < (kyO zs v).length, fun i H x H' => H' = H ∧ (kyO zs v)[i]? = some x, fun i H => H d = some (.frz o (dMy P w d zs ws f v r)) ∧ (kyO zs v).length ≤ i⟩
def ItYi (P : Program) (w : World) (d : Addr) (o : Obj) (zs : List Str) (ws : List V) (f : Fk) (v r : V) : It :=
  ⟨fun i H => H d = some (.frz o (dMy P w d zs ws f v r)) ∧ i < (kyO zs v).length, fun i H x H' => ∃ T k y, (kyO zs v)[i]? = some k ∧ (ws ++ [r])[i]? = some y ∧ x = .ref T ∧ H T = none ∧ H' = upd H T (.tup [k, y]), fun i H => H d = some (.frz o (dMy P w d zs ws f v r)) ∧ (kyO zs v).length ≤ i⟩
section
variable {X : Cx} {pins : List (Addr × Obj)} {σ : L2.St} {H : Hp} {s : Shared} {d : Addr} {o : Obj} {zs : List Str} {ws : List V} {f : Fk} {v r : V}
theorem vals_at' : ∀ {xs : List V} {us : List Value} {i : Nat} {x : V}, Vals xs us → xs[i]? = some x → ∃ u, us[i]? = some u ∧ RelV x u
  | _, _, 0, _, .cons r _, e => by cases e; exact ⟨_, rfl, r⟩
  | _, _, i + 1, _, .cons _ h, e => vals_at' h (i := i) e
  | _, _, _, _, .nil, e => by cases e
theorem frzY (I : Inv X pins σ H s) (h : H d = some (.frz o (dMy X.prog X.w d zs ws f v r))) :
    (d == sysModules) = false ∧ s.heap.get? d = some o ∧ o.ExactDict ∧ ∃ (es : Array DictEntry) (ep : Nat), o.data = .dict es ep ∧ es.size = (kyO zs v).length ∧ Vals (kyO zs v) (es.toList.map (·.key)) ∧ Vals (ws ++ [r]) (es.toList.map (·.val)) := by
  obtain ⟨hd, q⟩ := I.hok d _ h
  obtain ⟨a, b, o', es, ep, e, hx, hdt, v1, v2⟩ := my_mx (my_of I.hok (.inr ⟨_, h⟩))
  rw [hd] at e
  cases e
  refine ⟨a, hd, hx, es, ep, hdt, ?_, v1, v2⟩
  have := v1.length
  rw [List.length_map, Array.length_toList] at this
  exact this.symm
end
section
variable {P : Program} {w : World} {K : PySem.W.Frag} {tg : Expr} {d : Addr} {o : Obj} {es : Array DictEntry} {ep : Nat} {zs : List Str} {ws : List V} {f : Fk} {v r : V}
theorem turn_keysY (it : Addr) (hod : o.data = .dict es ep) : Turn P w K tg (ItYk P w d o zs ws f v r) [it] it (fun i h => h.IsKeyIter it d i (kyO zs v).length ep) where
  mem := by simp
  obj := fun i h st b hb => by
    have e : b = it := by simpa using hb
    subst e
    obtain ⟨oi, e, c, dd⟩ := st
    exact ⟨oi, e, fun v z => by rw [dd] at z; cases z⟩
  keep := fun i h h' st k => st.at fun oi e => k it (by simp) oi e
  item := by
    intro X hP hw hK hc i pins s σ H E I hf st hg
    subst hP hw hK
    obtain ⟨hd, hi⟩ := hg
    obtain ⟨f0, f1, f2, f3, f4, f5⟩ := hf it (by simp)
    obtain ⟨hs, hgd, hx, es', ep', hdt, hsz, v1, v2⟩ := frzY I hd
    obtain ⟨rfl, rfl⟩ := dict_ep hod hdt
    have ex : (kyO zs v)[i]? = some (kyO zs v)[i] := List.getElem?_eq_getElem hi
    obtain ⟨u, hu, ru⟩ := vals_at' v1 ex
    rw [List.getElem?_map] at hu
    obtain ⟨en, hen, ek⟩ := Option.map_eq_some_iff.mp hu
    have hen' : es'[i]? = some en := by rw [← Array.getElem?_toList]; exact hen
    refine next_key_item st hgd hdt hsz hen' fun h' st' sb => ?_
    have I1 : Inv X pins σ H { s with heap := h' } := I.turned (t' := s.toks) (fun b ob hb e => (sb.2 b hb).trans e) f0 f1 f3 f4 f5
    obtain ⟨oi, e, c, dd⟩ := id st'
    exact ⟨en.key, rfl, go_of (s := { s with heap := h' }) e c dd (by decide) ⟨(kyO zs v)[i], H, I1, ek ▸ ru, ⟨rfl, ex⟩, st', fun b hb => (hf b hb).1⟩⟩
  done := by
    intro X hP hw hK hc i pins s σ H E I hf st hg
    subst hP hw hK
    obtain ⟨hd, hi⟩ := hg
    obtain ⟨f0, f1, f2, f3, f4, f5⟩ := hf it (by simp)
    obtain ⟨hs, hgd, hx, es', ep', hdt, hsz, v1, v2⟩ := frzY I hd
    obtain ⟨rfl, rfl⟩ := dict_ep hod hdt
    exact next_key_end (I.ok.hd hc) st hgd hdt hsz hi fun h' eb => ⟨rfl, I.turned (t' := s.toks) (fun b ob hb e => eb b ob hb e) f0 f1 f3 f4 f5⟩
  self := fun A i s Q E st h => by
    refine wpAny_pyIter_slot st.typeIs F.slot_dict_keyiterator_iter (wpAny_call_entry F.slot_dict_keyiterator_iter st.typeIs F.entry_dict_keyiterator_iter ?_ (F.args_dict_keyiterator_iter_1 _))
    show wpAny _ _ (ret (.ref it)) _ _ s
    exact wpAny_pure ⟨_, rfl, "dict_keyiterator", _, st.typeIs, F.slot_dict_keyiterator_next.lookup, h⟩
theorem turn_itemsY {elts : List Expr} {kk : Nat} {tpos : Pos} (it : Addr) (hod : o.data = .dict es ep) :
    Turn P w K (.Tuple elts kk tpos) (ItYi P w d o zs ws f v r) [it] it (fun i h => ∃ ok ov, IsItemIter h it d i (kyO zs v).length ep ok ov) where
  mem := by simp
  obj := fun i h st b hb => by
    have e : b = it := by simpa using hb
    subst e
    obtain ⟨ok, ov, e⟩ := st
    exact ⟨_, e, fun v z => nomatch z⟩
  keep := fun i h h' st k => let ⟨ok, ov, e⟩ := st; ⟨ok, ov, k it (by simp) _ e⟩
  item := by
    intro X hP hw hK hc i pins s σ H E I hf st hg
    subst hP hw hK
    obtain ⟨hd, hi⟩ := hg
    obtain ⟨hs, hgd, hx, es', ep', hdt, hsz, v1, v2⟩ := frzY I hd
    obtain ⟨rfl, rfl⟩ := dict_ep hod hdt
    have l2 : (ws ++ [r]).length = (kyO zs v).length := by
      have a1 := v1.length
      have a2 := v2.length
      rw [List.length_map] at a1 a2
      omega
    have ex : (kyO zs v)[i]? = some (kyO zs v)[i] := List.getElem?_eq_getElem hi
    have ey : (ws ++ [r])[i]? = some (ws ++ [r])[i] := List.getElem?_eq_getElem (by rw [l2]; exact hi)
    obtain ⟨u, hu, ru⟩ := vals_at' v1 ex
    obtain ⟨u2, hu2, ru2⟩ := vals_at' v2 ey
    rw [List.getElem?_map] at hu hu2
    obtain ⟨en, hen, ek⟩ := Option.map_eq_some_iff.mp hu
    obtain ⟨en2, hen2, ek2⟩ := Option.map_eq_some_iff.mp hu2
    rw [hen] at hen2
    cases hen2
    have hsi : i < es'.size := by rw [hsz]; exact hi
    have een : es'[i] = en := by
      have : es'.toList[i]? = some es'[i] := by rw [Array.getElem?_toList]; exact Array.getElem?_eq_getElem hsi
      rw [hen] at this
      exact (Option.some.inj this).symm
    obtain ⟨ok, ov, he⟩ := st
    rw [← hsz] at he
    have hlt : it < s.heap.objs.size := Heap.lt_size he
    refine DT.nextI he ⟨o, hgd, hx, hdt⟩ hsi fun h' ho hT hz hk => ?_
    rw [een] at ho hT
    refine ⟨_, rfl, wpAny_letOwnedTupleGo_items (s := { s with heap := h' }) ho fun h'' he' sb => ?_⟩
    have hT2 : h''.get? s.heap.objs.size = some { cls := .type "tuple", data := .seq #[en.key, en.val] } := (sb.2 _ (Nat.ne_of_gt hlt)).trans hT
    have new : ObjOk X.prog X.w (upd H s.heap.objs.size (.tup [(kyO zs v)[i], (ws ++ [r])[i]])) h'' s.heap.objs.size (.tup [(kyO zs v)[i], (ws ++ [r])[i]]) :=
      ⟨by show 2 ≤ sizeLine; decide, [en.key, en.val], .cons (ek ▸ ru) (.cons (ek2 ▸ ru2) .nil), ⟨_, hT2, rfl, _, rfl⟩⟩
    have I1 : Inv X pins σ (upd H s.heap.objs.size (.tup [(kyO zs v)[i], (ws ++ [r])[i]])) { s with heap := h'' } :=
      I.turnedNew (t' := s.toks) (ch := [it]) (fun b ob hb e => (sb.2 b (by simpa using hb)).trans (hk b ob (by simpa using hb) e)) hf (Nat.le_refl _) new
    refine ⟨.ref s.heap.objs.size, _, I1, rfl, ⟨_, _, _, ex, ey, rfl, I.hok.fresh (Nat.le_refl _), rfl⟩, ⟨en.key, en.val, ?_⟩, fun b hb => ?_⟩
    · rw [← hsz]; exact he'
    · have e : b = it := by simpa using hb
      rw [e, upd_ne (Nat.ne_of_lt hlt)]
      exact (hf it (by simp)).1
  done := by
    intro X hP hw hK hc i pins s σ H E I hf st hg
    subst hP hw hK
    obtain ⟨hd, hi⟩ := hg
    obtain ⟨f0, f1, f2, f3, f4, f5⟩ := hf it (by simp)
    obtain ⟨hs, hgd, hx, es', ep', hdt, hsz, v1, v2⟩ := frzY I hd
    obtain ⟨rfl, rfl⟩ := dict_ep hod hdt
    obtain ⟨ok, ov, he⟩ := st
    rw [← hsz] at he
    exact DT.endI (I.ok.hd hc) he ⟨o, hgd, hx, hdt⟩ (by omega) fun h' eb => ⟨rfl, I.turned (t' := s.toks) (fun b ob hb e => eb b ob hb e) f0 f1 f3 f4 f5⟩
  self := fun A i s Q E st h => let ⟨_, _, e⟩ := st; PySem.W.kcp_self e h
end
section
variable {P : Program} {w : World} {d : Addr} {o : Obj} {zs : List Str} {ws : List V} {f : Fk} {v r : V}
theorem walk_keysY : Walk (ItYk P w d o zs ws f v r) (kyO zs v).length (fun H => H d = some (.frz o (dMy P w d zs ws f v r))) (fun i H x H' => H' = H ∧ (kyO zs v)[i]? = some x) :=
  ⟨fun _ _ hi q => ⟨q, hi⟩, fun _ q => ⟨q, Nat.le_refl _⟩, fun _ _ _ _ _ _ y => y⟩
theorem walk_itemsY : Walk (ItYi P w d o zs ws f v r) (kyO zs v).length (fun H => H d = some (.frz o (dMy P w d zs ws f v r))) (YPair (fun i => (kyO zs v)[i]?) (fun i => (ws ++ [r])[i]?)) := by
  refine ⟨fun _ _ hi q => ⟨q, hi⟩, fun _ q => ⟨q, Nat.le_refl _⟩, fun i H x H' _ _ y => ?_⟩
  obtain ⟨T, k, v, h1, h2, h3, h4, h5⟩ := y
  exact ⟨T, k, v, h3, h4, h5, h1, h2⟩
end
/-- what lies at d: a dict of texts, or one with a key of another kind behind them -/
def LkD (P : Program) (w : World) (H : Hp) (d : Addr) (ks vs : List V) (u : HO) : Prop :=
  (∃ zs ws, u = .dK (dct zs ws) ∧ zs.Nodup ∧ zs.length = ws.length ∧ ks = zs.map V.str ∧ vs = ws) ∨ ∃ zs ws f v r, u = dMy P w d zs ws f v r ∧ zs.Nodup ∧ zs.length = ws.length ∧ FkV H f v ∧ ks = kyO zs v ∧ vs = ws ++ [r]
theorem LkD.keep {P : Program} {w : World} {H H' : Hp} {d : Addr} {ks vs : List V} {u : HO} (h : LkD P w H d ks vs u) (k : ∀ c xs, H c = some (.tup xs) → H' c = some (.tup xs)) : LkD P w H' d ks vs u := by
  rcases h with h | ⟨zs, ws, f, v, r, a, b, c, fk, e, g⟩
  · exact .inl h
  · exact .inr ⟨zs, ws, f, v, r, a, b, c, fk.keep k, e, g⟩
theorem LkD.len {P : Program} {w : World} {H : Hp} {d : Addr} {ks vs : List V} {u : HO} (h : LkD P w H d ks vs u) : ks.length = vs.length := by
  rcases h with ⟨zs, ws, _, _, l, rfl, rfl⟩ | ⟨zs, ws, f, v, r, _, _, l, _, rfl, rfl⟩
  · rw [List.length_map, l]
  · rw [List.length_append, List.length_append, List.length_map, l]
    rfl
theorem LkD.mut {P : Program} {w : World} {H : Hp} {d : Addr} {ks vs : List V} {u : HO} (h : LkD P w H d ks vs u) : Mut (some u) := by
  rcases h with ⟨zs, ws, rfl, _⟩ | ⟨zs, ws, f, v, r, rfl, _⟩
  · trivial
  · trivial
theorem LkD.get {P : Program} {w : World} {H : Hp} {d : Addr} {ks vs : List V} {u : HO} {i : Nat} {k v : V} (h : LkD P w H d ks vs u) (rd : Rd H d u) (ek : ks[i]? = some k) (ev : vs[i]? = some v) :
    DGet H d k (some v) ∨ ∃ zs ws f k' r, Rd H d (dMy P w d zs ws f k' r) ∧ YAt H zs ws f k' r k v := by
  rcases h with ⟨zs, ws, rfl, nd, l, rfl, rfl⟩ | ⟨zs, ws, f, v', r, rfl, nd, l, fk, rfl, rfl⟩
  · rw [List.getElem?_map] at ek
    obtain ⟨z, hz, rfl⟩ := Option.map_eq_some_iff.mp ek
    exact .inl (.inl ⟨_, Sum.inr z, rd, rfl, (dct_val nd hz ev).symm⟩)
  · refine .inr ⟨zs, ws, f, v', r, rd, ?_⟩
    by_cases c : i < zs.length
    · rw [List.getElem?_append_left (by rw [List.length_map]; exact c), List.getElem?_map] at ek
      rw [List.getElem?_append_left (by omega)] at ev
      obtain ⟨z, hz, rfl⟩ := Option.map_eq_some_iff.mp ek
      exact .txt fk hz ev
    · have hi := (List.getElem?_eq_some_iff.mp ek).1
      rw [List.length_append, List.length_map] at hi
      have hi : i < zs.length + 1 := hi
      obtain rfl : i = zs.length := by omega
      rw [List.getElem?_append_right (by rw [List.length_map]; exact Nat.le_refl _), List.length_map, Nat.sub_self] at ek
      rw [l, List.getElem?_append_right (Nat.le_refl _), Nat.sub_self] at ev
      cases ek
      cases ev
      exact .frn fk
theorem lk_items {d : Addr} {o : Obj} {zs : List Str} {ws : List V} (l : zs.length = ws.length) : Walk (Iti d o (dct zs ws)) (zs.map V.str).length (fun H => H d = some (.frz o (.dK (dct zs ws)))) (YPair (fun i => (zs.map V.str)[i]?) (fun i => ws[i]?)) := by
  obtain ⟨f1, f2⟩ := dct_fst l
  have e : (zs.map V.str).length = (dct zs ws).length := by rw [← f1, List.length_map]
  rw [e]
  refine (walk_items (kvs := dct zs ws)).mono (fun _ h => h) fun i H x H' _ _ y => ?_
  obtain ⟨T, x1, x2, h1, h2, h3, h4, h5⟩ := y
  refine ⟨T, x1, x2, h1, h2, h3, ?_, ?_⟩
  · show (zs.map V.str)[i]? = _
    rw [← f1, List.getElem?_map]
    exact h4
  · show ws[i]? = _
    rw [← f2, List.getElem?_map]
    exact h5
theorem lk_keys {d : Addr} {o : Obj} {zs : List Str} {ws : List V} (l : zs.length = ws.length) : Walk (Itk d o (dct zs ws)) (zs.map V.str).length (fun H => H d = some (.frz o (.dK (dct zs ws)))) (fun i H x H' => H' = H ∧ (zs.map V.str)[i]? = some x) := by
  obtain ⟨f1, f2⟩ := dct_fst l
  have e : (zs.map V.str).length = (dct zs ws).length := by rw [← f1, List.length_map]
  rw [e]
  refine (walk_keys (kvs := dct zs ws)).mono (fun _ h => h) fun i H x H' _ _ y => ?_
  obtain ⟨h1, k, v, h2, rfl⟩ := y
  refine ⟨h1, ?_⟩
  rw [← f1, List.getElem?_map, h2]
  rfl
def iKeysY (P : Program) (w : World) (td : TE) : TI := fun σ H R => td σ H fun x H1 => ∃ d o ks vs u, x = .ref d ∧ LkD P w H1 d ks vs u ∧ H1 d = some (.frz o u) ∧ ∀ J, Walk J ks.length (fun H => H d = some (.frz o u)) (fun i H x H' => H' = H ∧ ks[i]? = some x) → R J H1
def iItemsY (P : Program) (w : World) (td : TE) : TI := fun σ H R => td σ H fun x H1 => ∃ d o ks vs u, x = .ref d ∧ LkD P w H1 d ks vs u ∧ H1 d = some (.frz o u) ∧ ∀ J, Walk J ks.length (fun H => H d = some (.frz o u)) (YPair (fun i => ks[i]?) (fun i => vs[i]?)) → R J H1
section
variable {X : Cx} {tg e : Expr} {td : TE} {apos cpos : Pos}
theorem pi_keysY (he : PE X e td) : PI X tg e (iKeysY X.prog X.w td) := by
  refine ⟨fun pins s σ H R I h => ?_⟩
  refine thn (he.run pins s σ H _ I h) fun u s1 ⟨x, H1, I1, rx, d, o, ks, vs, u', ex, lk, hd, q⟩ => ?_
  subst ex
  obtain rfl : u = Value.ref d := rx
  rcases lk with ⟨zs, ws, rfl, nd, l, rfl, rfl⟩ | ⟨zs, ws, f, v, r, rfl, nd, l, fk, rfl, rfl⟩
  · obtain ⟨hs, hgd, hx, es, ep, vs, hdt, hsz, kv, hm⟩ := I1.frzK hd
    refine iter_keys hs hgd hx hdt (pi_one (tk := s1.toks) I1 _ (turn_keys _ hdt) ⟨_, Heap.get?_push_size _ rfl, rfl, ?_⟩ (q _ (lk_keys l)))
    rw [hsz] <;> rfl
  · obtain ⟨hs, hgd, hx, es, ep, hdt, hsz, v1, v2⟩ := frzY I1 hd
    refine iter_keys hs hgd hx hdt (pi_one (tk := s1.toks) I1 _ (turn_keysY _ hdt) ⟨_, Heap.get?_push_size _ rfl, rfl, ?_⟩ (q _ walk_keysY))
    rw [hsz] <;> rfl
theorem pi_itemsY {elts : List Expr} {kk : Nat} {tpos : Pos} (he : PE X e td) (hbase : attributeBase e "items" X.env (eval e X.env) = eval e X.env := by rfl) (hline : (apos.endLine == cpos.line) = true := by rfl) :
    PI X (.Tuple elts kk tpos) (.Call (.Attribute e "items" apos) [] [] cpos) (iItemsY X.prog X.w td) := by
  refine ⟨fun pins s σ H R I h => ?_⟩
  refine wpAny_Call_method (T := "dict") (id := "dict.items") hbase rfl hline F.plainAttrs_dict F.slot_dict_items F.type_dict_items (thn (he.run pins s σ H _ I h) fun u s1 ⟨x, H1, I1, rx, d, o, ks, vs, u', ex, lk, hd, q⟩ => ?_)
  subst ex
  obtain rfl : u = Value.ref d := rx
  have raw : (d == sysModules) = false ∧ s1.heap.get? d = some o ∧ o.ExactDict ∧ ∃ es ep, o.data = .dict es ep := by
    rcases lk with ⟨zs, ws, rfl, nd, l, rfl, rfl⟩ | ⟨zs, ws, f, v, r, rfl, nd, l, fk, rfl, rfl⟩
    · obtain ⟨hs, hgd, hx, es, ep, vs, hdt, _⟩ := I1.frzK hd
      exact ⟨hs, hgd, hx, _, _, hdt⟩
    · obtain ⟨hs, hgd, hx, es, ep, hdt, _⟩ := frzY I1 hd
      exact ⟨hs, hgd, hx, _, _, hdt⟩
  obtain ⟨hs, hgd, hx, es, ep, hdt⟩ := raw
  refine ⟨⟨o, hgd, hx.1⟩, fun b eb => by cases eb; exact ⟨o, hgd, hx.2.1⟩, ?_⟩
  have I2 : Inv X pins σ H1 { s1 with heap := s1.heap.push { cls := .type "dict_items", data := .fields #[.ref d] } } := I1.kept (t' := s1.toks) fun b ob q => Heap.get?_push_of_some _ q
  have fin : wpAny (model X.prog X.w) X.A (pyIter (.ref s1.heap.objs.size)) (PIE X pins σ (.Tuple elts kk tpos) R) X.xe { s1 with heap := s1.heap.push { cls := .type "dict_items", data := .fields #[.ref d] } } := by
    refine DT.iterI (d := d) (es := es) (ep := ep) ⟨_, Heap.get?_push_size _ rfl, rfl, rfl⟩ ⟨o, Heap.get?_push_of_some _ hgd, hx, hdt⟩ ?_
    rcases lk with ⟨zs, ws, rfl, nd, l, rfl, rfl⟩ | ⟨zs, ws, f, v, r, rfl, nd, l, fk, rfl, rfl⟩
    · obtain ⟨_, _, _, es', ep', vs, hdt', hsz, kv, hm⟩ := I1.frzK hd
      obtain ⟨rfl, rfl⟩ := dict_ep hdt hdt'
      refine pi_one (tk := s1.toks) I2 _ (turn_items _ hdt) ⟨.none, .none, ?_⟩ (q _ (lk_items l))
      rw [← hsz]
      exact Heap.get?_push_size _ rfl
    · obtain ⟨_, _, _, es', ep', hdt', hsz, _⟩ := frzY I1 hd
      obtain ⟨rfl, rfl⟩ := dict_ep hdt hdt'
      refine pi_one (tk := s1.toks) I2 _ (turn_itemsY _ hdt) ⟨.none, .none, ?_⟩ (q _ walk_itemsY)
      rw [← hsz]
      exact Heap.get?_push_size _ rfl
  show wpAny _ _ (callWith cpos (.builtin "dict.items") [.ref d] [] []) _ X.xe s1
  exact method_meetsIn F.slot_dict_items F.entry_dict_items rfl (PySem.evalArgs_none ⟨rfl, ⟨o, hgd, hx.1⟩, F.args_dict_items_1 _, _, DT.meetsItems (es := es) (ep := ep) hs, ⟨o, hgd, hx, hdt⟩, fin⟩)
end
/-- flat, a list or a tuple of such, or an empty dict -/
inductive FlY (H : Hp) : V → PyData → Prop
  | fl {v : V} {d : PyData} : FlV H v d → FlY H v d
  | dc {a : Addr} : H a = some (.dK []) → FlY H (.ref a) (.dict [])
inductive FlYs (H : Hp) : List V → List PyData → Prop
  | nil : FlYs H [] []
  | cons {v : V} {d : PyData} {vs : List V} {ds : List PyData} : FlY H v d → FlYs H vs ds → FlYs H (v :: vs) (d :: ds)
theorem FlY.keep {H H' : Hp} {v : V} {d : PyData} (h : FlY H v d) (k : ∀ c o, H c = some o → ((∃ xs, o = .lst xs) ∨ (∃ xs, o = .tup xs) ∨ o = .dK []) → H' c = some o) : FlY H' v d := by
  cases h with
  | fl f => exact .fl (f.keep fun c o e h => k c o e (h.elim .inl fun h => .inr (.inl h)))
  | dc e => exact .dc (k _ _ e (.inr (.inr rfl)))
theorem FlYs.keep {H H' : Hp} : ∀ {vs : List V} {ds : List PyData}, FlYs H vs ds → (∀ c o, H c = some o → ((∃ xs, o = .lst xs) ∨ (∃ xs, o = .tup xs) ∨ o = .dK []) → H' c = some o) → FlYs H' vs ds
  | _, _, .nil, _ => .nil
  | _, _, .cons a b, k => .cons (a.keep k) (b.keep k)
theorem FlY.dt {K : PySem.W.Frag} {H : Hp} {v : V} {d : PyData} (h : FlY H v d) : Dt K H v d := by
  cases h with
  | fl f => exact f.dt
  | dc e => exact .dct (kvs := []) e .nil .nil
theorem FlY.reads {X : Cx} {pins : List (Addr × Obj)} {σ : L2.St} {H : Hp} {s : Shared} (I : Inv X pins σ H s) {v : V} {d : PyData} {u : Value} (h : FlY H v d) (r : RelV v u) : ∃ as, Reads s.heap u d as ∧ sysModules ∉ as := by
  cases h with
  | fl f => exact f.reads I r
  | @dc a e =>
    obtain rfl : u = Value.ref a := r
    obtain ⟨hs, _, o, es, ep, ho, hc, hdt, k1, k2⟩ := any_raw I (.inr ⟨[], e, rfl, rfl⟩)
    have l1 : es.toList = [] := by
      have := k1.length
      exact List.map_eq_nil_iff.mp (List.length_eq_zero_iff.mp this.symm)
    refine ⟨_, .dict (as := []) (bs := []) (kvs := []) ho hc.1 hdt (by rw [l1]; exact .nil) (by rw [l1]; exact .nil), fun z => ?_⟩
    have : sysModules = a := by simpa using z
    rw [← this] at hs
    simp at hs
theorem FlYs.reads {X : Cx} {pins : List (Addr × Obj)} {σ : L2.St} {H : Hp} {s : Shared} (I : Inv X pins σ H s) : ∀ {vs : List V} {ds : List PyData} {us : List Value}, FlYs H vs ds → Vals vs us → ∃ as, ReadsAll s.heap us ds as ∧ sysModules ∉ as
  | _, _, _, .nil, .nil => ⟨_, .nil, by simp⟩
  | _, _, _, .cons a b, .cons r1 r2 => by
    obtain ⟨as, q1, n1⟩ := a.reads I r1
    obtain ⟨bs, q2, n2⟩ := FlYs.reads I b r2
    exact ⟨_, .cons q1 q2, fun z => (List.mem_append.mp z).elim n1 n2⟩
/-- a dict of any kind: its keys, its values -/
def AnyY (P : Program) (w : World) (H : Hp) (d : Addr) (ks vs : List V) : Prop := ∃ u, LkD P w H d ks vs u ∧ H d = some u
section
variable {X : Cx}
theorem anyY_raw {pins : List (Addr × Obj)} {σ : L2.St} {H : Hp} {s : Shared} (I : Inv X pins σ H s) {d : Addr} {ks vs : List V} (h : AnyY X.prog X.w H d ks vs) : MxAt d ks vs s.heap := by
  obtain ⟨u, lk, h⟩ := h
  rcases lk with ⟨zs, ws, rfl, nd, l, rfl, rfl⟩ | ⟨zs, ws, f, v, r, rfl, nd, l, fk, rfl, rfl⟩
  · obtain ⟨f1, f2⟩ := dct_fst l
    exact any_raw I (.inr ⟨_, h, f1.symm, f2.symm⟩)
  · exact my_mx (my_of I.hok (.inl h))
def rIsiY (P : Program) (w : World) (K : PySem.W.Frag) : List V → Hp → VK → Prop := fun xs H Q => rIsi K xs H Q ∨ ∃ (d : Addr) (ks vs : List V), xs = [.ref d, .ty "dict"] ∧ AnyY P w H d ks vs ∧ Q (.bl true) H
theorem call_isiY : CallR X (.builtin "isinstance") (rIsiY X.prog X.w X.K) := by
  intro pins s σ H xs us Q I r h
  rcases h with h | ⟨d, ks, vs, rfl, hd, q⟩
  · exact call_isi pins s σ H xs us Q I r h
  · obtain ⟨u1, u2, rfl, r1, r2⟩ := vals2 r
    obtain rfl : u1 = Value.ref d := r1
    obtain rfl : u2 = Value.type "dict" := r2
    obtain ⟨_, _, o, es, ep, ho, hc, _⟩ := anyY_raw I hd
    exact PySem.W.kia_one PySem.W.kitx_dict I.kIn ⟨o, ho, hc.1⟩ (kit_ty (a := "dict") (b := "dict") (r := true) (by decide +kernel)) (fun z => nomatch z) fun tk => ⟨.bl true, H, I.tok tk, rfl, q⟩
def rReprY (P : Program) (w : World) (K : PySem.W.Frag) : List V → Hp → VK → Prop := fun xs H Q => rRepr K xs H Q ∨ (∃ (d : Addr) (ks vs : List V) (ps : List (PyData × PyData)), xs = [.ref d] ∧ AnyY P w H d ks vs ∧ FlYs H ks (ps.map (·.1)) ∧ FlYs H vs (ps.map (·.2)) ∧ (PyData.dict ps).showable = true ∧ (PyData.dict ps).depth ≤ 20 ∧ (PyData.dict ps).shown.length ≤ sizeLine ∧ Q (.str (PyData.dict ps).shown) H) ∨
  ∃ (L d : Addr) (ks vs : List V) (ps : List (PyData × PyData)), xs = [.ref L] ∧ H L = some (.lst [.ref d]) ∧ L ≠ sysModules ∧ AnyY P w H d ks vs ∧ FlYs H ks (ps.map (·.1)) ∧ FlYs H vs (ps.map (·.2)) ∧ (PyData.list [.dict ps]).showable = true ∧ (PyData.list [.dict ps]).depth ≤ 20 ∧ (PyData.list [.dict ps]).shown.length ≤ sizeLine ∧ Q (.str (PyData.list [.dict ps]).shown) H
theorem call_reprY {k : Nat} (hr : Room k X.A) (hg : X.A.guards = some []) : CallR X (.builtin "repr") (rReprY X.prog X.w X.K) := by
  intro pins s σ H xs us Q I r h
  rcases h with h | ⟨d, ks, vs, ps, rfl, ad, fk, fv, sh, dp, hz, q⟩ | ⟨L, d, ks, vs, ps, rfl, hL, nL, ad, fk, fv, sh, dp, hz, q⟩
  · exact call_repr hr hg pins s σ H xs us Q I r h
  · obtain ⟨u, rfl, ru⟩ := vals1 r
    obtain rfl : u = Value.ref d := ru
    obtain ⟨hs, _, o, es, ep, ho, hc, hdt, k1, k2⟩ := anyY_raw I ad
    obtain ⟨as, r1, n1⟩ := fk.reads I k1
    obtain ⟨bs, r2, n2⟩ := fv.reads I k2
    have hu := hr.units
    refine repr_of_reads' (.dict ho hc.1 hdt r1 r2) sh (fun _ z => ?_) hg (by omega) (fun _ _ e => e) (fun h' t tk hk => ⟨.str _, H, I.kept hk, ⟨t, rfl⟩, q⟩) hz
    rcases List.mem_append.mp z with z | z
    · rcases List.mem_cons.mp z with z | z
      · rw [← z] at hs
        simp at hs
      · exact n1 z
    · exact n2 z
  · obtain ⟨u, rfl, ru⟩ := vals1 r
    obtain rfl : u = Value.ref L := ru
    obtain ⟨hs, _, o, es, ep, ho, hc, hdt, k1, k2⟩ := anyY_raw I ad
    obtain ⟨as, r1, n1⟩ := fk.reads I k1
    obtain ⟨bs, r2, n2⟩ := fv.reads I k2
    have hu := hr.units
    obtain ⟨_, its, k, rv, hoL⟩ := (show ObjOk X.prog X.w H s.heap L (.lst [.ref d]) from I.hok L _ hL)
    obtain ⟨v1, rfl, rv1⟩ := vals1 rv
    obtain rfl : v1 = Value.ref d := rv1
    refine repr_of_reads' (.list hoL rfl rfl (.cons (.dict ho hc.1 hdt r1 r2) .nil)) sh (fun _ z => ?_) hg (by omega) (fun _ _ e => e) (fun h' t tk hk => ⟨.str _, H, I.kept hk, ⟨t, rfl⟩, q⟩) hz
    rcases List.mem_cons.mp z with z | z
    · exact nL z.symm
    · rw [List.append_nil] at z
      rcases List.mem_append.mp z with z | z
      · rcases List.mem_cons.mp z with z | z
        · rw [← z] at hs
          simp at hs
        · exact n1 z
      · exact n2 z
end
end Rc

namespace Rc
open PySem PySem.Spec PyProof.Rows L2
/-! ### max(d.values()), min(d.values()) -/
def valsO (q d : Addr) : HO := .ext fun h => h.get? q = some { cls := .type "dict_values", data := .fields #[.ref d] }
theorem valsO_ok {P : Program} {w : World} {H : Hp} {h : Heap} {q d : Addr} (e : h.get? q = some { cls := .type "dict_values", data := .fields #[.ref d] }) : ObjOk P w H h q (valsO q d) :=
  ⟨e, ⟨_, e⟩, fun _ _ z k => k _ z⟩
theorem valsO_at {P : Program} {w : World} {H : Hp} {h : Heap} {q d : Addr} (ok : HOk P w H h) (e : H q = some (valsO q d)) : h.get? q = some { cls := .type "dict_values", data := .fields #[.ref d] } := by
  have x : ObjOk P w H h q (.ext fun h => h.get? q = some { cls := .type "dict_values", data := .fields #[.ref d] }) := ok q _ e
  exact x.1
def tVals (td : TE) : TE := fun σ H Q => td σ H fun x H1 => ∃ d kvs, x = .ref d ∧ H1 d = some (.dK kvs) ∧ ∀ q, H1 q = none → Q (.ref q) (upd H1 q (valsO q d))
section
variable {X : Cx} {e : Expr} {td : TE} {apos cpos : Pos}
theorem pe_values (he : PE X e td) (hbase : attributeBase e "values" X.env (eval e X.env) = eval e X.env := by rfl) (hline : (apos.endLine == cpos.line) = true := by rfl) : PE X (.Call (.Attribute e "values" apos) [] [] cpos) (tVals td) := by
  refine ⟨fun pins s σ H Q I h => ?_⟩
  refine wpAny_Call_method (T := "dict") (id := "dict.values") hbase rfl hline F.plainAttrs_dict F.slot_dict_values F.type_dict_values (thn (he.run pins s σ H _ I h) fun u s1 z => ?_)
  obtain ⟨x, H1, I1, rx, d, kvs, ex, hd, q⟩ := z
  subst ex
  obtain rfl : u = Value.ref d := rx
  obtain ⟨_, hs, vs, kv, hm⟩ := dk_of I1.hok hd
  refine ⟨hm.typeIs, hm.mapOf.noDict, ?_⟩
  show wpAny _ _ (callWith cpos (.builtin "dict.values") [.ref d] [] []) _ X.xe s1
  have hn := I1.hok.fresh (Nat.le_refl s1.heap.objs.size)
  refine method_meetsIn F.slot_dict_values F.entry_dict_values rfl (PySem.evalArgs_none ⟨rfl, hm.typeIs, F.args_dict_values_1 _, _, meets_dict_values (mixKind X.prog X.w) d hs, ⟨vs, hm⟩, ?_⟩)
  exact ⟨.ref s1.heap.objs.size, _, I1.laid (t' := s1.toks) (fun _ _ z => Heap.get?_push_of_some _ z) (Nat.le_refl _) (valsO_ok (d := d) (Heap.get?_push_size _ rfl)), rfl, q _ hn⟩
def rMaxV (mx : Bool) : List V → Hp → VK → Prop := fun xs H Q => ∃ (q d : Addr) (kvs : List (Key × V)) (ns : List Int), xs = [.ref q] ∧ H q = some (valsO q d) ∧ H d = some (.dK kvs) ∧ kvs.map (·.2) = ns.map V.int ∧ 0 < ns.length ∧
  ∀ m, m ∈ ns → (∀ a ∈ ns, if mx = true then a ≤ m else m ≤ a) → Q (.int m) H
theorem vals_at {P : Program} {w : World} {kvs : List (Key × V)} {vs : List (Key × Value)} {ns : List Int} (kv : KV kvs vs) (ev : kvs.map (·.2) = ns.map V.int) : vs.length = ns.length ∧ ∀ (i : Nat) (v : Value), (∃ k, vs[i]? = some (k, v)) → ∃ t, v = .int (ns.getD i 0) t := by
  have l1 := Paired.length kv
  have l2 : kvs.length = ns.length := by
    have := congrArg List.length ev
    simpa using this
  refine ⟨by omega, fun i v ⟨k, hk⟩ => ?_⟩
  have hi : i < vs.length := (List.getElem?_eq_some_iff.mp hk).1
  obtain ⟨⟨k', y⟩, hy⟩ : ∃ p, kvs[i]? = some p := ⟨kvs[i]'(by omega), List.getElem?_eq_getElem (by omega)⟩
  obtain ⟨u, hu, ru⟩ := kv_get kv hy
  have e1 : (kvs.map (·.2))[i]? = some y := by
    rw [List.getElem?_map, hy]
    rfl
  rw [ev, List.getElem?_map] at e1
  have hn : i < ns.length := by omega
  rw [List.getElem?_eq_getElem hn] at e1
  have ey : V.int ns[i] = y := Option.some.inj e1
  have eg : ns.getD i 0 = ns[i] := by
    rw [List.getD_eq_getElem?_getD, List.getElem?_eq_getElem hn]
    rfl
  rw [← ey] at ru
  obtain ⟨t, rt⟩ := ru
  rw [hk] at hu
  have eu := congrArg Prod.snd (Option.some.inj hu)
  exact ⟨t, by rw [eg, ← rt]; exact eu⟩
theorem cr_maxV (hc : X.calm = true) : CallR X (.builtin "max") (rMaxV true) := by
  intro pins s σ H xs us Q I r h
  obtain ⟨q, d, kvs, ns, rfl, hq, hd, ev, hn, k⟩ := h
  rw [Vals.ref1 r]
  obtain ⟨_, hs, vs, kv, hm⟩ := dk_of I.hok hd
  obtain ⟨o, es, ep, ho, hx, hdt, rr⟩ := id hm
  have hD : s.heap.DictAt (mixKind X.prog X.w) d vs ep := ⟨o, es, ho, hx, hdt, rr⟩
  have hv : s.heap.IsValuesView q d := ⟨_, valsO_at I.hok hq, rfl, rfl⟩
  have hh : X.A.in1.handled = none := I.ok.hd hc
  have ne : d ≠ s.heap.objs.size := Nat.ne_of_lt (Heap.lt_size ho)
  obtain ⟨ln, hval⟩ := vals_at (P := X.prog) (w := X.w) kv ev
  refine call_max_walk (wpAny_pyIter_values (knd := mixKind X.prog X.w) hv hD ⟨_, _, _, _, _, _, _, rfl, Walks.dictValues (A := X.A.in1) hh s.heap.objs.size d ne vs ep, ⟨⟨_, Heap.get?_push_size _ rfl, rfl, rfl⟩, hD.at' fun _ e => Heap.get?_push_of_some _ e⟩, fun b hb => ?_, by omega,
    CmpOf.ints_gt (fun i => ns.getD i 0) hval, fun v h' tk hP hk => ?_⟩)
  · rw [Heap.size_push]
    rcases List.mem_cons.mp hb with e | e
    · rw [e]
      exact Nat.lt_succ_self _
    · rw [List.mem_singleton.mp e]
      exact Nat.lt_succ_of_lt (Heap.lt_size ho)
  · obtain ⟨t, rfl⟩ := hval _ v hP
    obtain ⟨b1, b2⟩ := argBest_gt (fun i => ns.getD i 0) (vs.length - 1)
    have keep : ∀ b o, s.heap.get? b = some o → h'.get? b = some o := fun b o e => hk b o (fun z => Nat.ne_of_lt (Heap.lt_size e) (List.mem_singleton.mp z)) (Heap.get?_push_of_some _ e)
    refine ⟨.int _, H, I.kept (t' := tk) keep, ⟨t, rfl⟩, k _ (PySem.getD_mem (by omega)) fun a ha => ?_⟩
    rw [if_pos rfl]
    obtain ⟨j, hj, rfl⟩ := mem_getD ha
    exact b2 j (by omega)
theorem cr_minV (hc : X.calm = true) : CallR X (.builtin "min") (rMaxV false) := by
  intro pins s σ H xs us Q I r h
  obtain ⟨q, d, kvs, ns, rfl, hq, hd, ev, hn, k⟩ := h
  rw [Vals.ref1 r]
  obtain ⟨_, hs, vs, kv, hm⟩ := dk_of I.hok hd
  obtain ⟨o, es, ep, ho, hx, hdt, rr⟩ := id hm
  have hD : s.heap.DictAt (mixKind X.prog X.w) d vs ep := ⟨o, es, ho, hx, hdt, rr⟩
  have hv : s.heap.IsValuesView q d := ⟨_, valsO_at I.hok hq, rfl, rfl⟩
  have hh : X.A.in1.handled = none := I.ok.hd hc
  have ne : d ≠ s.heap.objs.size := Nat.ne_of_lt (Heap.lt_size ho)
  obtain ⟨ln, hval⟩ := vals_at (P := X.prog) (w := X.w) kv ev
  refine call_min_walk (wpAny_pyIter_values (knd := mixKind X.prog X.w) hv hD ⟨_, _, _, _, _, _, _, rfl, Walks.dictValues (A := X.A.in1) hh s.heap.objs.size d ne vs ep, ⟨⟨_, Heap.get?_push_size _ rfl, rfl, rfl⟩, hD.at' fun _ e => Heap.get?_push_of_some _ e⟩, fun b hb => ?_, by omega,
    CmpOf.ints_lt (fun i => ns.getD i 0) hval, fun v h' tk hP hk => ?_⟩)
  · rw [Heap.size_push]
    rcases List.mem_cons.mp hb with e | e
    · rw [e]
      exact Nat.lt_succ_self _
    · rw [List.mem_singleton.mp e]
      exact Nat.lt_succ_of_lt (Heap.lt_size ho)
  · obtain ⟨t, rfl⟩ := hval _ v hP
    obtain ⟨b1, b2⟩ := argBest_lt (fun i => ns.getD i 0) (vs.length - 1)
    have keep : ∀ b o, s.heap.get? b = some o → h'.get? b = some o := fun b o e => hk b o (fun z => Nat.ne_of_lt (Heap.lt_size e) (List.mem_singleton.mp z)) (Heap.get?_push_of_some _ e)
    refine ⟨.int _, H, I.kept (t' := tk) keep, ⟨t, rfl⟩, k _ (PySem.getD_mem (by omega)) fun a ha => ?_⟩
    rw [if_neg Bool.false_ne_true]
    obtain ⟨j, hj, rfl⟩ := mem_getD ha
    exact b2 j (by omega)
end
end Rc

namespace Rc
open PySem PySem.Spec PyProof.Rows L2
/-! ### any(d.values()) of ints, d.clear() -/
def rAnyV : List V → Hp → VK → Prop := fun xs H Q => ∃ (q d : Addr) (kvs : List (Key × V)) (ns : List Int), xs = [.ref q] ∧ H q = some (valsO q d) ∧ H d = some (.dK kvs) ∧ kvs.map (·.2) = ns.map V.int ∧ Q (.bl (ns.any fun n => n != 0)) H
def tDClear (td : TE) : TE := fun σ H Q => td σ H fun x H1 => ∃ d kvs, x = .ref d ∧ H1 d = some (.dK kvs) ∧ Q .non (upd H1 d (.dK []))
theorem any_ints : ∀ ns : List Int, (List.range ns.length).any (fun i => ns.getD i 0 != 0) = ns.any fun n => n != 0
  | [] => rfl
  | b :: bs => by
    rw [List.length_cons, List.range_succ_eq_map, List.any_cons, List.any_map, List.any_cons, ← any_ints bs]
    all_goals rfl
section
variable {X : Cx} {e : Expr} {td : TE} {apos cpos : Pos}
theorem pe_dclear (he : PE X e td) (hbase : attributeBase e "clear" X.env (eval e X.env) = eval e X.env := by rfl) (hline : (apos.endLine == cpos.line) = true := by rfl) : PE X (.Call (.Attribute e "clear" apos) [] [] cpos) (tDClear td) := by
  refine ⟨fun pins s σ H Q I h => ?_⟩
  refine wpAny_Call_method (T := "dict") (id := "dict.clear") hbase rfl hline F.plainAttrs_dict F.slot_dict_clear F.type_dict_clear (thn (he.run pins s σ H _ I h) fun u s1 z => ?_)
  obtain ⟨x, H1, I1, rx, d, kvs, ex, hd, q⟩ := z
  subst ex
  obtain rfl : u = Value.ref d := rx
  obtain ⟨z, hs, vs, kv, hm⟩ := dk_of I1.hok hd
  refine ⟨hm.typeIs, hm.mapOf.noDict, ?_⟩
  show wpAny _ _ (callWith cpos (.builtin "dict.clear") [.ref d] [] []) _ X.xe s1
  refine method_meetsIn F.slot_dict_clear F.entry_dict_clear rfl (PySem.evalArgs_none ⟨rfl, hm.typeIs, F.args_dict_clear_1 _, _, meets_dict_clear (mixKind X.prog X.w) d, ⟨vs, hm, by rw [← kv.length]; exact z, fun h' dd' sb => ?_⟩⟩)
  have he : ∃ q, h'.get? d = some q := let ⟨q, _, _, hq, _⟩ := dd'; ⟨q, hq⟩
  exact ⟨.non, _, d_write (t' := s1.toks) I1 (by rw [hd]; exact True.intro) sb he (dk_new (Nat.zero_le _) hs .nil dd'), rfl, q⟩
theorem cr_anyV (hc : X.calm = true) : CallR X (.builtin "any") rAnyV := by
  intro pins s σ H xs us Q I r h
  obtain ⟨q, d, kvs, ns, rfl, hq, hd, ev, k⟩ := h
  rw [Vals.ref1 r]
  obtain ⟨_, hs, vs, kv, hm⟩ := dk_of I.hok hd
  obtain ⟨o, es, ep, ho, hx, hdt, rr⟩ := id hm
  have hD : s.heap.DictAt (mixKind X.prog X.w) d vs ep := ⟨o, es, ho, hx, hdt, rr⟩
  have hv : s.heap.IsValuesView q d := ⟨_, valsO_at I.hok hq, rfl, rfl⟩
  have hh : X.A.in1.handled = none := I.ok.hd hc
  have ne : d ≠ s.heap.objs.size := Nat.ne_of_lt (Heap.lt_size ho)
  obtain ⟨ln, hval⟩ := vals_at (P := X.prog) (w := X.w) kv ev
  refine call_any_walk (wpAny_pyIter_values (knd := mixKind X.prog X.w) hv hD ⟨_, _, _, _, _, _, (fun i => ns.getD i 0 != 0), rfl, Walks.dictValues (A := X.A.in1) hh s.heap.objs.size d ne vs ep, ⟨⟨_, Heap.get?_push_size _ rfl, rfl, rfl⟩, hD.at' fun _ e => Heap.get?_push_of_some _ e⟩, fun i v s' Q' E' hP hQ => ?_,
    fun h' tk hk => ?_⟩)
  · obtain ⟨t, rfl⟩ := hval i v hP
    exact PySem.P.truthy_int hQ
  · have keep : ∀ b o, s.heap.get? b = some o → h'.get? b = some o := fun b o e => hk b o (fun z => Nat.ne_of_lt (Heap.lt_size e) (List.mem_singleton.mp z)) (Heap.get?_push_of_some _ e)
    refine ⟨.bl _, H, I.kept (t' := tk) keep, ?_, k⟩
    show Value.bool _ = Value.bool _
    rw [← any_ints, ln]
end
end Rc

namespace Rc
open PySem PySem.Spec PyProof.Rows L2 RZ
/-! ### what may fall, of any thing -/
def dictD : PyData → Bool
  | .dict _ => true
  | _ => false
theorem kit_dict {K : PySem.W.Frag} (d : PyData) : PySem.W.kitOne K (.type (tyD d)) (.type "dict") = some (dictD d) :=
  match d with
  | PyData.none => kit_ty (a := "NoneType") (b := "dict") (r := false) (by decide +kernel)
  | .bool _ => kit_ty (a := "bool") (b := "dict") (r := false) (by decide +kernel)
  | .int _ => kit_ty (a := "int") (b := "dict") (r := false) (by decide +kernel)
  | .str _ => kit_ty (a := "str") (b := "dict") (r := false) (by decide +kernel)
  | .list _ => kit_ty (a := "list") (b := "dict") (r := false) (by decide +kernel)
  | .tuple _ => kit_ty (a := "tuple") (b := "dict") (r := false) (by decide +kernel)
  | .dict _ => kit_ty (a := "dict") (b := "dict") (r := true) (by decide +kernel)
/-- an entry that is right -/
def GoodE (M : Bk) (k v : V) : Prop := ∃ (j : Nat) (z : Str) (l : List (Str × Int)) (f x : Int), k = .str z ∧ v = .int x ∧ M.names[j]? = some z ∧ M.stacks[j]? = some l ∧ M.drops[j]? = some f ∧ 0 ≤ x ∧ f + x ≤ wholeN l
/-- an entry that is wrong -/
def BadE (H : Hp) (M : Bk) (k v : V) : Prop :=
  (∃ e, FlV H k e ∧ ShortD e ∧ hasD M e = false) ∨ ∃ (j : Nat) (z : Str) (l : List (Str × Int)) (f : Int), k = .str z ∧ M.names[j]? = some z ∧ M.stacks[j]? = some l ∧ M.drops[j]? = some f ∧
    ((∃ e, FlY H v e ∧ ShortD e ∧ wholeD e = false) ∨ ∃ x, v = .int x ∧ (x < 0 ∨ wholeN l < f + x))
theorem BadE.keep {H H' : Hp} {M : Bk} {k v : V} (h : BadE H M k v) (kp : ∀ c o, H c = some o → ((∃ xs, o = .lst xs) ∨ (∃ xs, o = .tup xs) ∨ o = .dK []) → H' c = some o) : BadE H' M k v := by
  rcases h with ⟨e, a, b⟩ | ⟨j, z, l, f, a1, a2, a3, a4, h⟩
  · exact .inl ⟨e, a.keep fun c o e h => kp c o e (h.elim .inl fun h => .inr (.inl h)), b⟩
  · refine .inr ⟨j, z, l, f, a1, a2, a3, a4, ?_⟩
    rcases h with ⟨e, a, b⟩ | h
    · exact .inl ⟨e, a.keep kp, b⟩
    · exact .inr h
/-- the first n entries are right, the next one is not -/
structure PreE (P : Program) (w : World) (H : Hp) (M : Bk) (d : Addr) (ks vs : List V) (n : Nat) : Prop where
  any : AnyY P w H d ks vs
  nn : n ≤ ks.length
  gd : ∀ (i : Nat) (k v : V), i < n → ks[i]? = some k → vs[i]? = some v → GoodE M k v
  bd : ∀ k v, ks[n]? = some k → vs[n]? = some v → BadE H M k v
theorem AnyY.same {P : Program} {w : World} {H H' : Hp} {d : Addr} {ks vs : List V} (h : AnyY P w H d ks vs) (s : Same H H') : AnyY P w H' d ks vs := by
  obtain ⟨u, lk, e⟩ := h
  exact ⟨u, lk.keep fun c xs e => s _ _ e, s _ _ e⟩
theorem PreE.same {P : Program} {w : World} {H H' : Hp} {M : Bk} {d : Addr} {ks vs : List V} {n : Nat} (h : PreE P w H M d ks vs n) (s : Same H H') : PreE P w H' M d ks vs n :=
  ⟨h.any.same s, h.nn, h.gd, fun k v a b => (h.bd k v a b).keep fun c o e _ => s _ _ e⟩
/-- what may still fall of some -/
structure RightM (M : Bk) (ps : List (Str × Int)) : Prop where
  nd : (ps.map (·.1)).Nodup
  kd : ∀ p ∈ ps, ∃ (j : Nat) (l : List (Str × Int)) (f : Int), M.names[j]? = some p.1 ∧ M.stacks[j]? = some l ∧ M.drops[j]? = some f ∧ 0 ≤ p.2 ∧ f + p.2 ≤ wholeN l
theorem moreK_dct (ps : List (Str × Int)) : moreK ps = dct (ps.map (·.1)) (ps.map fun p => .int p.2) := by
  unfold moreK
  induction ps with
  | nil => rfl
  | cons p r ih =>
    show (Sum.inr p.1, V.int p.2) :: _ = (Sum.inr p.1, V.int p.2) :: _
    exact congrArg _ ih
theorem RightM.pre {P : Program} {w : World} {H : Hp} {M : Bk} {d : Addr} {ps : List (Str × Int)} (h : RightM M ps) (hd : H d = some (.dK (moreK ps))) : PreE P w H M d (ps.map fun p => .str p.1) (ps.map fun p => .int p.2) ps.length := by
  refine ⟨⟨_, .inl ⟨ps.map (·.1), _, congrArg HO.dK (moreK_dct ps), h.nd, by rw [List.length_map, List.length_map], by rw [List.map_map]; rfl, rfl⟩, hd⟩, by rw [List.length_map]; exact Nat.le_refl _, fun i k v hi ek ev => ?_, fun k v ek _ => ?_⟩
  · rw [List.getElem?_map, List.getElem?_eq_getElem hi] at ek ev
    cases ek
    cases ev
    obtain ⟨j, l, f, a, b, c, d, e⟩ := h.kd _ (List.getElem_mem hi)
    exact ⟨j, _, l, f, _, rfl, rfl, a, b, c, d, e⟩
  · have := (List.getElem?_eq_some_iff.mp ek).1
    rw [List.length_map] at this
    omega
inductive Thg (P : Program) (w : World) (K : PySem.W.Frag) (H : Hp) (M : Bk) : V → Option (List (Str × Int)) → Prop
  | nod {v : V} {d : PyData} : Dt K H v d → dictD d = false → Thg P w K H M v none
  | rgt {d : Addr} {ps : List (Str × Int)} : H d = some (.dK (moreK ps)) → RightM M ps → Thg P w K H M (.ref d) (some ps)
  | bad {d : Addr} {ks vs : List V} {n : Nat} : PreE P w H M d ks vs n → n < ks.length → Thg P w K H M (.ref d) none
theorem Thg.same {P : Program} {w : World} {K : PySem.W.Frag} {H H' : Hp} {M : Bk} {v : V} {o : Option (List (Str × Int))} (h : Thg P w K H M v o) (s : Same H H') : Thg P w K H' M v o := by
  cases h with
  | nod a b => exact .nod (Dt.same s _ a) b
  | rgt a b => exact .rgt (s _ _ a) b
  | bad a b => exact .bad (a.same s) b
theorem LkD.ne {P : Program} {w : World} {H : Hp} {d : Addr} {ks vs : List V} {u o : HO} {c : Addr} (lk : LkD P w H d ks vs u) (hd : H d = some u) (e : H c = some o) (h1 : ∀ kvs, o ≠ .dK kvs) (h2 : ∀ φ, o ≠ .ext φ) : c ≠ d := fun z => by
  rw [z, hd] at e
  cases e
  rcases lk with ⟨zs, ws, rfl, _⟩ | ⟨zs, ws, f, v, r, rfl, _⟩
  · exact h1 _ rfl
  · exact h2 _ rfl
/-- the dict is locked: a book stays -/
theorem book_lock {P : Program} {w : World} {K : PySem.W.Frag} {C : Addr} {H H' : Hp} {d b : Addr} {ks vs : List V} {u : HO} {M : Bk} (lk : LkD P w H d ks vs u) (hd : H d = some u) (k : ∀ c o, c ≠ d → H c = some o → H' c = some o) (h : BookAt K C H b M) : BookAt K C H' b M := by
  have kt : KT H H' := fun c o e f => k c o (lk.ne hd e (fun kvs z => by subst z; exact f) (fun φ z => by subst z; exact f)) e
  obtain ⟨dx, tn, on, vg, vs, vd, e, h1, hn, h2, h3, h4⟩ := h.ex
  exact ⟨dx, tn, on, vg, vs, vd, k _ _ (lk.ne hd e (fun _ z => nomatch z) (fun _ z => nomatch z)) e, k _ _ (lk.ne hd h1 (fun _ z => nomatch z) (fun _ z => nomatch z)) h1, hn, Dt.keepT kt _ (tup_ints _) h2, Dt.keepT kt _ (tup_stacks _) h3, Dt.keepT kt _ (tup_ints _) h4⟩
theorem dct_nil {zs : List Str} {ws : List V} (l : zs.length = ws.length) (h : dct zs ws = []) : zs = [] := by
  have := congrArg List.length h
  rw [dct_len l.symm] at this
  exact List.length_eq_zero_iff.mp this
theorem BadE.lock {P : Program} {w : World} {H H' : Hp} {d : Addr} {ks vs : List V} {u : HO} {M : Bk} {n : Nat} {k v : V} (lk : LkD P w H d ks vs u) (hd : H d = some u) (kp : ∀ c o, c ≠ d → H c = some o → H' c = some o) (ek : ks[n]? = some k) (h : BadE H M k v) : BadE H' M k v := by
  refine h.keep fun c o e q => kp c o (fun z => ?_) e
  rw [z, hd] at e
  cases e
  rcases lk with ⟨zs, ws, rfl, nd, l, rfl, rfl⟩ | ⟨zs, ws, f, v, r, rfl, _⟩
  · rcases q with ⟨_, q⟩ | ⟨_, q⟩ | q
    · cases q
    · cases q
    · rw [dct_nil l (HO.dK.inj q)] at ek
      cases ek
  · rcases q with ⟨_, q⟩ | ⟨_, q⟩ | q <;> cases q
section
variable {P : Program} {w : World} {K : PySem.W.Frag} {mg : Str → Option Value} {base : Heap}
/-! ### may_fall, of any thing -/
def spMayT (P : Program) (w : World) (K : PySem.W.Frag) (C : Addr) : Sp := fun vs H Q _ => ∃ (b : Addr) (M : Bk) (v : V) (o : Option (List (Str × Int))), vs = [.ref b, v] ∧ BookAt K C H b M ∧ M.Ok ∧ Thg P w K H M v o ∧ ∀ H', Same H H' → Q (.bl o.isSome) H'
set_option maxHeartbeats 2000000 in
theorem ok_mayT {f f1 f2 f3 f4 C : Addr} {fd fd1 fd2 fd3 fd4 : FuncData} (F : Fun K "may_fall" "Book.may_fall" sMayF f fd) (T : ClsF K C) (B : Blt mg) (B3 : Blt3 mg)
    (HS : HasM P w K mg base C 2 "has" ["self", "who"] (spHas K C) f1 fd1) (WH : Has P w K mg base 1 "is_whole" ["thing"] (spBool K wholeD) f2 fd2)
    (FL : HasM P w K mg base C 4 "fallen" ["self", "who"] (spNum K C Bk.drops) f3 fd3) (WO : HasM P w K mg base C 5 "whole_of" ["self", "who"] (spCalc K C fun M j _ => wholeN (M.stacks.getD j [])) f4 fd4) :
    FnOk P w K mg base CX0 6 f fd ["self", "more"] (spMayT P w K C) := by
  refine F.ok scMayF (fun vs H Q E h => ?_) (fun cdv A outer s H vs Q E hr h => ?_)
  · obtain ⟨_, _, _, _, rfl, _⟩ := h
    rfl
  · obtain ⟨b, M, v, oo, rfl, hb, ok, th, q⟩ := h
    have hr1 := hr.mono (show 1 ≤ 5 by decide)
    have hr2 := hr.mono (show 2 ≤ 5 by decide)
    have hr4 := hr.mono (show 4 ≤ 5 by decide)
    refine ⟨_, pss_cons (ps_if (pt_not (pt_val (pe_callB call_isiY (by rfl) B.isi (by decide +kernel) (pa_cons (pv 1) (pa_cons (pe_bltn (v := .ty "dict") (by rfl) B3.dict (by decide +kernel) rfl) pa_nil))))) (pss_one (ps_ret pe_bl)) pss_nil)
      (pss_cons (ps_lock (ps_for PassesOwn.never rfl (pi_itemsY (pv 1)) (pg_tup rfl (pgs_cons (pg_name (i := 2) scMayF.nd rfl (.inl rfl)) (pgs_cons (pg_name (i := 3) scMayF.nd rfl (.inl rfl)) pgs_nil)))
        (pss_cons (ps_if (PW.pt (pw_or (pt_not (pt_val (pe_meth (pv 0) T.cl HS.m HS.ok hr2 HS.b .nil pass0 (pa_cons (pv 2) pa_nil)))) (pw_or (pt_not (pt_val (pe_call WH.ok hr1 (by rfl) WH.g WH.kp WH.b .nil pass0 (pa_cons (pv 3) pa_nil))))
          (pw_or1 (pt_cmpR op_lt (pv 3) pe_int (nomark _)))))) (pss_one (ps_ret pe_bl)) pss_nil)
        (pss_one (ps_if (pt_cmpR op_gt (pe_op op_add (pe_meth (pv 0) T.cl FL.m FL.ok hr4 FL.b .nil pass0 (pa_cons (pv 2) pa_nil)) (pv 3)) (pe_meth (pv 0) T.cl WO.m WO.ok hr WO.b .nil pass0 (pa_cons (pv 2) pa_nil)) (nomark _)) (pss_one (ps_ret pe_bl)) pss_nil)))))
      (pss_one (ps_ret pe_bl))), ?_⟩
    have hh : (∃ dd, Dt K H v dd ∧ dictD dd = false ∧ oo = none) ∨ ∃ (d : Addr) (ks vs : List V) (n : Nat), v = .ref d ∧ PreE P w H M d ks vs n ∧ oo.isSome = decide (n = ks.length) := by
      cases th with
      | nod hd nd => exact .inl ⟨_, hd, nd, rfl⟩
      | rgt hd rm => exact .inr ⟨_, _, _, _, rfl, rm.pre hd, by rw [List.length_map]; simp⟩
      | bad pe ln => exact .inr ⟨_, _, _, _, rfl, pe, by rw [decide_eq_false (by omega)]; rfl⟩
    rcases hh with ⟨dd, hd, nd, rfl⟩ | ⟨d, ks, vs, n, ev, pe, eo⟩
    · refine ⟨v, rfl, .inl ⟨v, .ty "dict", _, _, dictD dd, rfl, .ty "dict", hd.ty, kit_dict dd, _, rfl, ?_⟩⟩
      rw [nd]
      exact iteT (q _ (Same.refl _))
    subst ev
    obtain ⟨u, lk, hd⟩ := pe.any
    refine ⟨.ref d, rfl, .inr ⟨d, ks, vs, rfl, ⟨u, lk, hd⟩, _, rfl, iteF ?_⟩⟩
    refine ⟨d, _, hd, lk.mut, fun od => ?_⟩
    have kpL : ∀ c o, c ≠ d → H c = some o → upd H d (.frz od u) c = some o := fun c o n e => by rw [upd_ne n]; exact e
    have hbL := book_lock lk hd kpL hb
    have bdL : ∀ k v, ks[n]? = some k → vs[n]? = some v → BadE (upd H d (.frz od u)) M k v := fun k v e1 e2 => (pe.bd k v e1 e2).lock lk hd kpL e1
    have lkL : LkD P w (upd H d (.frz od u)) d ks vs u := lk.keep fun c xs e => kpL _ _ (lk.ne hd e (fun _ z => nomatch z) (fun _ z => nomatch z)) e
    obtain ⟨dx, tn, on, wg, ws, wd, e, h1, hn, h2, h3, h4⟩ := hbL.ex
    have hdL : upd H d (.frz od u) d = some (.frz od u) := upd_same
    have un : ∀ H', Same (upd H d (.frz od u)) H' → Same H (upd H' d u) := fun H' s' => same_unlock hd s'
    have ll := lk.len
    generalize upd H d (.frz od u) = HL at hbL e h1 h2 h3 h4 hdL un bdL lkL
    refine ⟨.ref d, rfl, d, od, ks, vs, u, rfl, lkL, hdL, fun J hJ => ?_⟩
    refine for_it hJ (fun i σ H' => i ≤ n ∧ ∃ y2 y3, σ = [some (.ref b), some (.ref d), y2, y3] ∧ Same HL H') ⟨Nat.zero_le _, _, _, rfl, Same.refl _⟩ (fun i σ H' _ hP => ?_) (fun i x σ H1' H1 hi hP hY => ?_) (fun σ H' hP => ?_)
    · obtain ⟨_, _, _, _, s1⟩ := hP
      exact s1 _ _ hdL
    · obtain ⟨Tt, x1, x2, rfl, nT, rfl, e1, e2⟩ := hY
      obtain ⟨iln, y2, y3, rfl, s1⟩ := hP
      have e1 : ks[i]? = some x1 := e1
      have e2 : vs[i]? = some x2 := e2
      have s2 := s1.trans (same_upd (o := .tup [x1, x2]) nT)
      have hT : upd H1' Tt (.tup [x1, x2]) Tt = some (.tup [x1, x2]) := upd_same
      generalize upd H1' Tt (.tup [x1, x2]) = H2 at s2 hT
      refine ⟨Tt, [x1, x2], rfl, .inl (.inl hT), rfl, _, _, rfl, _, _, rfl, rfl, ?_⟩
      by_cases c : i < n
      · obtain ⟨j, z, l, fl, m, rfl, rfl, ej, el, ef, m0, mw⟩ := pe.gd i x1 x2 c e1 e2
        have hm : z ∈ M.names := List.mem_of_getElem? ej
        have lz := (nameT_len (ok.nm z hm)).2
        refine ⟨.ref b, rfl, b, dx, _, rfl, s2 _ _ e, bf_no (NoF.mk' (by decide +kernel)), .str z, rfl, b, M, .str z, .str z, rfl, book_same hbL s2, ok.names, .str z, (fun y ey => by cases ey; omega), fun H3 s3 => ⟨_, rfl, ?_⟩⟩
        have eh : hasD M (.str z) = true := decide_eq_true hm
        rw [eh]
        refine iteF ⟨.int m, rfl, .int m, .int m, rfl, .int m, (fun y ey => by cases ey), fun H4 s4 => ⟨_, rfl, iteF ⟨.int m, rfl, _, _, rfl, rfl, _, rfl, ?_⟩⟩⟩
        rw [show decide (m < 0) = false from decide_eq_false (by omega)]
        have s24 := s2.trans (s3.trans s4)
        refine iteF ⟨.ref b, rfl, b, dx, _, rfl, s24 _ _ e, bf_no (NoF.mk' (by decide +kernel)), .str z, rfl, b, M, z, j, fl, rfl, book_same hbL s24, ok.names, ej, ef, fun H5 s5 => ⟨.int m, rfl, fl, m, rfl, rfl, ?_⟩⟩
        have s25 := s24.trans s5
        refine ⟨.ref b, rfl, b, dx, _, rfl, s25 _ _ e, bf_no (NoF.mk' (by decide +kernel)), .str z, rfl, b, M, z, j, rfl, book_same hbL s25, ok, ej, fun H6 s6 => ⟨_, _, rfl, rfl, _, rfl, ?_⟩⟩
        show if decide (wholeN (M.stacks.getD j []) < fl + m) = true then _ else _
        rw [getD_of el, show decide (wholeN l < fl + m) = false from decide_eq_false (by omega)]
        exact iteF ⟨c, _, _, rfl, s25.trans s6⟩
      · obtain rfl : i = n := by omega
        have out : ∀ H', Same HL H' → H' d = some (.frz od u) ∧ Q (.bl false) (upd H' d u) := fun H' s' => ⟨s' _ _ hdL, by
          have := q _ (un _ s')
          rw [eo, decide_eq_false (by omega)] at this
          exact this⟩
        rcases bdL x1 x2 e1 e2 with ⟨e', fe, sd, he⟩ | ⟨j, z, l, fl, rfl, ej, el, ef, h⟩
        · have fe2 : FlV H2 x1 e' := fe.keep fun c o ec _ => s2 c o ec
          refine ⟨.ref b, rfl, b, dx, _, rfl, s2 _ _ e, bf_no (NoF.mk' (by decide +kernel)), x1, rfl, b, M, x1, e', rfl, book_same hbL s2, ok.names, fe2.dt, sd, fun H3 s3 => ⟨_, rfl, ?_⟩⟩
          rw [he]
          exact iteT (out _ (s2.trans s3))
        · have hm : z ∈ M.names := List.mem_of_getElem? ej
          have lz := (nameT_len (ok.nm z hm)).2
          refine ⟨.ref b, rfl, b, dx, _, rfl, s2 _ _ e, bf_no (NoF.mk' (by decide +kernel)), .str z, rfl, b, M, .str z, .str z, rfl, book_same hbL s2, ok.names, .str z, (fun y ey => by cases ey; omega), fun H3 s3 => ⟨_, rfl, ?_⟩⟩
          have eh : hasD M (.str z) = true := decide_eq_true hm
          rw [eh]
          rcases h with ⟨e', fe, sd, we⟩ | ⟨m, rfl, hm'⟩
          · have fe3 : FlY H3 x2 e' := fe.keep fun c o ec _ => s3 _ _ (s2 c o ec)
            refine iteF ⟨x2, rfl, x2, e', rfl, fe3.dt, sd, fun H4 s4 => ⟨_, rfl, ?_⟩⟩
            rw [we]
            exact iteT (out _ (s2.trans (s3.trans s4)))
          · refine iteF ⟨.int m, rfl, .int m, .int m, rfl, .int m, (fun y ey => by cases ey), fun H4 s4 => ⟨_, rfl, iteF ⟨.int m, rfl, _, _, rfl, rfl, _, rfl, ?_⟩⟩⟩
            have s24 := s2.trans (s3.trans s4)
            by_cases m0 : m < 0
            · rw [decide_eq_true m0]
              exact iteT (out _ s24)
            · rw [decide_eq_false m0]
              refine iteF ⟨.ref b, rfl, b, dx, _, rfl, s24 _ _ e, bf_no (NoF.mk' (by decide +kernel)), .str z, rfl, b, M, z, j, fl, rfl, book_same hbL s24, ok.names, ej, ef, fun H5 s5 => ⟨.int m, rfl, fl, m, rfl, rfl, ?_⟩⟩
              have s25 := s24.trans s5
              refine ⟨.ref b, rfl, b, dx, _, rfl, s25 _ _ e, bf_no (NoF.mk' (by decide +kernel)), .str z, rfl, b, M, z, j, rfl, book_same hbL s25, ok, ej, fun H6 s6 => ⟨_, _, rfl, rfl, _, rfl, ?_⟩⟩
              show if decide (wholeN (M.stacks.getD j []) < fl + m) = true then _ else _
              rw [getD_of el, show decide (wholeN l < fl + m) = true from decide_eq_true (by omega)]
              exact iteT (out _ (s25.trans s6))
    · obtain ⟨iln, _, _, rfl, s1⟩ := hP
      refine ⟨s1 _ _ hdL, ?_⟩
      have := q _ (un _ s1)
      rw [eo, decide_eq_true (by have := pe.nn; omega)] at this
      exact this
end
end Rc

namespace Rc
open PySem PySem.Spec PyProof.Rows L2 RZ
/-! ### Short -/
abbrev sHV : Stmt := inClass (topS 7) 0
theorem txHV : EX.Txt sHV ["who"] :=
  ⟨by simp, by decide, rfl, rfl, rfl, by decide +kernel, rfl, rfl, rfl, fun f hf => by
      obtain rfl := List.mem_singleton.mp hf
      exact ⟨rfl, by decide, by decide⟩, by decide, ⟨_, rfl, rfl⟩,
    fun _ _ _ _ _ _ _ _ vs hl => match vs, hl with | [v], _ => rfl, ⟨_, _, _, _, _, _, _, _, rfl, ⟨_, fun _ => rfl⟩, .cons .nil⟩⟩
abbrev ClsHV (P : Program) (K : PySem.W.Frag) (mg : Str → Option Value) (C : Addr) : Prop :=
  EX.Cx' P K mg "Short" sHV ["who"] "ArithmeticError" "ArithmeticError.__new__" "ArithmeticError.__init__" [.type "ArithmeticError", .type "Exception", .type "BaseException", .type "object"] C
/-- the first in order whose cash would be below 0 -/
def ShortM (M : Bk) (ps : List (Str × Int)) (z : Str) : Prop := ∃ i : Nat, M.names[i]? = some z ∧ cashM (fallM M ps) i z < 0 ∧ ∀ (j : Nat) (y : Str), j < i → M.names[j]? = some y → 0 ≤ cashM (fallM M ps) j y
section
variable {P : Program} {w : World} {K : PySem.W.Frag} {mg : Str → Option Value} {base : Heap}
/-! ### let_fall -/
def spLetT (K : PySem.W.Frag) (C : Addr) : Sp := fun vs H Q _ => ∃ (b d : Addr) (M : Bk) (ps : List (Str × Int)), vs = [.ref b, .ref d] ∧ BookAt K C H b M ∧ M.Ok ∧ H d = some (.dK (moreK ps)) ∧ RightM M ps ∧ (∀ (j : Nat) (z : Str), M.names[j]? = some z → 0 ≤ cashM (fallM M ps) j z) ∧
  ∀ b' H', Same H H' → H b' = none → BookAt K C H' b' (fallM M ps) → Q (.ref b') H'
theorem ok_letT {f f1 f2 f3 f4 C : Addr} {fd fd1 fd2 fd3 fd4 : FuncData} (F : Fun K "let_fall" "Book.let_fall" sLetF f fd) (T : ClsF K C) (B3 : Blt3 mg)
    (MF : HasM P w K mg base C 6 "may_fall" ["self", "more"] (spMayT P w K C) f1 fd1) (FL : HasM P w K mg base C 4 "fallen" ["self", "who"] (spNum K C Bk.drops) f2 fd2)
    (WT : HasM P w K mg base C 5 "with_these" ["self", "gifts", "stacks", "drops"] (spWith K C) f3 fd3) (CS : HasM P w K mg base C 5 "cash" ["self", "who"] (spCalc K C cashM) f4 fd4) :
    FnOk P w K mg base CX0 7 f fd ["self", "more"] (spLetT K C) := by
  refine F.ok scLetF (fun vs H Q E h => ?_) (fun cdv A outer s H vs Q E hr h => ?_)
  · obtain ⟨_, _, _, _, rfl, _⟩ := h
    rfl
  · obtain ⟨b, d, M, ps, rfl, hb, ok, hd, rm, cs, q⟩ := h
    have hu := hu_of hr
    have hr4 := hr.mono (show 4 ≤ 6 by decide)
    have hr5 := hr.mono (show 5 ≤ 6 by decide)
    refine ⟨_, pss_cons (ps_if (pt_not (pt_val (pe_meth (pv 0) T.cl MF.m MF.ok hr MF.b .nil pass0 (pa_cons (pv 1) pa_nil)))) pss_never pss_nil)
      (pss_cons (ps_set (i := 3) scLetF.nd rfl (.inl rfl) (pe_callTy call_tupD (by rfl) B3.tuple (by decide +kernel) (pa_cons
          (pe_lc (own := [("who", 2)]) (g := gName 2) (tt := tYes) rfl scLetF.nd (pi_tup (pe_fld (pv 0) rfl)) (blkOk_by (N := nLetF) (sc := defScope sLetF) (own := [("who", 2)]) (by decide +kernel))
            (fun _ _ _ _ _ => pg_name (i := 2) scLetF.nd rfl (.inl rfl) (hf := .inr rfl)) (fun _ _ _ _ _ => pts_nil)
            (fun _ _ _ _ _ => pe_op op_add (pe_meth (pv 0) T.cl FL.m FL.ok hr4 FL.b .nil pass0 (pa_cons (pv 2) pa_nil)) (pe_dget2 hu (pv 1) (pv 2) pe_int ⟨rfl, rfl, rfl, rfl⟩))) pa_nil)))
      (pss_cons (ps_set (i := 4) scLetF.nd rfl (.inl rfl) (pe_meth (pv 0) T.cl WT.m WT.ok hr5 WT.b .nil pass0 (pa_cons (pe_fld (pv 0) rfl) (pa_cons (pe_fld (pv 0) rfl) (pa_cons (pv 3) pa_nil)))))
      (pss_cons (ps_for PassesOwn.never rfl (pi_tup (pe_fld (pv 0) rfl)) (pg_name (i := 2) scLetF.nd rfl (.inl rfl))
        (pss_one (ps_if (pt_cmpR op_lt (pe_meth (pv 4) T.cl CS.m CS.ok hr5 CS.b .nil pass0 (pa_cons (pv 2) pa_nil)) pe_int (nomark _)) pss_never pss_nil)))
      (pss_one (ps_ret (pv 4)))))), ?_⟩
    obtain ⟨dx, tn, on, wg, ws, wd, e, h1, hn, h2, h3, h4⟩ := hb.ex
    refine ⟨.ref b, rfl, b, dx, _, rfl, e, bf_no (NoF.mk' (by decide +kernel)), .ref d, rfl, b, M, .ref d, some ps, rfl, hb, ok, .rgt hd rm, fun H1 s1 => ⟨_, rfl, iteF ?_⟩⟩
    have qn : SqT K H tn (M.names.map V.str) := .inl (.inr ⟨on, h1⟩)
    refine ⟨.ref b, rfl, b, C, dx, _, _, rfl, s1 _ _ e, T.cl, T.n1, bf_names, tn, rfl, ⟨_, same_seqT s1 qn⟩, fun D nD => ?_⟩
    have lnm : (M.names.map V.str).length = M.names.length := List.length_map ..
    have lzp : (M.names.zip M.drops).length = M.names.length := by rw [List.length_zip, ok.ld, Nat.min_self]
    have n12 := ok.n1
    refine lc_it (walk_tup (K := K) (a := tn) (xs := M.names.map V.str)) (fun i H' => Same H1 H' ∧ H' D = some (.lst ((((M.names.zip M.drops).take i).map fun p => p.2 + moreAt ps p.1).map V.int))) ⟨same_upd nD, upd_same⟩ (fun i H' _ hP => same_seqT hP.1 (same_seqT s1 qn))
      (fun i x H2' H2 hi hP hY => ?_) (fun H2 hP => ?_)
    · obtain ⟨rfl, hx⟩ := hY
      rw [lnm] at hi
      have hid : i < M.drops.length := by rw [ok.ld]; exact hi
      have ex : x = .str M.names[i] := by
        rw [List.getElem?_map, List.getElem?_eq_getElem hi] at hx
        exact (Option.some.inj hx).symm
      subst ex
      have s12 := s1.trans hP.1
      refine ⟨rfl, .ref b, rfl, b, dx, _, rfl, s12 _ _ e, bf_no (NoF.mk' (by decide +kernel)), _, rfl, b, M, _, i, _, rfl, book_same hb s12, ok.names, List.getElem?_eq_getElem hi, List.getElem?_eq_getElem hid, fun H3 s3 => ?_⟩
      have s13 := s12.trans s3
      refine ⟨.ref d, rfl, d, rfl, .inl ⟨_, .inl (s13 _ _ hd)⟩, _, rfl, _, DGet.k (k := Sum.inr M.names[i]) (s13 _ _ hd), ?_⟩
      rw [more_val]
      refine ⟨_, _, rfl, rfl, _, s3 _ _ hP.2, ?_, fun c o ec => ?_, ?_⟩
      · rw [List.length_map, List.length_map, List.length_take]
        exact small1000 (by omega)
      · rw [upd_ne (ne_of_none ec nD)]
        exact s3 _ _ (hP.1 c o ec)
      · have tk : (M.names.zip M.drops).take (i + 1) = (M.names.zip M.drops).take i ++ [(M.names[i], M.drops[i])] := by
          rw [List.take_add_one, List.getElem?_zip_eq_some (z := (M.names[i], M.drops[i])) |>.mpr ⟨List.getElem?_eq_getElem hi, List.getElem?_eq_getElem hid⟩]
          rfl
        rw [upd_same, tk, List.map_append, List.map_append]
        rfl
    · obtain ⟨s2, hD⟩ := hP
      rw [lnm, List.take_of_length_le (by rw [lzp]; exact Nat.le_refl _)] at hD
      have ed : ((M.names.zip M.drops).map fun p => p.2 + moreAt ps p.1) = (fallM M ps).drops := rfl
      rw [ed] at hD
      refine ⟨.ref D, ((fallM M ps).drops).map .int, rfl, .lst (.inl (.inl hD)) (DtAll.ints _), fun t H3 s3 dt => ?_⟩
      have s13 := s1.trans (s2.trans s3)
      refine ⟨.ref b, rfl, b, dx, _, rfl, s13 _ _ e, bf_no (NoF.mk' (by decide +kernel)), .ref b, rfl, b, C, dx, _, _, rfl, s13 _ _ e, T.cl, T.n2, bf_gifts, .ref b, rfl, b, C, dx, _, _, rfl, s13 _ _ e, T.cl, T.n3, bf_stacks, t, rfl,
        b, M, _, _, _, M.gifts, M.stacks, (fallM M ps).drops, rfl, book_same hb s13, ok.names, Dt.same s13 _ h2, Dt.same s13 _ h3, dt, fun b' H4 s4 nb hb' => ?_⟩
      have s14 := s13.trans s4
      have hb4 : BookAt K C H4 b' (fallM M ps) := hb'
      refine ⟨.ref b, rfl, b, C, dx, _, _, rfl, s14 _ _ e, T.cl, T.n1, bf_names, tn, rfl, ⟨_, same_seqT s14 qn⟩, ?_⟩
      obtain ⟨dx2, tn2, on2, vg2, vs2, vd2, e2, k1, kn, k2, k3, k4⟩ := hb4.ex
      refine for_it (walk_tup (K := K) (a := tn) (xs := M.names.map V.str)) (fun i σ H' => ∃ y2, σ = [some (.ref b), some (.ref d), y2, some t, some (.ref b')] ∧ Same H4 H') ⟨_, rfl, Same.refl _⟩ (fun i σ H' _ hP => ?_) (fun i x σ H5' H5 hi hP hY => ?_) (fun σ H' hP => ?_)
      · obtain ⟨_, _, s5⟩ := hP
        exact same_seqT s5 (same_seqT s14 qn)
      · obtain ⟨rfl, hx⟩ := hY
        obtain ⟨y2, rfl, s5⟩ := hP
        rw [lnm] at hi
        have ex : x = .str M.names[i] := by
          rw [List.getElem?_map, List.getElem?_eq_getElem hi] at hx
          exact (Option.some.inj hx).symm
        subst ex
        have ei : M.names[i]? = some M.names[i] := List.getElem?_eq_getElem hi
        refine ⟨.ref b', rfl, b', dx2, _, rfl, s5 _ _ e2, bf_no (NoF.mk' (by decide +kernel)), _, rfl, b', fallM M ps, _, i, rfl, book_same hb4 s5, fall_ok ok ps, ei, fun H6 s6 => ⟨_, _, rfl, rfl, _, rfl, ?_⟩⟩
        have c0 := cs i _ ei
        rw [show decide (cashM (fallM M ps) i M.names[i] < 0) = false from decide_eq_false (by omega)]
        exact iteF ⟨_, rfl, s5.trans s6⟩
      · obtain ⟨y2, rfl, s5⟩ := hP
        exact ⟨.ref b', rfl, q b' H' (s14.trans s5) (s13.free nb) (book_same hb4 s5)⟩
def spLetX (P : Program) (w : World) (K : PySem.W.Frag) (C D S : Addr) : Sp := fun vs H _ E => ∃ (b : Addr) (M : Bk) (v : V), vs = [.ref b, v] ∧ BookAt K C H b M ∧ M.Ok ∧
  ((Thg P w K H M v none ∧ ∀ H', Same H H' → E (.ref D) none H') ∨ ∃ (d : Addr) (ps : List (Str × Int)) (z : Str), v = .ref d ∧ H d = some (.dK (moreK ps)) ∧ RightM M ps ∧ ShortM M ps z ∧ ∀ H' dd, Same H H' → H' dd = some (.xd [("who", .str z)]) → E (.ref S) (some dd) H')
set_option maxHeartbeats 1000000 in
theorem no_letT {f f1 f2 f3 f4 C : Addr} {fd fd1 fd2 fd3 fd4 : FuncData} {D CB S : Addr} (F : Fun K "let_fall" "Book.let_fall" sLetF f fd) (T : ClsF K C) (B3 : Blt3 mg) (PV : ClsP K mg "NoVector" D CB) (XS : ClsHV P K mg S)
    (MF : HasM P w K mg base C 6 "may_fall" ["self", "more"] (spMayT P w K C) f1 fd1) (FL : HasM P w K mg base C 4 "fallen" ["self", "who"] (spNum K C Bk.drops) f2 fd2)
    (WT : HasM P w K mg base C 5 "with_these" ["self", "gifts", "stacks", "drops"] (spWith K C) f3 fd3) (CS : HasM P w K mg base C 5 "cash" ["self", "who"] (spCalc K C cashM) f4 fd4) :
    FnOk P w K mg base (L2.CX P w) 7 f fd ["self", "more"] (spLetX P w K C D S) := by
  refine F.okX scLetF (fun vs H Q E h => ?_) (fun cdv A outer s H vs Q E hr h => ?_)
  · obtain ⟨_, _, _, rfl, _⟩ := h
    rfl
  · obtain ⟨b, M, v, rfl, hb, ok, h⟩ := h
    have hu := hu_of hr
    have hr1 := hr.mono (show 1 ≤ 6 by decide)
    have hr4 := hr.mono (show 4 ≤ 6 by decide)
    have hr5 := hr.mono (show 5 ≤ 6 by decide)
    have hr0 := hr
    rcases h with ⟨th, q⟩ | ⟨d, ps, z0, rfl, hd, rm, ⟨i0, ei0, lt0, fst0⟩, q⟩
    · obtain ⟨dx, tn, on, wg, ws, wd, e, h1, hn, h2, h3, h4⟩ := hb.ex
      refine ⟨_, pss_cons (ps_if (pt_not (pt_val (pe_meth (pv 0) T.cl MF.m MF.ok hr MF.b .nil pass0 (pa_cons (pv 1) pa_nil)))) (pss_one (ps_raise rfl (takes_of rfl rfl rfl rfl) (pmk_own PySem.F.excBase_ValueError PV.xP PV.gP PV.kP (raises_own PV.bP PV.tP) rfl))) pss_nil) pss_never, ?_⟩
      exact ⟨.ref b, rfl, b, dx, _, rfl, e, bf_no (NoF.mk' (by decide +kernel)), v, rfl, b, M, v, none, rfl, hb, ok, th, fun H1 s1 => ⟨_, rfl, iteT (q H1 s1)⟩⟩
    refine ⟨_, pss_cons (ps_if (pt_not (pt_val (pe_meth (pv 0) T.cl MF.m MF.ok hr MF.b .nil pass0 (pa_cons (pv 1) pa_nil)))) pss_never pss_nil)
      (pss_cons (ps_set (i := 3) scLetF.nd rfl (.inl rfl) (pe_callTy call_tupD (by rfl) B3.tuple (by decide +kernel) (pa_cons
          (pe_lc (own := [("who", 2)]) (g := gName 2) (tt := tYes) rfl scLetF.nd (pi_tup (pe_fld (pv 0) rfl)) (blkOk_by (N := nLetF) (sc := defScope sLetF) (own := [("who", 2)]) (by decide +kernel))
            (fun _ _ _ _ _ => pg_name (i := 2) scLetF.nd rfl (.inl rfl) (hf := .inr rfl)) (fun _ _ _ _ _ => pts_nil)
            (fun _ _ _ _ _ => pe_op op_add (pe_meth (pv 0) T.cl FL.m FL.ok hr4 FL.b .nil pass0 (pa_cons (pv 2) pa_nil)) (pe_dget2 hu (pv 1) (pv 2) pe_int ⟨rfl, rfl, rfl, rfl⟩))) pa_nil)))
      (pss_cons (ps_set (i := 4) scLetF.nd rfl (.inl rfl) (pe_meth (pv 0) T.cl WT.m WT.ok hr5 WT.b .nil pass0 (pa_cons (pe_fld (pv 0) rfl) (pa_cons (pe_fld (pv 0) rfl) (pa_cons (pv 3) pa_nil)))))
      (pss_cons (ps_for (passes_of rfl) rfl (pi_tup (pe_fld (pv 0) rfl)) (pg_name (i := 2) scLetF.nd rfl (.inl rfl))
        (pss_one (ps_if (pt_cmpR op_lt (pe_meth (pv 4) T.cl CS.m CS.ok hr5 CS.b .nil pass0 (pa_cons (pv 2) pa_nil)) pe_int (nomark _)) (pss_one (ps_raise rfl (takes_of rfl rfl rfl rfl) (pmk_ex XS txHV EX.base_Arith hr1 (pa_cons (pv 2) pa_nil) (by rfl)))) pss_nil)))
      pss_never))), ?_⟩
    obtain ⟨dx, tn, on, wg, ws, wd, e, h1, hn, h2, h3, h4⟩ := hb.ex
    refine ⟨.ref b, rfl, b, dx, _, rfl, e, bf_no (NoF.mk' (by decide +kernel)), .ref d, rfl, b, M, .ref d, some ps, rfl, hb, ok, .rgt hd rm, fun H1 s1 => ⟨_, rfl, iteF ?_⟩⟩
    have qn : SqT K H tn (M.names.map V.str) := .inl (.inr ⟨on, h1⟩)
    refine ⟨.ref b, rfl, b, C, dx, _, _, rfl, s1 _ _ e, T.cl, T.n1, bf_names, tn, rfl, ⟨_, same_seqT s1 qn⟩, fun D nD => ?_⟩
    have lnm : (M.names.map V.str).length = M.names.length := List.length_map ..
    have lzp : (M.names.zip M.drops).length = M.names.length := by rw [List.length_zip, ok.ld, Nat.min_self]
    have n12 := ok.n1
    refine lc_it (walk_tup (K := K) (a := tn) (xs := M.names.map V.str)) (fun i H' => Same H1 H' ∧ H' D = some (.lst ((((M.names.zip M.drops).take i).map fun p => p.2 + moreAt ps p.1).map V.int))) ⟨same_upd nD, upd_same⟩ (fun i H' _ hP => same_seqT hP.1 (same_seqT s1 qn))
      (fun i x H2' H2 hi hP hY => ?_) (fun H2 hP => ?_)
    · obtain ⟨rfl, hx⟩ := hY
      rw [lnm] at hi
      have hid : i < M.drops.length := by rw [ok.ld]; exact hi
      have ex : x = .str M.names[i] := by
        rw [List.getElem?_map, List.getElem?_eq_getElem hi] at hx
        exact (Option.some.inj hx).symm
      subst ex
      have s12 := s1.trans hP.1
      refine ⟨rfl, .ref b, rfl, b, dx, _, rfl, s12 _ _ e, bf_no (NoF.mk' (by decide +kernel)), _, rfl, b, M, _, i, _, rfl, book_same hb s12, ok.names, List.getElem?_eq_getElem hi, List.getElem?_eq_getElem hid, fun H3 s3 => ?_⟩
      have s13 := s12.trans s3
      refine ⟨.ref d, rfl, d, rfl, .inl ⟨_, .inl (s13 _ _ hd)⟩, _, rfl, _, DGet.k (k := Sum.inr M.names[i]) (s13 _ _ hd), ?_⟩
      rw [more_val]
      refine ⟨_, _, rfl, rfl, _, s3 _ _ hP.2, ?_, fun c o ec => ?_, ?_⟩
      · rw [List.length_map, List.length_map, List.length_take]
        exact small1000 (by omega)
      · rw [upd_ne (ne_of_none ec nD)]
        exact s3 _ _ (hP.1 c o ec)
      · have tk : (M.names.zip M.drops).take (i + 1) = (M.names.zip M.drops).take i ++ [(M.names[i], M.drops[i])] := by
          rw [List.take_add_one, List.getElem?_zip_eq_some (z := (M.names[i], M.drops[i])) |>.mpr ⟨List.getElem?_eq_getElem hi, List.getElem?_eq_getElem hid⟩]
          rfl
        rw [upd_same, tk, List.map_append, List.map_append]
        rfl
    · obtain ⟨s2, hD⟩ := hP
      rw [lnm, List.take_of_length_le (by rw [lzp]; exact Nat.le_refl _)] at hD
      have ed : ((M.names.zip M.drops).map fun p => p.2 + moreAt ps p.1) = (fallM M ps).drops := rfl
      rw [ed] at hD
      refine ⟨.ref D, ((fallM M ps).drops).map .int, rfl, .lst (.inl (.inl hD)) (DtAll.ints _), fun t H3 s3 dt => ?_⟩
      have s13 := s1.trans (s2.trans s3)
      refine ⟨.ref b, rfl, b, dx, _, rfl, s13 _ _ e, bf_no (NoF.mk' (by decide +kernel)), .ref b, rfl, b, C, dx, _, _, rfl, s13 _ _ e, T.cl, T.n2, bf_gifts, .ref b, rfl, b, C, dx, _, _, rfl, s13 _ _ e, T.cl, T.n3, bf_stacks, t, rfl,
        b, M, _, _, _, M.gifts, M.stacks, (fallM M ps).drops, rfl, book_same hb s13, ok.names, Dt.same s13 _ h2, Dt.same s13 _ h3, dt, fun b' H4 s4 nb hb' => ?_⟩
      have s14 := s13.trans s4
      have hb4 : BookAt K C H4 b' (fallM M ps) := hb'
      refine ⟨.ref b, rfl, b, C, dx, _, _, rfl, s14 _ _ e, T.cl, T.n1, bf_names, tn, rfl, ⟨_, same_seqT s14 qn⟩, ?_⟩
      obtain ⟨dx2, tn2, on2, vg2, vs2, vd2, e2, k1, kn, k2, k3, k4⟩ := hb4.ex
      refine for_it (walk_tup (K := K) (a := tn) (xs := M.names.map V.str)) (fun i σ H' => i ≤ i0 ∧ ∃ y2, σ = [some (.ref b), some (.ref d), y2, some t, some (.ref b')] ∧ Same H4 H') ⟨Nat.zero_le _, _, rfl, Same.refl _⟩ (fun i σ H' _ hP => ?_) (fun i x σ H5' H5 hi hP hY => ?_) (fun σ H' hP => ?_)
      · obtain ⟨_, _, _, s5⟩ := hP
        exact same_seqT s5 (same_seqT s14 qn)
      · obtain ⟨rfl, hx⟩ := hY
        obtain ⟨ile, y2, rfl, s5⟩ := hP
        rw [lnm] at hi
        have ex : x = .str M.names[i] := by
          rw [List.getElem?_map, List.getElem?_eq_getElem hi] at hx
          exact (Option.some.inj hx).symm
        subst ex
        have ei : M.names[i]? = some M.names[i] := List.getElem?_eq_getElem hi
        refine ⟨.ref b', rfl, b', dx2, _, rfl, s5 _ _ e2, bf_no (NoF.mk' (by decide +kernel)), _, rfl, b', fallM M ps, _, i, rfl, book_same hb4 s5, fall_ok ok ps, ei, fun H6 s6 => ⟨_, _, rfl, rfl, _, rfl, ?_⟩⟩
        by_cases c : i = i0
        · subst c
          rw [ei] at ei0
          cases ei0
          rw [decide_eq_true lt0]
          exact iteT ⟨_, rfl, rfl, fun dd nd => q _ dd ((s14.trans (s5.trans s6)).trans (same_upd nd)) upd_same⟩
        · have c0 := fst0 i _ (by omega) ei
          rw [show decide (cashM (fallM M ps) i M.names[i] < 0) = false from decide_eq_false (by omega)]
          exact iteF ⟨by omega, _, rfl, s5.trans s6⟩
      · obtain ⟨ile, _⟩ := hP
        have := (List.getElem?_eq_some_iff.mp ei0).1
        rw [lnm] at ile
        omega
end
end Rc

namespace Rc
open PySem PySem.Spec PyProof.Rows L2 RZ
/-! ### deeds at a book of which some has fallen -/
theorem gone_snoc {x : Str × Int} (hx : 1 ≤ x.2) : ∀ {l : List (Str × Int)} {f : Int}, (∀ n ∈ l, 1 ≤ n.2) → 0 ≤ f → f ≤ wholeN l → goneN (l ++ [x]) f = goneN l f
  | [], f, _, f0, fw => by
    have e : wholeN [] = 0 := rfl
    rw [e] at fw
    have e0 : f = 0 := by omega
    subst e0
    obtain ⟨t, a⟩ := x
    have ha : 1 ≤ a := hx
    show goneN [(t, a)] 0 = goneN [] 0
    rw [goneN_cons, goneN_nil, goneN_nil]
    have : partOf a 0 = 0 := by
      unfold partOf
      rw [if_pos (by omega)]
    rw [this, if_neg (by omega)]
    rfl
  | (t, a) :: r, f, h, f0, fw => by
    have h1 : 1 ≤ a := h _ List.mem_cons_self
    have hr : ∀ n ∈ r, 1 ≤ n.2 := fun m hm => h m (List.mem_cons_of_mem _ hm)
    have w0 := wholeN_nonneg hr
    rw [wholeN_cons] at fw
    have fw' : f ≤ a + wholeN r := fw
    show goneN ((t, a) :: (r ++ [x])) f = _
    rw [goneN_cons, goneN_cons]
    have hp : 0 ≤ f - partOf a f ∧ f - partOf a f ≤ wholeN r := by
      unfold partOf
      split <;> omega
    rw [gone_snoc hx hr hp.1 hp.2]
theorem whole_snoc (l : List (Str × Int)) (x : Str × Int) : wholeN (l ++ [x]) = wholeN l + x.2 := by
  unfold wholeN
  rw [List.map_append, List.sum_append]
  simp
structure Bd (D : Md) (k : Nat) : Prop where
  gv : ∀ g ∈ D.given, 0 ≤ g ∧ g ≤ (k : Int) * 10 ^ 58
  my : (D.notes.map List.length).sum ≤ k
theorem Gd.bd {zs : List Str} {D : Md} {k : Nat} (h : Gd zs D k) : Bd D k := ⟨h.gv, h.my⟩
theorem deed_ok {zs : List Str} {D : Md} {k : Nat} {d : Deed} (g : Gs zs D) (gb : Gb D) (bd : Bd D k) (hk : k + 1 ≤ 60) (od : d.Ok zs) : Gs zs (doneD zs D d) ∧ Gb (doneD zs D d) ∧ Bd (doneD zs D d) (k + 1) := by
  have mono : ∀ g ∈ D.given, 0 ≤ g ∧ g ≤ ((k + 1 : Nat) : Int) * 10 ^ 58 := fun g hg => by
    obtain ⟨a, b⟩ := bd.gv g hg
    refine ⟨a, Int.le_trans b (Int.mul_le_mul_of_nonneg_right (by omega) (by decide))⟩
  have le100 : ∀ {x : Int}, x ≤ ((k + 1 : Nat) : Int) * 10 ^ 58 → x ≤ 100 * 10 ^ 58 := fun {x} hx => Int.le_trans hx (Int.mul_le_mul_of_nonneg_right (by omega) (by decide))
  cases d with
  | give z n =>
    obtain ⟨hz, n1, n2⟩ := od
    have hj : zs.idxOf z < D.given.length := by
      rw [g.lg]
      exact List.idxOf_lt_length_of_mem hz
    have b' : Bd (doneD zs D (.give z n)) (k + 1) := by
      refine ⟨fun x hx => ?_, Nat.le_succ_of_le bd.my⟩
      rcases List.mem_or_eq_of_mem_set hx with hx | hx
      · exact mono x hx
      · obtain ⟨a, b⟩ := bd.gv (D.given.getD (zs.idxOf z) 0) (by
          rw [List.getD_eq_getElem?_getD, List.getElem?_eq_getElem hj]
          exact List.getElem_mem hj)
        have e : ((k + 1 : Nat) : Int) * 10 ^ 58 = (k : Int) * 10 ^ 58 + 10 ^ 58 := by
          rw [Int.natCast_add, Int.add_mul]
          rfl
        rw [hx, e]
        omega
    refine ⟨⟨g.nz, g.nt, g.fl, g.my, by show (D.given.set _ _).length = _; rw [List.length_set]; exact g.lg, g.lf, g.ln, fun j y ej => ?_⟩, ⟨fun x hx => ⟨(b'.gv x hx).1, le100 (b'.gv x hx).2⟩, gb.fw⟩, b'⟩
    have c0 := g.cs j y ej
    rw [cash_eq] at c0 ⊢
    unfold cashD at c0 ⊢
    show 0 ≤ (D.given.set (zs.idxOf z) (D.given.getD (zs.idxOf z) 0 + n)).getD j 0 - D.fallen.getD j 0 + sumsD D y
    by_cases e : j = zs.idxOf z
    · subst e
      have : (D.given.set (zs.idxOf z) (D.given.getD (zs.idxOf z) 0 + n)).getD (zs.idxOf z) 0 = D.given.getD (zs.idxOf z) 0 + n := getD_of (List.getElem?_set_self hj)
      rw [this]
      omega
    · have : (D.given.set (zs.idxOf z) (D.given.getD (zs.idxOf z) 0 + n)).getD j 0 = D.given.getD j 0 := by
        rw [List.getD_eq_getElem?_getD, List.getElem?_set_ne (fun z => e z.symm)]
        exact (List.getD_eq_getElem?_getD).symm
      rw [this]
      exact c0
  | put z y n =>
    obtain ⟨hz, hy, n1, n2⟩ := od
    have hj : zs.idxOf z < D.notes.length := by
      rw [g.ln]
      exact List.idxOf_lt_length_of_mem hz
    have hjf : zs.idxOf z < D.fallen.length := by
      rw [g.lf]
      exact List.idxOf_lt_length_of_mem hz
    have el := List.getElem?_eq_getElem hj
    have ef := List.getElem?_eq_getElem hjf
    have e0 : D.notes.getD (zs.idxOf z) [] = D.notes[zs.idxOf z] := getD_of el
    have b' : Bd (doneD zs D (.put z y n)) (k + 1) := by
      refine ⟨mono, ?_⟩
      have := sum_set D.notes (zs.idxOf z) (D.notes.getD (zs.idxOf z) [] ++ [(y, n)]) hj
      rw [List.length_append] at this
      have e1 : [(y, n)].length = 1 := rfl
      have := bd.my
      show ((D.notes.set _ _).map List.length).sum ≤ k + 1
      omega
    have hn1 : ∀ x ∈ D.notes[zs.idxOf z], 1 ≤ x.2 := fun x hx => (g.nt _ (List.getElem_mem hj) x hx).2.1
    have f0 := g.fl _ (List.getElem_mem hjf)
    have fw := gb.fw _ _ _ el ef
    have gs : goneN (D.notes.getD (zs.idxOf z) [] ++ [(y, n)]) D.fallen[zs.idxOf z] = goneN D.notes[zs.idxOf z] D.fallen[zs.idxOf z] := by
      rw [e0]
      exact gone_snoc n1 hn1 f0 fw
    have sm : ∀ q, sumsD (doneD zs D (.put z y n)) q = sumsD D q := fun q => by
      unfold sumsD
      congr 1
      have hl : (D.notes.set (zs.idxOf z) (D.notes.getD (zs.idxOf z) [] ++ [(y, n)])).length = D.notes.length := List.length_set
      refine List.ext_getElem (by show ((List.zip (D.notes.set _ _) D.fallen).map _).length = _; simp) fun i h1 h2 => ?_
      simp only [List.length_map, List.length_zip] at h2
      show (((D.notes.set (zs.idxOf z) (D.notes.getD (zs.idxOf z) [] ++ [(y, n)])).zip D.fallen).map fun p => sumTo q (goneN p.1 p.2))[i]'(by simp; omega) = _
      simp only [List.getElem_map, List.getElem_zip]
      by_cases e : i = zs.idxOf z
      · subst e
        rw [List.getElem_set_self]
        exact congrArg (sumTo q) gs
      · rw [List.getElem_set_ne (fun z => e z.symm)]
    refine ⟨⟨g.nz, fun l hl m hm => ?_, g.fl, Nat.le_trans b'.my hk, g.lg, g.lf, by show (D.notes.set _ _).length = _; rw [List.length_set]; exact g.ln, fun j q ej => ?_⟩, ⟨fun x hx => ⟨(b'.gv x hx).1, le100 (b'.gv x hx).2⟩, fun j l f e1 e2 => ?_⟩, b'⟩
    · rcases List.mem_or_eq_of_mem_set hl with hl | hl
      · exact g.nt l hl m hm
      · rw [hl] at hm
        rcases List.mem_append.mp hm with hm | hm
        · rw [e0] at hm
          exact g.nt _ (List.getElem_mem hj) m hm
        · rw [List.mem_singleton.mp hm]
          exact ⟨hy, n1, n2⟩
    · have c0 := g.cs j q ej
      rw [cash_eq] at c0 ⊢
      unfold cashD at c0 ⊢
      rw [sm]
      exact c0
    · have e1' : (D.notes.set (zs.idxOf z) (D.notes.getD (zs.idxOf z) [] ++ [(y, n)]))[j]? = some l := e1
      have e2' : D.fallen[j]? = some f := e2
      by_cases e : j = zs.idxOf z
      · subst e
        rw [List.getElem?_set_self hj, e0] at e1'
        rw [ef] at e2'
        cases e1'
        cases e2'
        rw [whole_snoc]
        have : 1 ≤ n := n1
        show _ ≤ _ + n
        omega
      · rw [List.getElem?_set_ne (fun z => e z.symm)] at e1'
        exact gb.fw j l f e1' e2'
end Rc

namespace Rc
open PySem PySem.Spec PyProof.Rows L2 RZ
theorem Gs.wholeB {zs : List Str} {D : Md} (g : Gs zs D) {l : List (Str × Int)} (hl : l ∈ D.notes) : 0 ≤ wholeN l ∧ wholeN l ≤ 60 * 10 ^ 58 := by
  have h1 := wholeN_le (g.nt l hl)
  have h2 := g.rows l hl
  have h3 : ((l.length : Nat) : Int) * 10 ^ 58 ≤ 60 * 10 ^ 58 := Int.mul_le_mul_of_nonneg_right (by omega) (by decide)
  exact ⟨wholeN_nonneg fun n hn => (g.nt l hl n hn).2.1, by omega⟩
theorem whole_left17 : ∀ {l : List (Str × Int)} {f : Int}, (∀ n ∈ l, 1 ≤ n.2) → 0 ≤ f → f ≤ wholeN l → wholeN (leftN l f) = wholeN l - f
  | [], f, _, f0, fw => by
    have e : wholeN [] = 0 := rfl
    rw [e] at fw
    show wholeN [] = wholeN [] - f
    rw [e]
    omega
  | (t, a) :: r, f, h, f0, fw => by
    have ha : 1 ≤ a := h (t, a) List.mem_cons_self
    have p2 : 0 ≤ f - partOf a f := by
      unfold partOf
      split <;> omega
    have w0 := wholeN_nonneg (l := r) fun n hn => h n (List.mem_cons_of_mem _ hn)
    rw [wholeN_cons] at fw ⊢
    have fw' : f ≤ a + wholeN r := fw
    have pf : f - partOf a f ≤ wholeN r ∧ partOf a f ≤ a := by
      unfold partOf
      split <;> omega
    have ih := whole_left17 (l := r) (f := f - partOf a f) (fun n hn => h n (List.mem_cons_of_mem _ hn)) p2 pf.1
    rw [leftN_cons]
    show wholeN _ = a + wholeN r - f
    split
    · have : wholeN ([(t, a - partOf a f)] ++ leftN r (f - partOf a f)) = (a - partOf a f) + wholeN (leftN r (f - partOf a f)) := wholeN_cons _ _
      rw [this, ih]
      omega
    · rw [List.nil_append, ih]
      omega
theorem whole_take {l : List (Str × Int)} {i : Nat} (h : i < l.length) : wholeN (l.take (i + 1)) = wholeN (l.take i) + l[i].2 := by
  rw [take_succ h, whole_snoc]
section
variable {P : Program} {w : World} {K : PySem.W.Frag} {mg : Str → Option Value} {base : Heap}
/-! ### _law_ends_of -/
abbrev sLEn : Stmt := topS 40
abbrev nLEn : List Str := ["_law_model_here", "_law_who", "_law_found", "_law_end", "_law_to", "_law_amount_here"]
theorem scLEn : FnScope nLEn ["_law_model_here", "_law_who"] (defScope sLEn) := ⟨rfl, rfl, rfl, by decide +kernel, rfl, by decide +kernel, by decide +kernel⟩
def spLEn (K : PySem.W.Frag) : Sp := fun vs H Q _ => ∃ (a : MdA) (D : Md) (zs : List Str) (z : Str) (j : Nat) (l : List (Str × Int)) (f : Int), vs = [.ref a.m, .str z] ∧ ModelAt K H zs a D ∧ zs[j]? = some z ∧ D.notes[j]? = some l ∧ D.fallen[j]? = some f ∧ Gs zs D ∧
  ∀ t es H', Same H H' → H t = none → H' t = some (.lst (List.map V.int es)) → 1 ≤ es.length → es.length ≤ 200 → (∀ x ∈ es, 0 ≤ x ∧ x ≤ wholeN (leftN l f) + 1) → Q (.ref t) H'
set_option maxHeartbeats 2000000 in
theorem ok_len {f f1 : Addr} {fd fd1 : FuncData} (F : Fun K "_law_ends_of" "_law_ends_of" sLEn f fd) (B2 : Blt2 mg) (LL : Has P w K mg base 2 "_law_left" ["_law_model_here", "_law_who"] (spLLf K) f1 fd1) : FnOk P w K mg base CX0 3 f fd ["_law_model_here", "_law_who"] (spLEn K) := by
  refine F.ok scLEn (fun vs H Q E h => ?_) (fun cdv Ar outer s H vs Q E hr h => ?_)
  · obtain ⟨_, _, _, _, _, _, _, rfl, _⟩ := h
    rfl
  · obtain ⟨a, D, zs, z, j, l, f0, rfl, hM, ej, el, ef, g, q⟩ := h
    have hu := hu_of hr
    refine ⟨_, (pss_cons (ps_par (i := 2) (j := 3) rfl scLEn.nd rfl rfl (by decide) rfl rfl (pa_cons (pe_lst (pa_cons pe_int pa_nil)) (pa_cons pe_int pa_nil)) (by rfl)) (pss_cons (ps_for PassesOwn.never rfl (pi_list (pe_call LL.ok hr (by rfl) LL.g LL.kp LL.b .nil pass0 (pa_cons (pv 0) (pa_cons (pv 1) pa_nil)))) (pg_tup rfl (pgs_cons (pg_name (i := 4) scLEn.nd rfl (.inl rfl)) (pgs_cons (pg_name (i := 5) scLEn.nd rfl (.inl rfl)) pgs_nil))) (pss_cons (ps_set (i := 3) scLEn.nd rfl (.inl rfl) (pe_op op_add (pv 3) (pv 5))) (pss_one (ps_set (i := 2) scLEn.nd rfl (.inl rfl) (pe_op op_cat (pv 2) (pe_lst (pa_cons (pe_callB (call_max2 rfl) (by rfl) B2.max (by decide +kernel) (pa_cons pe_int (pa_cons (pe_op op_sub (pv 3) pe_int) pa_nil))) (pa_cons (pv 3) (pa_cons (pe_op op_add (pv 3) pe_int) pa_nil))))))))) (pss_one (ps_ret (pv 2))))), ?_⟩
    have hlm := List.mem_of_getElem? el
    have ll := g.rows l hlm
    have pos := g.left el ef
    have lp : (leftN l f0).length ≤ 60 := Nat.le_trans (leftN_len _ _) ll
    generalize hpl : leftN l f0 = pl at pos lp q
    refine ⟨by show 1 ≤ sizeLine; decide, fun F0 nF0 => ?_⟩
    have s1 := same_upd (o := .lst [V.int 0]) nF0
    have hF : upd H F0 (.lst [V.int 0]) F0 = some (.lst [V.int 0]) := upd_same
    generalize upd H F0 (.lst [V.int 0]) = H1 at s1 hF
    have hM1 := model_same hM s1
    refine ⟨_, _, rfl, .ref a.m, rfl, .str z, rfl, a, D, zs, z, j, l, f0, rfl, hM1, ej, el, ef, by omega, fun m mx H2 s2 nm hm dm => ⟨m, rfl, ⟨_, .inl (.inl hm)⟩, ?_⟩⟩
    rw [hpl] at dm
    have lx : mx.length = pl.length := by
      rw [dm.len]
      unfold notesD
      rw [List.length_map]
    have s12 := s1.trans s2
    refine for_it (walk_list (K := K) (a := m) (xs := mx)) (fun i σ H' => ∃ (F : Addr) (es : List Int) (y4 y5 : Option V), σ = [some (.ref a.m), some (.str z), some (.ref F), some (.int (wholeN (pl.take i))), y4, y5] ∧ Same H2 H' ∧ H F = none ∧ H' F = some (.lst (es.map V.int)) ∧ es.length = 1 + 3 * i ∧ ∀ x ∈ es, 0 ≤ x ∧ x ≤ wholeN (pl.take i) + 1)
      ⟨F0, [0], _, _, rfl, Same.refl _, nF0, s2 _ _ hF, rfl, fun x hx => by rw [List.mem_singleton.mp hx]; show (0 : Int) ≤ 0 ∧ (0 : Int) ≤ 0 + 1; omega⟩ (fun i σ H' _ hP => ?_) (fun i x σ H3' H3 hi hP hY => ?_) (fun σ H' hP => ?_)
    · obtain ⟨_, _, _, _, _, s3, _⟩ := hP
      exact .inl (.inl (s3 _ _ hm))
    · obtain ⟨rfl, hx⟩ := hY
      obtain ⟨F, es, y4, y5, rfl, s3, nF, hF3, le, be⟩ := hP
      obtain ⟨hil, dn⟩ := (DtAll.same s3 _ dm).notes_get hx
      obtain ⟨na, rfl, qn⟩ := note_inv dn
      have p1 : 1 ≤ pl[i].2 := (pos _ (List.getElem_mem hil)).2.1
      have w0 : 0 ≤ wholeN (pl.take i) := wholeN_nonneg fun n hn => (pos n (List.mem_of_mem_take hn)).2.1
      have wt := whole_take hil
      refine ⟨na, _, rfl, qn, rfl, _, _, rfl, _, _, rfl, rfl, ?_⟩
      refine ⟨_, rfl, _, rfl, _, _, rfl, rfl, .ref F, rfl, _, rfl, _, _, rfl, rfl, _, _, rfl, _, rfl, _, rfl, _, _, rfl, rfl, by show 3 ≤ sizeLine; decide, fun G nG => ?_⟩
      have nGF : F ≠ G := fun z => by rw [← z, hF3] at nG; cases nG
      refine ⟨F, G, _, _, rfl, rfl, (by rw [upd_ne nGF]; exact hF3), upd_same, by rw [List.length_map, le]; exact small_line (by show 1 + 3 * i + 3 ≤ 1000; omega), fun R nR => ?_⟩
      refine ⟨R, es ++ [(if wholeN (pl.take i) + pl[i].2 - 1 > 0 then wholeN (pl.take i) + pl[i].2 - 1 else 0), wholeN (pl.take i) + pl[i].2, wholeN (pl.take i) + pl[i].2 + 1], some (.str pl[i].1), some (.int pl[i].2), ?_, s3.trans ((same_upd nG).trans (same_upd nR)), ?_, ?_, ?_, ?_⟩
      · rw [wt]
        rfl
      · exact (s12.trans (s3.trans (same_upd nG))).free nR
      · rw [upd_same, List.map_append]
        rfl
      · rw [List.length_append, le]
        show 1 + 3 * i + 3 = _
        omega
      · intro x hx
        rw [wt]
        rcases List.mem_append.mp hx with hx | hx
        · have := be x hx
          omega
        · simp only [List.mem_cons, List.not_mem_nil, or_false] at hx
          rcases hx with rfl | rfl | rfl
          · split <;> omega
          · omega
          · omega
    · obtain ⟨F, es, _, _, rfl, s3, nF, hF3, le, be⟩ := hP
      rw [lx, List.take_length] at be
      exact ⟨.ref F, rfl, q F es H' (s12.trans s3) nF hF3 (by omega) (by rw [lx] at le; omega) be⟩
end
end Rc

namespace Rc
open PySem PySem.Spec PyProof.Rows L2 RZ
/-- what is drawn to fall more -/
structure MoreOk (zs : List Str) (ps : List (Str × Int)) : Prop where
  nd : (ps.map (·.1)).Nodup
  mem : ∀ p ∈ ps, p.1 ∈ zs ∧ 0 ≤ p.2 ∧ p.2 ≤ 60 * 10 ^ 58 + 1
theorem MoreOk.len {zs : List Str} {ps : List (Str × Int)} (h : MoreOk zs ps) : ps.length ≤ zs.length := by
  have := nodup_le _ _ h.nd fun y hy => by
    obtain ⟨p, hp, rfl⟩ := List.mem_map.mp hy
    exact (h.mem p hp).1
  rw [List.length_map] at this
  exact this
theorem more_put {zs : List Str} {ps : List (Str × Int)} {z : Str} {x : Int} (h : MoreOk zs ps) (hz : z ∈ zs) (x0 : 0 ≤ x) (x1 : x ≤ 60 * 10 ^ 58 + 1) : ∃ qs, putK (moreK ps) (Sum.inr z) (.int x) = moreK qs ∧ MoreOk zs qs := by
  by_cases c : ∃ p ∈ ps, p.1 = z
  · refine ⟨ps.map fun p => if p.1 = z then (p.1, x) else p, ?_, ?_, fun p hp => ?_⟩
    · unfold putK moreK
      rw [if_pos]
      · rw [List.map_map, List.map_map]
        refine List.map_congr_left fun p _ => ?_
        show (if (Sum.inr p.1 : Key) = Sum.inr z then _ else _) = _
        by_cases e : p.1 = z
        · rw [if_pos (congrArg Sum.inr e)]
          show _ = ((Sum.inr (if p.1 = z then (p.1, x) else p).1 : Key), V.int (if p.1 = z then (p.1, x) else p).2)
          rw [if_pos e]
        · rw [if_neg (fun q => e (Sum.inr.inj q))]
          show _ = ((Sum.inr (if p.1 = z then (p.1, x) else p).1 : Key), V.int (if p.1 = z then (p.1, x) else p).2)
          rw [if_neg e]
      · obtain ⟨p, hp, e⟩ := c
        rw [List.any_map, List.any_eq_true]
        exact ⟨p, hp, decide_eq_true (congrArg Sum.inr e)⟩
    · rw [List.map_map]
      have : ((fun p : Str × Int => p.1) ∘ fun p => if p.1 = z then (p.1, x) else p) = fun p => p.1 := funext fun p => by
        show (if p.1 = z then (p.1, x) else p).1 = p.1
        split <;> rfl
      rw [this]
      exact h.nd
    · obtain ⟨q, hq, rfl⟩ := List.mem_map.mp hp
      by_cases e : q.1 = z
      · rw [if_pos e]
        exact ⟨(h.mem q hq).1, x0, x1⟩
      · rw [if_neg e]
        exact h.mem q hq
  · have no : ∀ p ∈ ps, ¬ p.1 = z := fun p hp e => c ⟨p, hp, e⟩
    refine ⟨ps ++ [(z, x)], ?_, ?_, fun p hp => ?_⟩
    · rw [put_new]
      · unfold moreK
        rw [List.map_append]
        rfl
      · intro kv hk
        unfold moreK at hk
        obtain ⟨p, hp, rfl⟩ := List.mem_map.mp hk
        exact fun q => no p hp (Sum.inr.inj q)
    · rw [List.map_append]
      refine List.nodup_append.mpr ⟨h.nd, by simp, fun y hy y' hy' e => ?_⟩
      obtain ⟨p, hp, rfl⟩ := List.mem_map.mp hy
      have : y' = z := by simpa using hy'
      exact no p hp (e.trans this)
    · rcases List.mem_append.mp hp with hp | hp
      · exact h.mem p hp
      · rw [List.mem_singleton.mp hp]
        exact ⟨hz, x0, x1⟩
theorem pairs_put {K : PySem.W.Frag} {H' : Hp} {D t : Addr} {ps : List Addr} {zs : List Str} {vs : List V} {z : Str} {v : V} (hD : H' D = some (.lst (ps.map V.ref))) (hp : PairsAt K H' ps (dct zs vs)) (l : vs.length = zs.length) (nt : H' t = none) :
    upd (upd H' t (.tup [.str z, v])) D (.lst (ps.map V.ref ++ [.ref t])) D = some (.lst ((ps ++ [t]).map V.ref)) ∧ PairsAt K (upd (upd H' t (.tup [.str z, v])) D (.lst (ps.map V.ref ++ [.ref t]))) (ps ++ [t]) (dct (zs ++ [z]) (vs ++ [v])) := by
  obtain ⟨_, a2, a3, _⟩ := pairs_step (H0 := fun _ => none) (z := z) (v := v) rfl (fun _ _ e => by cases e) hD hp l nt
  exact ⟨a2, a3⟩
theorem amt_ok {zs : List Str} {D : Md} (g : Gs zs D) {y : Str} (hy : y ∈ zs) (hx : ∃ x, nxD zs D y = some x) : 1 ≤ amtAt zs (duesM (bkOf zs D)) y ∧ amtAt zs (duesM (bkOf zs D)) y ≤ 10 ^ 58 := by
  have ej := idx_get hy
  have hj : zs.idxOf y < zs.length := (List.getElem?_eq_some_iff.mp ej).1
  obtain ⟨l, el⟩ : ∃ l, D.notes[zs.idxOf y]? = some l := ⟨_, List.getElem?_eq_getElem (by rw [g.ln]; exact hj)⟩
  obtain ⟨f, ef⟩ : ∃ f, D.fallen[zs.idxOf y]? = some f := ⟨_, List.getElem?_eq_getElem (by rw [g.lf]; exact hj)⟩
  obtain ⟨x, hx⟩ := hx
  rw [nxD_at g.nz.nd ej el ef] at hx
  have eo : (duesM (bkOf zs D)).getD (zs.idxOf y) none = (leftN l f).head? := getD_of (dues_at (M := bkOf zs D) el ef)
  have gl := g.left el ef
  cases hL : leftN l f with
  | nil =>
    rw [hL] at hx
    cases hx
  | cons n t =>
    rw [hL] at eo gl
    have ea : amtAt zs (duesM (bkOf zs D)) y = n.2 := by
      unfold amtAt
      rw [eo]
      rfl
    rw [ea]
    exact (gl n List.mem_cons_self).2
section
variable {P : Program} {w : World} {K : PySem.W.Frag} {mg : Str → Option Value} {base : Heap}
/-! ### _law_more -/
abbrev sLMo : Stmt := topS 41
abbrev nLMo : List Str := ["_law_pot_here", "_law_model_here", "_law_found", "_law_who", "_law_left_here", "_law_to", "_law_amount_here", "_law_kind", "_law_ring_here", "_law_least", "_law_one"]
theorem scLMo : FnScope nLMo ["_law_pot_here", "_law_model_here"] (defScope sLMo) := ⟨rfl, rfl, rfl, by decide +kernel, rfl, by decide +kernel, by decide +kernel⟩
def spLMo (K : PySem.W.Frag) : Sp := fun vs H Q _ => ∃ (p : Addr) (a : MdA) (D : Md) (zs : List Str), vs = [.ref p, .ref a.m] ∧ Pot H p ∧ ModelAt K H zs a D ∧ ¬ a.Has p ∧ Gs zs D ∧ Gb D ∧ ∀ d ps H', But p H H' → Pot H' p → H d = none → d ≠ p → H' d = some (.dK (moreK ps)) → MoreOk zs ps → Q (.ref d) H'
set_option maxHeartbeats 4000000 in
theorem ok_lmo {f fT fA f1 f2 f3 f4 : Addr} {fd fdT fdA fd1 fd2 fd3 fd4 : FuncData} (F : Fun K "_law_more" "_law_more" sLMo f fd) (B2 : Blt2 mg) (B3 : Blt3 mg) (TK : HasTake P w K mg base fT fdT) (AM : HasAmong P w K mg base fA fdA)
    (LL : Has P w K mg base 2 "_law_left" ["_law_model_here", "_law_who"] (spLLf K) f1 fd1) (CS : Has P w K mg base 2 "_law_cash" ["_law_model_here", "_law_who"] (spLCs K) f2 fd2) (RG : Has P w K mg base 5 "_law_ring" ["_law_model_here", "_law_who"] (spLRg K) f3 fd3) (EN : Has P w K mg base 3 "_law_ends_of" ["_law_model_here", "_law_who"] (spLEn K) f4 fd4) :
    FnOk P w K mg base CX0 6 f fd ["_law_pot_here", "_law_model_here"] (spLMo K) := by
  refine F.ok scLMo (fun vs H Q E h => ?_) (fun cdv Ar outer s H vs Q E0 hr h => ?_)
  · obtain ⟨_, _, _, _, rfl, _⟩ := h
    rfl
  · obtain ⟨p, a, D, zs, rfl, hp, hM, nap, g, gb, q⟩ := h
    have hu := hu_of hr
    have hr1 := hr.mono (show 1 ≤ 5 by decide)
    have hr2 := hr.mono (show 2 ≤ 5 by decide)
    have hr3 := hr.mono (show 3 ≤ 5 by decide)
    refine ⟨_, (pss_cons (ps_set (i := 2) scLMo.nd rfl (.inl rfl) pe_dnewK) (C8.pss_cut (ps_for PassesOwn.never rfl (pi_list (pe_dget hu (pv 1) pe_str (fun _ _ => rfl))) (pg_name (i := 3) scLMo.nd rfl (.inl rfl)) (pss_cons (ps_set (i := 4) scLMo.nd rfl (.inl rfl) (pe_callB (cr_sum rfl) (by rfl) B3.sum (by decide +kernel) (pa_cons (pe_lc (own := [("_law_to", 5), ("_law_amount_here", 6)]) (g := gTup K 2 (gCons (gName 5) (gCons (gName 6) gNil))) (tt := tYes) rfl scLMo.nd (pi_list (pe_call LL.ok hr2 (by rfl) LL.g LL.kp LL.b .nil pass0 (pa_cons (pv 1) (pa_cons (pv 3) pa_nil)))) (blkOk_by (N := nLMo) (sc := defScope sLMo) (own := [("_law_to", 5), ("_law_amount_here", 6)]) (by decide +kernel)) (fun _ _ _ _ _ => pg_tup rfl (pgs_cons (pg_name (i := 5) scLMo.nd rfl (.inl rfl) (hf := .inr rfl)) (pgs_cons (pg_name (i := 6) scLMo.nd rfl (.inl rfl) (hf := .inr rfl)) pgs_nil))) (fun _ _ _ _ _ => pts_nil) (fun _ _ _ _ _ => (pv 6))) pa_nil))) (pss_cons (ps_set (i := 7) scLMo.nd rfl (.inl rfl) (pe_call TK.ok hr1 (by rfl) TK.g TK.kp TK.b .nil pass0 (pa_cons (pv 0) (pa_cons pe_int pa_nil)))) (C8.pss_cut (ps_if (pt_cmpR op_eq (pv 7) pe_int (nomark _)) (pss_one (ps_dput hu (pv 2) (pv 3) (pe_callB (call_min2 rfl) (by rfl) B2.min (by decide +kernel) (pa_cons (pv 4) (pa_cons (pe_callB (call_max2 rfl) (by rfl) B2.max (by decide +kernel) (pa_cons pe_int (pa_cons (pe_call CS.ok hr2 (by rfl) CS.g CS.kp CS.b .nil pass0 (pa_cons (pv 1) (pa_cons (pv 3) pa_nil))) pa_nil))) pa_nil))) rfl)) pss_nil) (C8.pss_cut (ps_if (pt_cmpR op_eq (pv 7) pe_int (nomark _)) (pss_one (ps_dput hu (pv 2) (pv 3) (pe_call AM.ok hr2 (by rfl) AM.g AM.kp AM.b .nil pass0 (pa_cons (pv 0) (pa_cons (pe_call EN.ok hr3 (by rfl) EN.g EN.kp EN.b .nil pass0 (pa_cons (pv 1) (pa_cons (pv 3) pa_nil))) pa_nil))) rfl)) pss_nil) (C8.pss_cut (ps_if (pt_cmpR op_in_seq (pv 7) (pe_tup (pa_cons pe_int (pa_cons pe_int pa_nil))) (by rfl)) (pss_one (ps_dput hu (pv 2) (pv 3) (pe_ix ix_list (pe_lst (pa_cons (pv 4) (pa_cons (pe_callB (call_min2 rfl) (by rfl) B2.min (by decide +kernel) (pa_cons (pv 4) (pa_cons pe_int pa_nil))) pa_nil))) (pe_op op_sub (pv 7) pe_int) (fun _ _ => rfl)) rfl)) pss_nil) (pss_one (ps_if (pt_cmpR op_eq (pv 7) pe_int (nomark _)) (pss_one (ps_dput hu (pv 2) (pv 3) (pe_callB (call_min2 rfl) (by rfl) B2.min (by decide +kernel) (pa_cons (pv 4) (pa_cons (pe_call TK.ok hr1 (by rfl) TK.g TK.kp TK.b .nil pass0 (pa_cons (pv 0) (pa_cons pe_int pa_nil))) pa_nil))) rfl)) pss_nil)))))))) (pss_cons (ps_set (i := 3) scLMo.nd rfl (.inl rfl) (pe_call AM.ok hr2 (by rfl) AM.g AM.kp AM.b .nil pass0 (pa_cons (pv 0) (pa_cons (pe_dget hu (pv 1) pe_str (fun _ _ => rfl)) pa_nil)))) (pss_cons (ps_set (i := 8) scLMo.nd rfl (.inl rfl) (pe_call RG.ok hr (by rfl) RG.g RG.kp RG.b .nil pass0 (pa_cons (pv 1) (pa_cons (pv 3) pa_nil)))) (pss_cons (ps_if (PW.pt (pw_and (pt_cmpR op_notN (pv 8) pe_non (nomark _)) (pw_and1 (pt_cmpR op_eq (pe_call TK.ok hr1 (by rfl) TK.g TK.kp TK.b .nil pass0 (pa_cons (pv 0) (pa_cons pe_int pa_nil))) pe_int (nomark _))))) (pss_cons (ps_set (i := 9) scLMo.nd rfl (.inr rfl) (pe_callB (cr_min rfl) (by rfl) B2.min (by decide +kernel) (pa_cons (pe_lc (own := [("_law_one", 10)]) (g := gName 10) (tt := tYes) rfl scLMo.nd (pi_list (pv 8)) (blkOk_by (N := nLMo) (sc := defScope sLMo) (own := [("_law_one", 10)]) (by decide +kernel)) (fun _ _ _ _ _ => pg_name (i := 10) scLMo.nd rfl (.inl rfl) (hf := .inr rfl)) (fun _ _ _ _ _ => pts_nil) (fun _ _ _ _ _ => pe_ix (ix_tupS (K := K) rfl) (pe_ix (ix_listS (K := K) rfl) (pe_call LL.ok hr2 (by rfl) LL.g LL.kp LL.b .nil pass0 (pa_cons (pv 1) (pa_cons (pv 10) pa_nil))) pe_int (fun _ _ => rfl)) pe_int (fun _ _ => rfl))) pa_nil))) (pss_one (ps_set (i := 2) scLMo.nd rfl (.inl rfl) (pe_callTy (call_dictP rfl) (by rfl) B3.dict (by decide +kernel) (pa_cons (pe_lc (own := [("_law_one", 10)]) (g := gName 10) (tt := tYes) rfl scLMo.nd (pi_list (pv 8)) (blkOk_by (N := nLMo) (sc := defScope sLMo) (own := [("_law_one", 10)]) (by decide +kernel)) (fun _ _ _ _ _ => pg_name (i := 10) scLMo.nd rfl (.inl rfl) (hf := .inr rfl)) (fun _ _ _ _ _ => pts_nil) (fun _ _ _ _ _ => pe_tup (pa_cons (pv 10) (pa_cons (pe_ix (ix_listS (K := K) rfl) (pe_lst (pa_cons (pv 9) (pa_cons pe_int pa_nil))) (pe_op op_fdiv (pe_call TK.ok hr1 (by rfl) TK.g TK.kp TK.b .nil pass0 (pa_cons (pv 0) (pa_cons pe_int pa_nil))) pe_int) (fun _ _ => rfl)) pa_nil)))) pa_nil))))) pss_nil) (pss_one (ps_ret (pv 2)))))))), ?_⟩
    have lz := g.nz.n1
    have l0 := g.nz.n0
    have nlop : a.lo ≠ p := fun z => nap (.inr (.inl z.symm))
    intro d nd
    have dp : d ≠ p := hp.ne nd
    have s0 := same_upd (o := .dK []) nd
    have hd0 : upd H d (.dK []) d = some (.dK (moreK [])) := upd_same
    generalize upd H d (.dK []) = H0 at s0 hd0
    have hM0 := model_same hM s0
    refine ⟨fun σ' H' => ∃ y3 y4 y7, ∃ ps : List (Str × Int), σ' = [some (.ref p), some (.ref a.m), some (.ref d), y3, y4, none, none, y7, none, none, none] ∧ But p H H' ∧ Pot H' p ∧ H' d = some (.dK (moreK ps)) ∧ MoreOk zs ps, ?_, ?_⟩
    · refine ⟨.ref a.m, rfl, a.m, .ref a.lo, rfl, hM0.g0, a.lo, rfl, ⟨_, .inl (.inl hM0.ho)⟩, ?_⟩
      refine for_it (walk_list (K := K) (a := a.lo) (xs := zs.map V.str)) (fun i σ H' => ∃ (y3 y4 y7 : Option V) (ps : List (Str × Int)), σ = [some (.ref p), some (.ref a.m), some (.ref d), y3, y4, none, none, y7, none, none, none] ∧ But p H H' ∧ Pot H' p ∧ H' d = some (.dK (moreK ps)) ∧ MoreOk zs ps)
        ⟨_, _, _, [], rfl, same_but s0, hp.same s0, hd0, by simp, fun x hx => by cases hx⟩ (fun i σ H' _ hP => ?_) (fun i x σ H1' H1 hi hP hY => ?_) (fun σ H1 hP => ?_)
      · obtain ⟨_, _, _, _, _, bt, _⟩ := hP
        exact .inl (.inl (bt _ _ nlop hM.ho))
      · obtain ⟨rfl, hx⟩ := hY
        obtain ⟨y3, y4, y7, ps, rfl, bt1, hp1, hd1, mo1⟩ := hP
        rw [List.length_map] at hi
        have ei := List.getElem?_eq_getElem hi
        have exx : x = .str zs[i] := by
          rw [List.getElem?_map, ei] at hx
          exact (Option.some.inj hx).symm
        subst exx
        generalize zs[i] = z at ei
        have hz : z ∈ zs := List.mem_of_getElem? ei
        have hM1 := model_but hM bt1 hp nap
        obtain ⟨gv, f', l, r, xs, eg, ef, el, er, hr0, dr0⟩ := hM1.at_ ei
        have hlm := List.mem_of_getElem? el
        have ll := g.rows l hlm
        obtain ⟨W0, W1⟩ := g.wholeB hlm
        have f0 := g.fl f' (List.mem_of_getElem? ef)
        have fw := gb.fw i l f' el ef
        have eW := whole_left17 (fun n hn => (g.nt l hlm n hn).2.1) f0 fw
        have lp : (leftN l f').length ≤ 60 := Nat.le_trans (leftN_len _ _) ll
        generalize hpl : leftN l f' = pl at eW lp
        -- left
        refine ⟨.ref a.m, rfl, .str z, rfl, a, D, zs, z, i, l, f', rfl, hM1, ei, el, ef, by omega, fun m mx H2 s2 nm hm dm => ⟨m, rfl, ⟨_, .inl (.inl hm)⟩, fun D1 nD1 => ?_⟩⟩
        rw [hpl] at dm
        have lx : mx.length = pl.length := by
          rw [dm.len]
          unfold notesD
          rw [List.length_map]
        refine lc_it (walk_list (K := K) (a := m) (xs := mx)) (fun i' H' => Same H2 H' ∧ H' D1 = some (.lst ((pl.take i').map fun n => .int n.2))) ⟨same_upd nD1, upd_same⟩ (fun i' H' _ hP => hP.1.seq (.inl (.inl hm)))
          (fun i' x' H3' H3 hi' hP hY => ?_) (fun H3 hP => ?_)
        · obtain ⟨rfl, hx'⟩ := hY
          obtain ⟨hil, dn⟩ := (DtAll.same hP.1 _ dm).notes_get hx'
          obtain ⟨na, rfl, qn⟩ := note_inv dn
          refine ⟨na, _, rfl, qn, rfl, _, _, rfl, _, _, rfl, rfl, rfl, _, rfl, _, hP.2, ?_, fun c o ec => ?_, ?_⟩
          · rw [List.length_map, List.length_take]
            exact small1000 (by omega)
          · rw [upd_ne (ne_of_none ec nD1)]
            exact hP.1 c o ec
          · rw [upd_same, take_succ hil, List.map_append]
            rfl
        obtain ⟨s3, hD1⟩ := hP
        refine ⟨D1, pl.map (·.2), rfl, .inl (.inl ?_), ?_⟩
        · rw [hD1, lx, List.take_length, List.map_map]
          rfl
        have eS : (pl.map (·.2)).sum = wholeN pl := rfl
        rw [eS]
        show ∃ _, _
        generalize hWh : wholeN pl = Wh at eW
        have Wh0 : 0 ≤ Wh ∧ Wh ≤ 60 * 10 ^ 58 := by omega
        have s13 := s2.trans s3
        have hp3 := hp1.same s13
        refine ⟨.ref p, rfl, p, 8, rfl, hp3, litM _ (by decide) (by decide), fun kind H4 kd0 kd1 hp4 bt4 => ?_⟩
        have bt14 := (same_but s13).trans bt4
        have bt04 := bt1.trans bt14
        have hd4 := bt14 _ _ dp hd1
        -- one way behind the other
        have put : ∀ {H' : Hp} {qs : List (Str × Int)} {x : Int}, But p H H' → Pot H' p → H' d = some (.dK (moreK qs)) → MoreOk zs qs → 0 ≤ x → x ≤ 60 * 10 ^ 58 + 1 → ∃ H'', DPut H' d (.str z) (.int x) H'' ∧ But p H H'' ∧ Pot H'' p ∧ ∃ ps', H'' d = some (.dK (moreK ps')) ∧ MoreOk zs ps' := fun {H' qs x} b hp' hd' mo x0 x1 => by
          obtain ⟨rs, e, mo'⟩ := more_put mo hz x0 x1
          refine ⟨_, DPut.k (k := Sum.inr z) hd' (by unfold moreK; rw [List.length_map]; exact small1000 (by have := mo.len; omega)), fun c o n ec => ?_, ?_, rs, by rw [e, upd_same], mo'⟩
          · rw [upd_ne (ne_of_none ec nd)]
            exact b c o n ec
          · obtain ⟨u, v, e, h⟩ := hp'
            exact ⟨u, v, by rw [upd_ne dp.symm]; exact e, h⟩
        have nt2 : ∀ (k : Int), ∀ (c : kind = k), decide (V.int kind = V.int k) = true := fun k c => decide_eq_true (by rw [c])
        have nf2 : ∀ (k : Int), ¬ kind = k → decide (V.int kind = V.int k) = false := fun k c => decide_eq_false fun e => c (V.int.inj e)
        obtain ⟨A, eA⟩ : ∃ A : L2.St → Hp → Prop, A = fun σ' H' => ∃ ps' : List (Str × Int), σ' = [some (.ref p), some (.ref a.m), some (.ref d), some (.str z), some (.int Wh), none, none, some (.int kind), none, none, none] ∧ But p H H' ∧ Pot H' p ∧ H' d = some (.dK (moreK ps')) ∧ MoreOk zs ps' := ⟨_, rfl⟩
        have mk : ∀ {H' : Hp} {ps' : List (Str × Int)}, But p H H' → Pot H' p → H' d = some (.dK (moreK ps')) → MoreOk zs ps' → A [some (.ref p), some (.ref a.m), some (.ref d), some (.str z), some (.int Wh), none, none, some (.int kind), none, none, none] H' := fun {H' ps'} b1 b2 b3 b4 => by
          rw [eA]
          exact ⟨ps', rfl, b1, b2, b3, b4⟩
        have putA : ∀ {H' : Hp} {qs : List (Str × Int)} {x : Int}, But p H H' → Pot H' p → H' d = some (.dK (moreK qs)) → MoreOk zs qs → 0 ≤ x → x ≤ 60 * 10 ^ 58 + 1 → ∃ H'', DPut H' d (.str z) (.int x) H'' ∧ A [some (.ref p), some (.ref a.m), some (.ref d), some (.str z), some (.int Wh), none, none, some (.int kind), none, none, none] H'' := fun {H' qs x} b hp' hd' mo x0 x1 => by
          obtain ⟨H'', h1, h2, h3, ps', h4, h5⟩ := put b hp' hd' mo x0 x1
          exact ⟨H'', h1, mk h2 h3 h4 h5⟩
        refine ⟨A, ?_, fun σ5 H5 hA => ?_⟩
        · refine ⟨.int kind, rfl, rfl, _, rfl, ?_⟩
          by_cases c : kind = 1
          · rw [nt2 1 c]
            have hM4 := model_but hM bt04 hp nap
            refine iteT ⟨.int Wh, rfl, .ref a.m, rfl, .str z, rfl, a, D, zs, z, i, rfl, hM4, ei, g.rows, fun H5 s5 => ⟨_, _, rfl, _, _, rfl, ?_⟩⟩
            generalize cashD D i z = cc
            obtain ⟨H6, h1, h2⟩ := putA (x := if (if cc > 0 then cc else 0) < Wh then (if cc > 0 then cc else 0) else Wh) (bt04.trans (same_but s5)) (hp4.same s5) (s5 _ _ hd4) mo1 (by split <;> (try split) <;> omega) (by split <;> (try split) <;> omega)
            exact ⟨.ref d, rfl, .str z, rfl, d, H6, rfl, h1, h2⟩
          · rw [nf2 1 c]
            exact iteF (mk bt04 hp4 hd4 mo1)
        rw [eA] at hA
        obtain ⟨ps5, rfl, bt5, hp5, hd5, mo5⟩ := hA
        refine ⟨A, ?_, fun σ6 H6 hA => ?_⟩
        · refine ⟨.int kind, rfl, rfl, _, rfl, ?_⟩
          by_cases c : kind = 2
          · rw [nt2 2 c]
            have hM5 := model_but hM bt5 hp nap
            refine iteT ⟨.ref p, rfl, .ref a.m, rfl, .str z, rfl, a, D, zs, z, i, l, f', rfl, hM5, ei, el, ef, g, fun t es H6 s6 nt ht e1 e2 be => ⟨p, .ref t, rfl, hp5.same s6, .inr ⟨t, es.map V.int, rfl, hp5.ne nt, ht, by rw [List.length_map]; omega, by rw [List.length_map]; omega, fun x H7 hx hp7 b7 => ?_⟩⟩⟩
            obtain ⟨y, hy, rfl⟩ := List.mem_map.mp hx
            obtain ⟨y0, y1⟩ := be y hy
            rw [hpl, hWh] at y1
            have b57 := (same_but s6).trans b7
            obtain ⟨H8, h1, h2⟩ := putA (bt5.trans b57) hp7 (b57 _ _ dp hd5) mo5 y0 (by omega)
            exact ⟨.ref d, rfl, .str z, rfl, d, H8, rfl, h1, h2⟩
          · rw [nf2 2 c]
            exact iteF (mk bt5 hp5 hd5 mo5)
        rw [eA] at hA
        obtain ⟨ps6, rfl, bt6, hp6, hd6, mo6⟩ := hA
        refine ⟨A, ?_, fun σ7 H7 hA => ?_⟩
        · refine ⟨.int kind, rfl, by show 2 ≤ sizeLine; decide, fun t nt => ⟨t, _, rfl, .inr (.inl (.inl upd_same)), rfl, rfl, _, rfl, ?_⟩⟩
          have s7 := same_upd (o := .tup [V.int 3, V.int 4]) nt
          have hp7 := hp6.same s7
          generalize upd H6 t (.tup [V.int 3, V.int 4]) = H7 at s7 hp7
          have hd7 := s7 _ _ hd6
          have bt7 := bt6.trans (same_but s7)
          cases c : (if false = true then !inV (V.int kind) [V.int 3, V.int 4] else inV (V.int kind) [V.int 3, V.int 4]) with
          | false => exact iteF (mk bt7 hp7 hd7 mo6)
          | true =>
            have k34 : kind = 3 ∨ kind = 4 := by
              simp [inV, eqV] at c
              omega
            refine iteT ⟨.int Wh, rfl, .int Wh, rfl, _, _, rfl, by show 2 ≤ sizeLine; decide, fun t2 nt2' => ?_⟩
            have s8 := same_upd (o := .lst [V.int Wh, V.int (if (1 : Int) < Wh then 1 else Wh)]) nt2'
            have h8 : upd H7 t2 (.lst [V.int Wh, V.int (if (1 : Int) < Wh then 1 else Wh)]) t2 = some (.lst [V.int Wh, V.int (if (1 : Int) < Wh then 1 else Wh)]) := upd_same
            have hp8 := hp7.same s8
            obtain ⟨v, ev, mv⟩ := pick (xs := [V.int Wh, V.int (if (1 : Int) < Wh then 1 else Wh)]) (i := kind - 3) (by omega) (by show kind - 3 < 2; omega)
            have hv : ∃ x, v = .int x ∧ 0 ≤ x ∧ x ≤ 60 * 10 ^ 58 + 1 := by
              simp only [List.mem_cons, List.not_mem_nil, or_false] at mv
              rcases mv with rfl | rfl
              · exact ⟨_, rfl, by omega, by omega⟩
              · exact ⟨_, rfl, by split <;> omega, by split <;> omega⟩
            obtain ⟨x, rfl, x0, x1⟩ := hv
            refine ⟨.int kind, rfl, _, _, rfl, rfl, t2, _, _, _, rfl, rfl, .inl (.inl h8), ev, ?_⟩
            obtain ⟨H9, h1, h2⟩ := putA (bt7.trans (same_but s8)) hp8 (s8 _ _ hd7) mo6 x0 x1
            exact ⟨.ref d, rfl, .str z, rfl, d, H9, rfl, h1, h2⟩
        rw [eA] at hA
        obtain ⟨ps7, rfl, bt7, hp7, hd7, mo7⟩ := hA
        refine ⟨.int kind, rfl, rfl, _, rfl, ?_⟩
        by_cases c : kind = 5
        · rw [nt2 5 c]
          refine iteT ⟨.int Wh, rfl, .ref p, rfl, p, 10, rfl, hp7, litM _ (by decide) (by decide), fun u H8 u0 u1 hp8 b8 => ⟨_, _, rfl, ?_⟩⟩
          obtain ⟨H9, h1, h2⟩ := put (x := if u < Wh then u else Wh) (bt7.trans b8) hp8 (b8 _ _ dp hd7) mo7 (by split <;> omega) (by split <;> omega)
          obtain ⟨h2, h3, ps', h4, h5⟩ := h2
          exact ⟨.ref d, rfl, .str z, rfl, d, H9, rfl, h1, _, _, _, ps', rfl, h2, h3, h4, h5⟩
        · rw [nf2 5 c]
          exact iteF ⟨_, _, _, ps7, rfl, bt7, hp7, hd7, mo7⟩
      · obtain ⟨y3, y4, y7, ps, rfl, bt, hp1, hd1, mo⟩ := hP
        exact ⟨_, _, _, ps, rfl, bt, hp1, hd1, mo⟩
    · rintro σ' H1 ⟨y3, y4, y7, ps, rfl, bt1, hp1, hd1, mo1⟩
      have hM1 := model_but hM bt1 hp nap
      refine ⟨.ref p, rfl, .ref a.m, rfl, a.m, .ref a.lo, rfl, hM1.g0, p, .ref a.lo, rfl, hp1, .inr ⟨a.lo, zs.map V.str, rfl, nlop, hM1.ho, by rw [List.length_map]; omega, by rw [List.length_map]; omega, fun x H2 hx hp2 b2 => ?_⟩⟩
      obtain ⟨z, hz, rfl⟩ := List.mem_map.mp hx
      have bt2 := bt1.trans b2
      have hM2 := model_but hM bt2 hp nap
      have hd2 := b2 _ _ dp hd1
      refine ⟨.ref a.m, rfl, .str z, rfl, a, D, zs, z, rfl, hM2, g, hz, fun v H3 s3 rv => ?_⟩
      have bt3 := bt2.trans (same_but s3)
      have hp3 := hp2.same s3
      have hd3 := s3 _ _ hd2
      have hM3 := model_but hM bt3 hp nap
      have wk := g.walks
      cases hR : ringM zs (nxD zs D) z with
      | none =>
        rw [hR] at rv
        have ev : v = .non := rv
        subst ev
        refine ⟨.non, rfl, rfl, _, rfl, ?_⟩
        rw [decide_eq_true rfl]
        exact iteF ⟨.ref d, rfl, q d ps H3 bt3 hp3 nd dp hd3 mo1⟩
      | some rr =>
        have rd := ring_due wk.ld hz hR
        have ne := ring_perm wk.ld hz hR
        have l12 := Nat.le_trans (nodup_le _ _ ne.2.1 ne.2.2.1) lz
        rw [hR] at rv
        obtain ⟨av, rfl, nav, hav⟩ := rv
        refine ⟨.ref av, rfl, rfl, _, rfl, ?_⟩
        rw [decide_eq_false (fun c => by cases c)]
        refine iteT ⟨.ref p, rfl, p, 2, rfl, hp3, litM _ (by decide) (by decide), fun u H4 u0 u1 hp4 b4 => ⟨rfl, _, rfl, ?_⟩⟩
        have avp : av ≠ p := hp2.ne nav
        have bt4 := bt3.trans b4
        have hd4 := b4 _ _ dp hd3
        have hM4 := model_but hM bt4 hp nap
        have hav4 := b4 _ _ avp hav
        by_cases c : u = 0
        · rw [decide_eq_true (show V.int u = V.int 0 by rw [c])]
          refine iteT ⟨.ref av, rfl, av, rfl, ⟨_, .inl (.inl hav4)⟩, fun D0 nD0 => ?_⟩
          refine lc_it (walk_list (K := K) (a := av) (xs := rr.map V.str)) (fun i H' => Same H4 H' ∧ H' D0 = some (.lst (((rr.take i).map (amtAt zs (duesM (bkOf zs D)))).map V.int))) ⟨same_upd nD0, upd_same⟩ (fun i H' _ hP => .inl (.inl (hP.1 _ _ hav4)))
            (fun i x H6' H6 hi hP hY => ?_) (fun H6 hP => ?_)
          · obtain ⟨rfl, hx⟩ := hY
            rw [List.length_map] at hi
            have exx : x = .str rr[i] := by
              rw [List.getElem?_map, List.getElem?_eq_getElem hi] at hx
              exact (Option.some.inj hx).symm
            subst exx
            obtain ⟨hy, x2, hx2⟩ := rd _ (List.getElem_mem hi)
            have ejy := idx_get hy
            obtain ⟨gv2, f2', l2', r2, xs2, eg2, ef2, el2, er2, hr02, hd02⟩ := hM4.at_ ejy
            have ll2 := g.rows l2' (List.mem_of_getElem? el2)
            have eo2 : (duesM (bkOf zs D)).getD (zs.idxOf rr[i]) none = (leftN l2' f2').head? := getD_of (dues_at (M := bkOf zs D) el2 ef2)
            refine ⟨rfl, .ref a.m, rfl, .str rr[i], rfl, a, D, zs, _, _, l2', f2', rfl, model_same hM4 hP.1, ejy, el2, ef2, by omega, fun m2 mx2 H7 s7 nm2 hm2 dm2 => ?_⟩
            replace hx2 : nxD zs D rr[i] = some x2 := hx2
            rw [nxD_at hM.zn ejy el2 ef2] at hx2
            cases hL : leftN l2' f2' with
            | nil =>
              rw [hL] at hx2
              cases hx2
            | cons n t =>
              rw [hL] at dm2 eo2
              have ea : amtAt zs (duesM (bkOf zs D)) rr[i] = n.2 := by
                unfold amtAt
                rw [eo2]
                rfl
              cases dm2 with
              | cons d1 d2 =>
                rename_i x xr
                obtain ⟨ta, rfl, qt⟩ := note_inv d1
                refine ⟨m2, _, 0, .ref ta, rfl, rfl, .inl (.inl hm2), atI_nat (j := 0) rfl, ta, _, 1, .int n.2, rfl, rfl, qt, rfl, _, s7 _ _ hP.2, ?_, fun c o ec => ?_, ?_⟩
                · rw [List.length_map, List.length_map, List.length_take]
                  exact small1000 (by omega)
                · rw [upd_ne (ne_of_none ec nD0)]
                  exact s7 _ _ (hP.1 c o ec)
                · rw [upd_same, take_succ hi, List.map_append, List.map_append, ← ea]
                  rfl
          obtain ⟨s6, hD0⟩ := hP
          rw [List.length_map, List.take_length] at hD0
          refine ⟨D0, _, rfl, .inl (.inl hD0), by rw [List.length_map]; exact List.length_pos_iff.mpr ne.2.2.2, fun mn h1 h2 => ?_⟩
          have mnB : 1 ≤ mn ∧ mn ≤ 10 ^ 58 := by
            obtain ⟨y, hy, rfl⟩ := List.mem_map.mp h1
            exact amt_ok g (rd y hy).1 (rd y hy).2
          have bt6 := bt4.trans (same_but s6)
          have hp6 := hp4.same s6
          have hav6 := s6 _ _ hav4
          refine ⟨.ref av, rfl, av, rfl, ⟨_, .inl (.inl hav6)⟩, fun D2 nD2 => ?_⟩
          have D2p : D2 ≠ p := hp6.ne nD2
          refine lc_it (walk_list (K := K) (a := av) (xs := rr.map V.str)) (fun i H' => But p H6 H' ∧ Pot H' p ∧ ∃ (ts : List Addr) (xs : List Int), H' D2 = some (.lst (ts.map V.ref)) ∧ PairsAt K H' ts (dct (rr.take i) (xs.map V.int)) ∧ xs.length = i ∧ ∀ x ∈ xs, 0 ≤ x ∧ x ≤ 10 ^ 58) ⟨But.new nD2, hp6.new nD2, [], [], upd_same, .nil, rfl, fun x hx => by cases hx⟩ (fun i H' _ hP => .inl (.inl (hP.1 _ _ avp hav6)))
            (fun i x H7' H7 hi hP hY => ?_) (fun H7 hP => ?_)
          · obtain ⟨rfl, hx⟩ := hY
            rw [List.length_map] at hi
            have exx : x = .str rr[i] := by
              rw [List.getElem?_map, List.getElem?_eq_getElem hi] at hx
              exact (Option.some.inj hx).symm
            subst exx
            obtain ⟨b7, hp7, ts, xs, hD7, pr7, lxs, xb⟩ := hP
            refine ⟨rfl, .str rr[i], rfl, .int mn, rfl, by show 2 ≤ sizeLine; decide, fun t2 nt2 => ?_⟩
            have s8 := same_upd (o := .lst [V.int mn, V.int 1]) nt2
            have h8 : upd H7 t2 (.lst [V.int mn, V.int 1]) t2 = some (.lst [V.int mn, V.int 1]) := upd_same
            have hp8 := hp7.same s8
            have t2p := hp7.ne nt2
            have t2D : t2 ≠ D2 := (ne_of_none hD7 nt2).symm
            generalize upd H7 t2 (.lst [V.int mn, V.int 1]) = H8 at s8 h8 hp8
            refine ⟨.ref p, rfl, p, 4, rfl, hp8, litM _ (by decide) (by decide), fun u2 H9 v0 v1 hp9 b9 => ⟨_, _, rfl, rfl, ⟨by decide, by decide⟩, ?_⟩⟩
            have b79 := (same_but s8).trans b9
            have hx : ∃ x, atI [V.int mn, V.int 1] (u2 / 3) = some (V.int x) ∧ 0 ≤ x ∧ x ≤ 10 ^ 58 := by
              have q0 : 0 ≤ u2 / 3 := Int.ediv_nonneg v0 (by decide)
              have q1 : u2 / 3 < 2 := by omega
              obtain ⟨v, e, mv⟩ := pick (xs := [V.int mn, V.int 1]) q0 q1
              simp only [List.mem_cons, List.not_mem_nil, or_false] at mv
              rcases mv with rfl | rfl
              · exact ⟨_, e, by omega, mnB.2⟩
              · exact ⟨_, e, by decide, by decide⟩
            obtain ⟨x, ex, x0, x1⟩ := hx
            refine ⟨t2, _, _, .int x, rfl, rfl, .inl (.inl (b9 _ _ t2p h8)), ex, by show 2 ≤ sizeLine; decide, fun t nt => ?_⟩
            have hD9 := b79 _ _ D2p hD7
            have pr9 : PairsAt K H9 ts (dct (rr.take i) (xs.map V.int)) := pairs_kt (let ⟨_, _, e, _⟩ := hp7; Kp.kt (b79.kp e)) pr7
            have lv : (xs.map V.int).length = (rr.take i).length := by rw [List.length_map, List.length_take, lxs]; omega
            obtain ⟨k1, k2⟩ := pairs_put (z := rr[i]) (v := .int x) hD9 pr9 lv nt
            have tD : t ≠ D2 := (ne_of_none hD9 nt).symm
            have tp : t ≠ p := hp9.ne nt
            refine ⟨_, by rw [upd_ne tD.symm]; exact hD9, by rw [List.length_map, Paired.len pr9, dct_len lv, List.length_take]; exact small1000 (by omega), fun c o n ec => ?_, ?_, ts ++ [t], xs ++ [x], k1, ?_, by rw [List.length_append, lxs]; rfl, fun y hy => ?_⟩
            · rw [upd_ne (ne_of_none ec nD2), upd_ne (ne_of_none (b79 _ _ n (b7 c o n ec)) nt)]
              exact b79 _ _ n (b7 c o n ec)
            · obtain ⟨px, py, pe, pr⟩ := hp9
              exact ⟨px, py, by rw [upd_ne D2p.symm, upd_ne tp.symm]; exact pe, pr⟩
            · rw [take_succ hi, List.map_append]
              exact k2
            · rcases List.mem_append.mp hy with hy | hy
              · exact xb y hy
              · rw [List.mem_singleton.mp hy]
                exact ⟨x0, x1⟩
          obtain ⟨b7, hp7, ts, xs, hD7, pr7, lxs, xb⟩ := hP
          rw [List.length_map] at lxs
          rw [List.length_map, List.take_length] at pr7
          refine ⟨D2, ts, _, rfl, .inl (.inl hD7), pr7, fun d2 nd2 => ?_⟩
          rw [merge_new ne.2.1]
          have l1 : rr.length = xs.length := lxs.symm
          have eK : dct rr (xs.map V.int) = moreK (rr.zip xs) := by
            unfold dct moreK
            rw [List.zip_map_right, List.map_map]
            rfl
          have e1 : (rr.zip xs).map (·.1) = rr := List.map_fst_zip (by omega)
          rw [eK]
          have b07 := bt6.trans b7
          have b08 : But p H (upd H7 d2 (.dK (moreK (rr.zip xs)))) := b07.trans (But.new nd2)
          have d2p := hp7.ne nd2
          refine ⟨.ref d2, rfl, q d2 (rr.zip xs) _ b08 (hp7.new nd2) ?_ d2p upd_same ⟨by rw [e1]; exact ne.2.1, fun x hx => ?_⟩⟩
          · cases eH : H d2 with
            | none => rfl
            | some o =>
              have := b07 _ _ d2p eH
              rw [nd2] at this
              cases this
          · have h1 := xb _ (List.of_mem_zip hx).2
            exact ⟨(rd _ (List.of_mem_zip hx).1).1, h1.1, by omega⟩
        · rw [decide_eq_false (fun e => c (V.int.inj e))]
          exact iteF ⟨.ref d, rfl, q d ps H4 bt4 hp4 nd dp hd4 mo1⟩
end
end Rc

namespace Rc
open PySem PySem.Spec PyProof.Rows L2 RZ
/-! ### dicts that can be shown -/
structure NiceE (d : PyData) (n : Nat) : Prop where
  sh : d.showable = true
  lv : d.leavesShort 1921 = true
  dp : d.depth ≤ 5
  bk : d.bulk ≤ n
theorem NiceD.e {d : PyData} {n m : Nat} (h : NiceD d n) (l : n ≤ m) : NiceE d m := ⟨h.sh, h.lv, h.dp, Nat.le_trans h.bk l⟩
structure NiceKv (ps : List (PyData × PyData)) (n : Nat) : Prop where
  sh : PyData.showableKv ps = true
  lv : PyData.leavesShortKv 1921 ps = true
  dp : PyData.depthKv ps ≤ 5
  bk : PyData.bulkKv ps ≤ n
theorem NiceKv.nil : NiceKv [] 0 := ⟨by simp only [PyData.showableKv], by simp only [PyData.leavesShortKv], by simp only [PyData.depthKv]; omega, by simp only [PyData.bulkKv]; omega⟩
theorem NiceKv.cons {k v : PyData} {ps : List (PyData × PyData)} {a b m : Nat} (hk : NiceE k a) (hv : NiceE v b) (h : NiceKv ps m) : NiceKv ((k, v) :: ps) (a + b + 2 + m) := by
  have b1 := hk.bk
  have b2 := hv.bk
  have b3 := h.bk
  have d1 := hk.dp
  have d2 := hv.dp
  have d3 := h.dp
  refine ⟨?_, ?_, ?_, ?_⟩
  · simp only [PyData.showableKv, h.sh, hk.sh, hv.sh, Bool.and_true]
  · simp only [PyData.leavesShortKv, h.lv, hk.lv, hv.lv, Bool.and_true]
  · simp only [PyData.depthKv]; omega
  · simp only [PyData.bulkKv]; omega
theorem NiceKv.show {ps : List (PyData × PyData)} {n : Nat} (h : NiceKv ps n) (hn : n ≤ 8000) : (PyData.dict ps).showable = true ∧ (PyData.dict ps).depth ≤ 20 ∧ (PyData.dict ps).shown.length ≤ sizeLine := by
  refine ⟨by simp only [PyData.showable]; exact h.sh, by simp only [PyData.depth]; have := h.dp; omega, ?_⟩
  have h1 := PyData.shown_le_bulk 1921 (by decide) (.dict ps) (by simp only [PyData.leavesShort]; exact h.lv)
  have hb : (PyData.dict ps).bulk ≤ n + 1 := by
    have := h.bk
    simp only [PyData.bulk]
    omega
  rw [sizeLine_eq]
  have : (1921 + 2) * (PyData.dict ps).bulk ≤ 1923 * 8001 := Nat.mul_le_mul (Nat.le_refl _) (by omega)
  omega
theorem NiceKv.showL {ps : List (PyData × PyData)} {n : Nat} (h : NiceKv ps n) (hn : n ≤ 7000) : (PyData.list [.dict ps]).showable = true ∧ (PyData.list [.dict ps]).depth ≤ 20 ∧ (PyData.list [.dict ps]).shown.length ≤ sizeLine := by
  refine ⟨by simp only [PyData.showable, PyData.showableAll, h.sh, Bool.and_self], by simp only [PyData.depth, PyData.depthAll]; have := h.dp; omega, ?_⟩
  have h1 := PyData.shown_le_bulk 1921 (by decide) (.list [.dict ps]) (by simp only [PyData.leavesShort, PyData.leavesShortAll, h.lv, Bool.and_self])
  have hb : (PyData.list [.dict ps]).bulk ≤ n + 10 := by
    have := h.bk
    simp only [PyData.bulk, PyData.bulkAll]
    omega
  rw [sizeLine_eq]
  have : (1921 + 2) * (PyData.list [.dict ps]).bulk ≤ 1923 * 8001 := Nat.mul_le_mul (Nat.le_refl _) (by omega)
  omega
theorem nice_pairs : ∀ {ps : List (Str × Int)}, (∀ n ∈ ps, nameT n.1 = true ∧ BigOk n.2) → NiceA (notesD ps) (11 * ps.length)
  | [], _ => NiceA.nil
  | n :: r, h => by
    obtain ⟨h1, h2⟩ := h n List.mem_cons_self
    have a := NiceA.cons (nice_name h1) (by simp only [PyData.depth]; omega) (NiceA.cons (nice_int h2) (by simp only [PyData.depth]; omega) NiceA.nil)
    have b := nice_pairs fun y hy => h y (List.mem_cons_of_mem _ hy)
    have c := NiceA.cons a.tuple (by simp [PyData.depth, PyData.depthAll]) b
    rw [List.length_cons, show 11 * (r.length + 1) = 8 + 1 + (0 + 1 + 0) + 1 + 11 * r.length by omega]
    exact c
theorem pairs_dt {K : PySem.W.Frag} {H : Hp} : ∀ {ts : List Addr} {ps : List (Str × Int)}, ts.length = ps.length → (∀ (k : Nat) (t : Addr) (q : Str × Int), ts[k]? = some t → ps[k]? = some q → H t = some (.tup [.str q.1, .int q.2])) → DtAll K H (ts.map V.ref) (notesD ps)
  | [], [], _, _ => .nil
  | t :: ts, q :: ps, h, f => .cons (.tup (.inl (.inl (f 0 t q rfl rfl))) (.cons (.str _) (.cons (.int _) .nil))) (pairs_dt (by simpa using h) fun k t' q' h1 h2 => f (k + 1) t' q' (by simpa using h1) (by simpa using h2))
  | [], _ :: _, h, _ => by simp at h
  | _ :: _, [], h, _ => by simp at h
theorem us_list (z : Str) : (z ++ ("_" : Str)).cps.toList = z.cps.toList ++ [95] := by
  show (z.cps ++ ("_" : Str).cps).toList = _
  rw [Array.toList_append]
  rfl
theorem us_len (z : Str) : (z ++ ("_" : Str)).length = z.length + 1 := by
  show (z.cps ++ ("_" : Str).cps).size = _
  rw [Array.size_append]
  rfl
theorem us_no (z : Str) : nameT (z ++ ("_" : Str)) = false := by
  unfold nameT
  rw [us_list, List.all_append]
  have : ([95].all fun c => decide (c ∈ abc)) = false := by decide +kernel
  rw [this, Bool.and_false, Bool.and_false]
/-! ### an entry, right or wrong, that can be shown, whatever becomes of the pot -/
structure Ent (p : Addr) (H : Hp) (M : Bk) (k y : V) : Prop where
  gb : GoodE M k y ∨ ∀ G, But p H G → BadE G M k y
  sh : ∃ ek ey, NiceE ek 12 ∧ NiceE ey 12 ∧ ∀ G, But p H G → FlY G k ek ∧ FlY G y ey
theorem datas {p : Addr} {H : Hp} {M : Bk} : ∀ {ks vs : List V}, ks.length = vs.length → (∀ (i : Nat) (k y : V), ks[i]? = some k → vs[i]? = some y → Ent p H M k y) → ∃ ps, NiceKv ps (26 * ks.length) ∧ ∀ G, But p H G → FlYs G ks (ps.map (·.1)) ∧ FlYs G vs (ps.map (·.2))
  | [], [], _, _ => ⟨[], ⟨NiceKv.nil.1, NiceKv.nil.2, NiceKv.nil.3, NiceKv.nil.4⟩, fun _ _ => ⟨.nil, .nil⟩⟩
  | k :: ks, y :: vs, l, h => by
    obtain ⟨ps, n, f⟩ := datas (ks := ks) (vs := vs) (by simpa using l) fun i k' y' e1 e2 => h (i + 1) k' y' (by simpa using e1) (by simpa using e2)
    obtain ⟨ek, ey, n1, n2, f2⟩ := (h 0 k y rfl rfl).sh
    have c := NiceKv.cons n1 n2 n
    refine ⟨(ek, ey) :: ps, ⟨c.1, c.2, c.3, Nat.le_trans c.4 (by rw [List.length_cons]; omega)⟩, fun G b => ⟨.cons (f2 G b).1 (f G b).1, .cons (f2 G b).2 (f G b).2⟩⟩
  | [], _ :: _, h, _ => by simp at h
  | _ :: _, [], h, _ => by simp at h
theorem first_bad {p : Addr} {H : Hp} {M : Bk} {ks vs : List V} (h : ∀ (i : Nat) (k y : V), ks[i]? = some k → vs[i]? = some y → GoodE M k y ∨ ∀ G, But p H G → BadE G M k y) (l : ks.length = vs.length) : ∀ n, n ≤ ks.length →
    (∀ (i : Nat) (k y : V), i < n → ks[i]? = some k → vs[i]? = some y → GoodE M k y) ∨ ∃ m, m < n ∧ (∀ (i : Nat) (k y : V), i < m → ks[i]? = some k → vs[i]? = some y → GoodE M k y) ∧ ∀ k y, ks[m]? = some k → vs[m]? = some y → ∀ G, But p H G → BadE G M k y
  | 0, _ => .inl fun i k y hi => absurd hi (Nat.not_lt_zero _)
  | n + 1, hn => by
    rcases first_bad h l n (by omega) with g | ⟨m, hm, a, b⟩
    · have ek := List.getElem?_eq_getElem (l := ks) (i := n) (by omega)
      have ev := List.getElem?_eq_getElem (l := vs) (i := n) (by omega)
      rcases h n _ _ ek ev with c | c
      · refine .inl fun i k y hi e1 e2 => ?_
        by_cases q : i < n
        · exact g i k y q e1 e2
        · obtain rfl : i = n := by omega
          rw [ek] at e1
          rw [ev] at e2
          cases e1
          cases e2
          exact c
      · refine .inr ⟨n, by omega, g, fun k y e1 e2 => ?_⟩
        rw [ek] at e1
        rw [ev] at e2
        cases e1
        cases e2
        exact c
    · exact .inr ⟨m, by omega, a, b⟩
theorem ky_not {H : Hp} {zs zs' : List Str} {f : Fk} {v : V} (fk : FkV H f v) (h : zs.map V.str = kyO zs' v) : False := by
  have e1 : (kyO zs' v)[zs'.length]? = some v := by
    rw [List.getElem?_append_right (by rw [List.length_map]; exact Nat.le_refl _), List.length_map, Nat.sub_self]
    rfl
  rw [← h, List.getElem?_map] at e1
  obtain ⟨z, _, rfl⟩ := Option.map_eq_some_iff.mp e1
  cases fk
theorem ints_of : ∀ {ws : List V}, (∀ (i : Nat) (v : V), ws[i]? = some v → ∃ x, v = .int x) → ∃ xs : List Int, ws = xs.map V.int
  | [], _ => ⟨[], rfl⟩
  | w :: ws, h => by
    obtain ⟨x, rfl⟩ := h 0 w rfl
    obtain ⟨xs, rfl⟩ := ints_of (ws := ws) fun i v e => h (i + 1) v (by simpa using e)
    exact ⟨x :: xs, rfl⟩
theorem dct_moreK (zs : List Str) (xs : List Int) : dct zs (xs.map V.int) = moreK (zs.zip xs) := by
  unfold dct moreK
  rw [List.zip_map_right, List.map_map]
  rfl
theorem strs_inj : ∀ {a b : List Str}, a.map V.str = b.map V.str → a = b
  | [], [], _ => rfl
  | [], _ :: _, h => by cases h
  | _ :: _, [], h => by cases h
  | x :: a, y :: b, h => by
    rw [List.map_cons, List.map_cons] at h
    obtain ⟨h1, h2⟩ := List.cons.inj h
    rw [V.str.inj h1, strs_inj h2]
theorem more_flats : ∀ ps : List (Str × Int), Flats ((moreK ps).map fun p => kV p.1) ((ps.map fun q => ((.str q.1, .int q.2) : PyData × PyData)).map (·.1)) ∧ Flats ((moreK ps).map (·.2)) ((ps.map fun q => ((.str q.1, .int q.2) : PyData × PyData)).map (·.2))
  | [] => ⟨.nil, .nil⟩
  | q :: r => ⟨.cons (.str q.1) (more_flats r).1, .cons (.int q.2) (more_flats r).2⟩
theorem thg_any {P : Program} {w : World} {K : PySem.W.Frag} {p : Addr} {H : Hp} {M : Bk} {d : Addr} {ks vs : List V} (any : ∀ G, But p H G → AnyY P w G d ks vs) (h : ∀ (i : Nat) (k y : V), ks[i]? = some k → vs[i]? = some y → GoodE M k y ∨ ∀ G, But p H G → BadE G M k y) : ∃ o, ∀ G, But p H G → Thg P w K G M (.ref d) o := by
  obtain ⟨u0, lk0, _⟩ := any H (But.refl p H)
  have l := lk0.len
  rcases first_bad h l ks.length (Nat.le_refl _) with g | ⟨m, hm, a, b⟩
  · rcases lk0 with ⟨zs, ws, rfl, nd, lz, rfl, rfl⟩ | ⟨zs, ws, f, v, r, rfl, nd, lz, fk, rfl, rfl⟩
    · obtain ⟨xs, rfl⟩ := ints_of (ws := vs) fun i v e => by
        have hi := (List.getElem?_eq_some_iff.mp e).1
        have hz := List.getElem?_eq_getElem (l := zs) (i := i) (by omega)
        obtain ⟨_, _, _, _, x, _, e', _⟩ := g i _ v (by rw [List.length_map]; omega) (by rw [List.getElem?_map, hz]; rfl) e
        exact ⟨x, e'⟩
      have lx : zs.length = xs.length := by rw [lz, List.length_map]
      refine ⟨some (zs.zip xs), fun G b => ?_⟩
      obtain ⟨u, lk, hd⟩ := any G b
      have hd' : G d = some (.dK (moreK (zs.zip xs))) := by
        rcases lk with ⟨zs', ws', rfl, _, _, e1, e2⟩ | ⟨zs', ws', f, v, r, rfl, _, _, fk, e1, e2⟩
        · rw [hd, ← strs_inj e1, ← e2, dct_moreK]
        · exact (ky_not fk e1).elim
      refine .rgt hd' ⟨by rw [List.map_fst_zip (by omega)]; exact nd, fun q hq => ?_⟩
      obtain ⟨i, ei⟩ := List.mem_iff_getElem?.mp hq
      obtain ⟨e1, e2⟩ := List.getElem?_zip_eq_some.mp ei
      have hi := (List.getElem?_eq_some_iff.mp e1).1
      obtain ⟨j, z, l, f, x, e3, e4, e5, e6, e7, e8, e9⟩ := g i (.str q.1) (.int q.2) (by rw [List.length_map]; exact hi) (by rw [List.getElem?_map, e1]; rfl) (by rw [List.getElem?_map, e2]; rfl)
      cases e3
      cases e4
      exact ⟨j, l, f, e5, e6, e7, e8, e9⟩
    · have lk : (kyO zs v).length = zs.length + 1 := by rw [List.length_append, List.length_map]; rfl
      obtain ⟨_, z, _, _, _, e, _⟩ := g zs.length v r (by rw [lk]; omega) (by rw [List.getElem?_append_right (by rw [List.length_map]; exact Nat.le_refl _), List.length_map, Nat.sub_self]; rfl) (by rw [lz, List.getElem?_append_right (Nat.le_refl _), Nat.sub_self]; rfl)
      subst e
      cases fk
  · exact ⟨none, fun G q => .bad ⟨any G q, Nat.le_of_lt hm, a, fun k v e1 e2 => b k v e1 e2 G q⟩ hm⟩
/-- a thing that may or may not fall, and can be shown, whatever becomes of the pot -/
def Spt17 (P : Program) (w : World) (K : PySem.W.Frag) (p : Addr) (H : Hp) (M : Bk) (v : V) : Prop :=
  (∃ o, ∀ G, But p H G → Thg P w K G M v o) ∧ ∃ z : Str, ∀ G, But p H G → ∀ Q : VK, Q (.str z) G → rReprY P w K [v] G Q
theorem Spt17.data {P : Program} {w : World} {K : PySem.W.Frag} {p : Addr} {H : Hp} {M : Bk} {v : V} {d : PyData} (h : ∀ G, But p H G → Dt K G v d) (nd : dictD d = false) (so : ShowOk d) : Spt17 P w K p H M v :=
  ⟨⟨none, fun G b => .nod (h G b) nd⟩, _, fun G b Q q => .inl ⟨v, d, rfl, h G b, so.sh, so.tp, so.dp, so.ft, q⟩⟩
theorem Spt17.dict {P : Program} {w : World} {K : PySem.W.Frag} {p d : Addr} {H : Hp} {M : Bk} {ks vs : List V} (any : ∀ G, But p H G → AnyY P w G d ks vs) (en : ∀ (i : Nat) (k y : V), ks[i]? = some k → vs[i]? = some y → Ent p H M k y) (l : ks.length ≤ 200) : Spt17 P w K p H M (.ref d) := by
  obtain ⟨u0, lk0, _⟩ := any H (But.refl p H)
  obtain ⟨ps, nk, f⟩ := datas lk0.len en
  obtain ⟨a, b', c⟩ := nk.show (by omega)
  exact ⟨thg_any any fun i k y e1 e2 => (en i k y e1 e2).gb, _, fun G g Q q => .inr (.inl ⟨d, ks, vs, ps, rfl, any G g, (f G g).1, (f G g).2, a, b', c, q⟩)⟩
theorem nice0 (d : PyData) (h : (d.showable && (d.leavesShort 1921 && (decide (d.depth ≤ 5) && decide (d.bulk ≤ 12)))) = true) : NiceE d 12 := by
  rw [Bool.and_eq_true, Bool.and_eq_true, Bool.and_eq_true] at h
  exact ⟨h.1, h.2.1, of_decide_eq_true h.2.2.1, of_decide_eq_true h.2.2.2⟩
theorem Ent.mono {p : Addr} {H H1 : Hp} {M : Bk} {k y : V} (h : Ent p H M k y) (b : But p H H1) : Ent p H1 M k y :=
  ⟨h.gb.imp id fun f G g => f G (b.trans g), let ⟨ek, ey, a, c, f⟩ := h.sh; ⟨ek, ey, a, c, fun G g => f G (b.trans g)⟩⟩
theorem nice_key {z : Str} (hz : nameT z = true) : NiceE (.str z) 12 := (nice_text (n := 8) (name_asc hz) (nameT_len hz).2).e (by decide)
theorem ent_int {p : Addr} {H : Hp} {zs : List Str} {D : Md} (g : Gs zs D) {z : Str} {x : Int} (hz : z ∈ zs) (hx : BigOk x) : Ent p H (bkOf zs D) (.str z) (.int x) := by
  refine ⟨?_, .str z, .int x, nice_key (g.nz.nm z hz), (nice_int hx).e (by decide), fun G _ => ⟨.fl (.flat (.str z)), .fl (.flat (.int x))⟩⟩
  obtain ⟨j, ej⟩ := List.mem_iff_getElem?.mp hz
  have hj := (List.getElem?_eq_some_iff.mp ej).1
  obtain ⟨l, el⟩ : ∃ l, D.notes[j]? = some l := ⟨_, List.getElem?_eq_getElem (by rw [g.ln]; exact hj)⟩
  obtain ⟨f, ef⟩ : ∃ f, D.fallen[j]? = some f := ⟨_, List.getElem?_eq_getElem (by rw [g.lf]; exact hj)⟩
  by_cases c : 0 ≤ x ∧ f + x ≤ wholeN l
  · exact .inl ⟨j, z, l, f, x, rfl, rfl, ej, el, ef, c.1, c.2⟩
  · exact .inr fun G _ => .inr ⟨j, z, l, f, rfl, ej, el, ef, .inr ⟨x, rfl, by omega⟩⟩
theorem ent_val {p : Addr} {H : Hp} {zs : List Str} {D : Md} (g : Gs zs D) {z : Str} {y : V} {e : PyData} (hz : z ∈ zs) (n : NiceE e 12) (sd : ShortD e) (we : wholeD e = false) (f : ∀ G, But p H G → FlY G y e) : Ent p H (bkOf zs D) (.str z) y := by
  refine ⟨?_, .str z, e, nice_key (g.nz.nm z hz), n, fun G b => ⟨.fl (.flat (.str z)), f G b⟩⟩
  obtain ⟨j, ej⟩ := List.mem_iff_getElem?.mp hz
  have hj := (List.getElem?_eq_some_iff.mp ej).1
  obtain ⟨l, el⟩ : ∃ l, D.notes[j]? = some l := ⟨_, List.getElem?_eq_getElem (by rw [g.ln]; exact hj)⟩
  obtain ⟨f', ef⟩ : ∃ f, D.fallen[j]? = some f := ⟨_, List.getElem?_eq_getElem (by rw [g.lf]; exact hj)⟩
  exact .inr fun G b => .inr ⟨j, z, l, f', rfl, ej, el, ef, .inl ⟨e, f G b, sd, we⟩⟩
theorem ent_key {p : Addr} {H : Hp} {zs : List Str} {D : Md} {k : V} {e : PyData} (n : NiceE e 12) (sd : ShortD e) (he : hasD (bkOf zs D) e = false) (f : ∀ G, But p H G → FlV G k e) : Ent p H (bkOf zs D) k (.int 0) :=
  ⟨.inr fun G b => .inl ⟨e, f G b, sd, he⟩, e, .int 0, n, nice0 _ (by decide +kernel), fun G b => ⟨.fl (f G b), .fl (.flat (.int 0))⟩⟩
/-- either kind of store -/
def rSetAnyY (P : Program) (w : World) : TSet := fun o i v H Q => rSetD o i v H Q ∨ rSetY P w o i v H Q
theorem set_anyY {X : Cx} (hu : X.A.units + 1 < cLine) : PSet X (rSetAnyY X.prog X.w) := fun pins s σ H o i v ov iv u Q I ro ri rv h => h.elim (set_dict hu pins s σ H o i v ov iv u Q I ro ri rv) (set_my hu pins s σ H o i v ov iv u Q I ro ri rv)
theorem put_dct {zs : List Str} {ws : List V} (nd : zs.Nodup) (l : zs.length = ws.length) (z : Str) (v : V) : ∃ zs' ws', putK (dct zs ws) (Sum.inr z) v = dct zs' ws' ∧ zs'.Nodup ∧ zs'.length = ws'.length ∧ zs'.length ≤ zs.length + 1 ∧
    ∀ (i : Nat) (k : Str) (y : V), zs'[i]? = some k → ws'[i]? = some y → (k = z ∧ y = v) ∨ ∃ j : Nat, zs[j]? = some k ∧ ws[j]? = some y := by
  by_cases c : z ∈ zs
  · obtain ⟨j, ej⟩ := List.mem_iff_getElem?.mp c
    refine ⟨zs, ws.set j v, dct_put nd ej (by rw [← l]; exact (List.getElem?_eq_some_iff.mp ej).1), nd, by rw [List.length_set, l], by omega, fun i k y e1 e2 => ?_⟩
    by_cases q : i = j
    · subst q
      rw [List.getElem?_set_self (by rw [← l]; exact (List.getElem?_eq_some_iff.mp ej).1)] at e2
      rw [ej] at e1
      cases e1
      cases e2
      exact .inl ⟨rfl, rfl⟩
    · rw [List.getElem?_set_ne (fun e => q e.symm)] at e2
      exact .inr ⟨i, e1, e2⟩
  · refine ⟨zs ++ [z], ws ++ [v], ?_, ?_, by rw [List.length_append, List.length_append, l]; rfl, by rw [List.length_append]; exact Nat.le_refl _, fun i k y e1 e2 => ?_⟩
    · rw [put_new (dct_nokey c), ← dct_snoc l.symm]
    · exact List.nodup_append.mpr ⟨nd, by simp, fun y hy y' hy' e => c (by rw [← List.mem_singleton.mp hy', ← e]; exact hy)⟩
    · by_cases q : i < zs.length
      · rw [List.getElem?_append_left q] at e1
        rw [List.getElem?_append_left (by omega)] at e2
        exact .inr ⟨i, e1, e2⟩
      · have hi := (List.getElem?_eq_some_iff.mp e1).1
        rw [List.length_append] at hi
        have hi : i < zs.length + 1 := hi
        obtain rfl : i = zs.length := by omega
        rw [List.getElem?_append_right (Nat.le_refl _), Nat.sub_self] at e1
        rw [l, List.getElem?_append_right (Nat.le_refl _), Nat.sub_self] at e2
        cases e1
        cases e2
        exact .inl ⟨rfl, rfl⟩
section
variable {P : Program} {w : World} {K : PySem.W.Frag} {mg : Str → Option Value} {base : Heap}
/-! ### _law_spoilt -/
abbrev sLSp : Stmt := topS 42
abbrev nLSp : List Str := ["_law_pot_here", "_law_model_here", "_law_more_here", "_law_way", "_law_who", "_law_found", "_law_to", "_law_amount_here"]
theorem scLSp : FnScope nLSp ["_law_pot_here", "_law_model_here", "_law_more_here"] (defScope sLSp) := ⟨rfl, rfl, rfl, by decide +kernel, rfl, by decide +kernel, by decide +kernel⟩
def spLSp17 (P : Program) (w : World) (K : PySem.W.Frag) : Sp := fun vs H Q _ => ∃ (p m : Addr) (a : MdA) (D : Md) (zs : List Str) (ps : List (Str × Int)), vs = [.ref p, .ref a.m, .ref m] ∧ Pot H p ∧ ModelAt K H zs a D ∧ ¬ a.Has p ∧ Gs zs D ∧ Gb D ∧ m ≠ p ∧ H m = some (.dK (moreK ps)) ∧ MoreOk zs ps ∧
  ∀ v H', Pot H' p → But p H H' → Spt17 P w K p H' (bkOf zs D) v → (∀ d, v = .ref d → H d = none ∧ d ≠ p) → Q v H'
set_option maxHeartbeats 4000000 in
theorem ok_lsp17 {f fT fA fV : Addr} {fd fdT fdA fdV : FuncData} (F : Fun K "_law_spoilt" "_law_spoilt" sLSp f fd) (B3 : Blt3 mg) (TK : HasTake P w K mg base fT fdT) (AM : HasAmong P w K mg base fA fdA) (LL : Has P w K mg base 2 "_law_left" ["_law_model_here", "_law_who"] (spLLf K) fV fdV) :
    FnOk P w K mg base CX0 3 f fd ["_law_pot_here", "_law_model_here", "_law_more_here"] (spLSp17 P w K) := by
  refine F.ok scLSp (fun vs H Q E h => ?_) (fun cdv Ar outer s H vs Q E0 hr h => ?_)
  · obtain ⟨_, _, _, _, _, _, rfl, _⟩ := h
    rfl
  · obtain ⟨p, m, a, D, zs, ps, rfl, hp, hM, np, g, gb, mp, hm, mo, q⟩ := h
    have hu := hu_of hr
    have hr1 := hr.mono (show 1 ≤ 2 by decide)
    have hr2 := hr
    refine ⟨_, (pss_cons (ps_set (i := 3) scLSp.nd rfl (.inl rfl) (pe_call TK.ok hr1 (by rfl) TK.g TK.kp TK.b .nil pass0 (pa_cons (pv 0) (pa_cons pe_int pa_nil)))) (pss_cons (ps_set (i := 4) scLSp.nd rfl (.inl rfl) (pe_call AM.ok hr2 (by rfl) AM.g AM.kp AM.b .nil pass0 (pa_cons (pv 0) (pa_cons (pe_dget hu (pv 1) pe_str (fun _ _ => rfl)) pa_nil)))) (pss_cons (ps_set (i := 5) scLSp.nd rfl (.inl rfl) (pe_callTy call_dictD (by rfl) B3.dict (by decide +kernel) (pa_cons (pv 2) pa_nil))) (pss_cons (ps_if (pt_cmpR op_eq (pv 3) pe_int (nomark _)) (pss_one (ps_ret (pe_ix ix_list (pe_lst (pa_cons pe_non (pa_cons (pe_lst pa_nil) (pa_cons (LiI.pe_listItems rfl (pv 2) (by rfl) B3.list (by decide +kernel)) (pa_cons pe_str (pa_cons pe_int (pa_cons pe_bl (pa_cons (pe_tup pa_nil) (pa_cons (pe_lstN (pa_cons (pv 2) pa_nil)) pa_nil))))))))) (pe_call TK.ok hr1 (by rfl) TK.g TK.kp TK.b .nil pass0 (pa_cons (pv 0) (pa_cons pe_int pa_nil))) (fun _ _ => rfl)))) pss_nil) (pss_cons (ps_if (pt_cmpR op_eq (pv 3) pe_int (nomark _)) (pss_one (ps_asg pe_int (pg_sub (pv 5) (pe_ix ix_list (pe_lst (pa_cons pe_non (pa_cons pe_str (pa_cons pe_str (pa_cons pe_int (pa_cons pe_bl (pa_cons (pe_tup (pa_cons pe_str pa_nil)) (pa_cons (pe_op op_add_str (pv 4) pe_str) (pa_cons pe_str pa_nil))))))))) (pe_call TK.ok hr1 (by rfl) TK.g TK.kp TK.b .nil pass0 (pa_cons (pv 0) (pa_cons pe_int pa_nil))) (fun _ _ => rfl)) (set_anyY hu)))) pss_nil) (pss_cons (ps_if (pt_cmpR op_eq (pv 3) pe_int (nomark _)) (pss_one (ps_asg (pe_ix ix_list (pe_lst (pa_cons (pe_un un_neg pe_int) (pa_cons pe_non (pa_cons pe_bl (pa_cons pe_str (pa_cons (pe_lstN (pa_cons pe_int pa_nil)) (pa_cons pe_dnewK (pa_cons (pe_un un_neg (pe_op op_pow pe_int pe_int)) (pa_cons pe_bl pa_nil))))))))) (pe_call TK.ok hr1 (by rfl) TK.g TK.kp TK.b .nil pass0 (pa_cons (pv 0) (pa_cons pe_int pa_nil))) (fun _ _ => rfl)) (pg_sub (pv 5) (pv 4) (set_anyY hu)))) pss_nil) (pss_cons (ps_if (pt_cmpR op_eq (pv 3) pe_int (nomark _)) (pss_one (ps_asg (pe_op op_add (pe_callB (cr_sum rfl) (by rfl) B3.sum (by decide +kernel) (pa_cons (pe_lc (own := [("_law_to", 6), ("_law_amount_here", 7)]) (g := gTup K 2 (gCons (gName 6) (gCons (gName 7) gNil))) (tt := tYes) rfl scLSp.nd (pi_list (pe_call LL.ok hr2 (by rfl) LL.g LL.kp LL.b .nil pass0 (pa_cons (pv 1) (pa_cons (pv 4) pa_nil)))) (blkOk_by (N := nLSp) (sc := defScope sLSp) (own := [("_law_to", 6), ("_law_amount_here", 7)]) (by decide +kernel)) (fun _ _ _ _ _ => pg_tup rfl (pgs_cons (pg_name (i := 6) scLSp.nd rfl (.inl rfl) (hf := .inr rfl)) (pgs_cons (pg_name (i := 7) scLSp.nd rfl (.inl rfl) (hf := .inr rfl)) pgs_nil))) (fun _ _ _ _ _ => pts_nil) (fun _ _ _ _ _ => (pv 7))) pa_nil)) pe_int) (pg_sub (pv 5) (pv 4) (set_anyY hu)))) pss_nil) (pss_one (ps_ret (pv 5)))))))))), ?_⟩
    have n0z := g.nz.n0
    have n1z := g.nz.n1
    have nlop : a.lo ≠ p := fun z => np (.inr (.inl z.symm))
    refine ⟨.ref p, rfl, p, 12, rfl, hp, litM _ (by decide) (by decide), fun way H1 w0 w1 hp1 b1 => ?_⟩
    have hM1 := model_but hM b1 hp np
    refine ⟨.ref p, rfl, .ref a.m, rfl, a.m, .ref a.lo, rfl, hM1.g0, p, .ref a.lo, rfl, hp1, .inr ⟨a.lo, zs.map V.str, rfl, nlop, hM1.ho, by rw [List.length_map]; omega, by rw [List.length_map]; omega, fun x H2 hx hp2 b12 => ?_⟩⟩
    obtain ⟨z, hz, rfl⟩ := List.mem_map.mp hx
    obtain ⟨j, ej⟩ := List.mem_iff_getElem?.mp hz
    have b2 := b1.trans b12
    have hm2 := b2 _ _ mp hm
    refine ⟨.ref m, rfl, m, _, rfl, .inl hm2, fun c nc => ?_⟩
    have cp : c ≠ p := hp2.ne nc
    have cm : c ≠ m := (ne_of_none hm2 nc).symm
    have s3 := same_upd (o := .dK (moreK ps)) nc
    have hc5 : upd H2 c (.dK (moreK ps)) c = some (.dK (moreK ps)) := upd_same
    have ncH : H c = none := by
      cases eH : H c with
      | none => rfl
      | some o =>
        have := b2 _ _ cp eH
        rw [nc] at this
        cases this
    have hp5 := hp2.same s3
    have b05 : But p H (upd H2 c (.dK (moreK ps))) := b2.trans (same_but s3)
    have hm5 := s3 _ _ hm2
    generalize upd H2 c (.dK (moreK ps)) = H5 at hc5 hp5 b05 hm5
    have hM5 := model_but hM b05 hp np
    obtain ⟨gv, f', l, r, xs, eg, ef, el, er, hr0, dr0⟩ := hM5.at_ ej
    have hlm := List.mem_of_getElem? el
    have ll := g.rows l hlm
    obtain ⟨W0, W1⟩ := g.wholeB hlm
    have big : ∀ q ∈ ps, BigOk q.2 := fun q hq => by
      obtain ⟨_, h0, h1⟩ := mo.mem q hq
      have : (60 : Int) * 10 ^ 58 + 1 < 2 ^ 300 := by decide
      unfold BigOk
      omega
    have lps : ps.length ≤ 12 := Nat.le_trans mo.len n1z
    have fr : ∀ {Hx : Hp} {x : Addr}, But p H Hx → x ≠ p → Hx x = none → H x = none := fun {Hx x} bx xp e => by
      cases eH : H x with
      | none => rfl
      | some o =>
        have := bx _ _ xp eH
        rw [e] at this
        cases this
    have ptup : ∀ {H' : Hp} (o : HO), Pot H' p → Pot (upd H' c o) p := fun {H'} o h => by
      obtain ⟨u, v, e, hh⟩ := h
      exact ⟨u, v, by rw [upd_ne cp.symm]; exact e, hh⟩
    have btup : ∀ {H' : Hp} (o : HO), But p H H' → But p H (upd H' c o) := fun {H'} o h c' o' n e => by
      rw [upd_ne (ne_of_none e ncH)]
      exact h _ _ n e
    have cfr : ∀ d, V.ref c = .ref d → H d = none ∧ d ≠ p := fun d e => by
      cases e
      exact ⟨ncH, cp⟩
    obtain ⟨zs0, ezs⟩ : ∃ zs0, zs0 = ps.map (·.1) := ⟨_, rfl⟩
    obtain ⟨ws0, ews⟩ : ∃ ws0, ws0 = ps.map fun q => V.int q.2 := ⟨_, rfl⟩
    have eMK : moreK ps = dct zs0 ws0 := by rw [ezs, ews]; exact moreK_dct ps
    have nd0 : zs0.Nodup := by rw [ezs]; exact mo.nd
    have l0 : zs0.length = ws0.length := by rw [ezs, ews, List.length_map, List.length_map]
    have l012 : zs0.length ≤ 12 := by rw [ezs, List.length_map]; exact lps
    have en0 : ∀ (Hx : Hp) (i : Nat) (k : Str) (y : V), zs0[i]? = some k → ws0[i]? = some y → Ent p Hx (bkOf zs D) (.str k) y := fun Hx i k y e1 e2 => by
      rw [ezs, List.getElem?_map] at e1
      rw [ews, List.getElem?_map] at e2
      obtain ⟨q1, h1, rfl⟩ := Option.map_eq_some_iff.mp e1
      obtain ⟨q2, h2, rfl⟩ := Option.map_eq_some_iff.mp e2
      rw [h1] at h2
      cases h2
      have hq := List.mem_of_getElem? h1
      exact ent_int g (mo.mem _ hq).1 (big _ hq)
    -- a dict of texts
    have txtD : ∀ (H7 : Hp) (d : Addr) (zs' : List Str) (ws' : List V), H7 d = some (.dK (dct zs' ws')) → d ≠ p → zs'.Nodup → zs'.length = ws'.length → zs'.length ≤ 13 → (∀ (i : Nat) (k : Str) (y : V), zs'[i]? = some k → ws'[i]? = some y → Ent p H7 (bkOf zs D) (.str k) y) → (∀ G, But p H7 G → AnyY P w G d (zs'.map V.str) ws') ∧ ∀ (i : Nat) (k y : V), (zs'.map V.str)[i]? = some k → ws'[i]? = some y → Ent p H7 (bkOf zs D) k y := fun H7 d zs' ws' hd dp nd lz l13 en =>
      ⟨fun G b => ⟨_, .inl ⟨zs', ws', rfl, nd, lz, rfl, rfl⟩, b _ _ dp hd⟩, fun i k y e1 e2 => by
        rw [List.getElem?_map] at e1
        obtain ⟨k', h1, rfl⟩ := Option.map_eq_some_iff.mp e1
        exact en i k' y h1 e2⟩
    have finT : ∀ (H7 : Hp) (zs' : List Str) (ws' : List V), Pot H7 p → But p H H7 → H7 c = some (.dK (dct zs' ws')) → zs'.Nodup → zs'.length = ws'.length → zs'.length ≤ 13 → (∀ (i : Nat) (k : Str) (y : V), zs'[i]? = some k → ws'[i]? = some y → Ent p H7 (bkOf zs D) (.str k) y) → Q (.ref c) H7 := fun H7 zs' ws' q7 b7 hd nd lz l13 en => by
      obtain ⟨h1, h2⟩ := txtD H7 c zs' ws' hd cp nd lz l13 en
      exact q _ _ q7 b7 (.dict h1 h2 (by rw [List.length_map]; omega)) cfr
    -- z's own is another one
    have setz : ∀ (H7 : Hp) (y : V), Pot H7 p → But p H H7 → H7 c = some (.dK (moreK ps)) → (∀ G, But p (upd H7 c (.dK (putK (moreK ps) (Sum.inr z) y))) G → True) → Ent p (upd H7 c (.dK (putK (moreK ps) (Sum.inr z) y))) (bkOf zs D) (.str z) y → ∃ H8, DPut H7 c (.str z) y H8 ∧ Q (.ref c) H8 := fun H7 y q7 b7 hc _ en => by
      refine ⟨_, DPut.k (k := Sum.inr z) hc (by unfold moreK; rw [List.length_map]; exact small1000 (by omega)), ?_⟩
      have hc' : upd H7 c (.dK (putK (moreK ps) (Sum.inr z) y)) c = some (.dK (putK (moreK ps) (Sum.inr z) y)) := upd_same
      have q8 := ptup (.dK (putK (moreK ps) (Sum.inr z) y)) q7
      have b8 := btup (.dK (putK (moreK ps) (Sum.inr z) y)) b7
      rw [eMK] at hc' q8 b8 en ⊢
      obtain ⟨zs', ws', e, nd', l', l13, en'⟩ := put_dct nd0 l0 z y
      rw [e] at hc' q8 b8 en ⊢
      refine finT _ zs' ws' q8 b8 hc' nd' l' (by omega) fun i k y' e1 e2 => ?_
      rcases en' i k y' e1 e2 with ⟨rfl, rfl⟩ | ⟨j', e3, e4⟩
      · exact en
      · exact en0 _ j' k y' e3 e4
    by_cases e0 : way = 0
    · refine ⟨.int way, rfl, rfl, _, rfl, ?_⟩
      rw [decide_eq_true (show V.int way = V.int 0 by rw [e0])]
      refine iteT ⟨Nat.zero_le _, fun L0 nL0 => ?_⟩
      have t1 := same_upd (o := .lst []) nL0
      have h1 : upd H5 L0 (.lst []) L0 = some (.lst []) := upd_same
      have q1 := hp5.same t1
      have L0p := hp5.ne nL0
      have L0H := fr b05 L0p nL0
      generalize upd H5 L0 (.lst []) = G1 at t1 h1 q1 ⊢
      refine ⟨.ref m, rfl, m, _, rfl, t1 _ _ hm5, fun G3 I ts s3 nI nts It hI tup => ?_⟩
      have t03 := t1.trans s3
      have q3 := q1.same s3
      have h13 := s3 _ _ h1
      have Ip : I ≠ p := q1.ne nI
      have IH := fr b05 Ip (t1.free nI)
      refine ⟨Nat.zero_le _, fun T0 nT0 => ?_⟩
      have t3 := same_upd (o := .tup []) nT0
      have hT0 : upd G3 T0 (.tup []) T0 = some (.tup []) := upd_same
      have qt := q3.same t3
      have T0p := q3.ne nT0
      have T0H := fr b05 T0p (t03.free nT0)
      generalize upd G3 T0 (.tup []) = G4 at t3 hT0 qt ⊢
      have t04 := t03.trans t3
      refine ⟨.ref m, rfl, by show 1 ≤ sizeLine; decide, fun L1 nL1 sysL => ?_⟩
      have t4 := same_upd (o := .lst [V.ref m]) nL1
      have hL1 : upd G4 L1 (.lst [V.ref m]) L1 = some (.lst [V.ref m]) := upd_same
      have q5 := qt.same t4
      have L1p := qt.ne nL1
      have L1H := fr b05 L1p (t04.free nL1)
      generalize upd G4 L1 (.lst [V.ref m]) = G5 at t4 hL1 q5 ⊢
      have t05 := t04.trans t4
      refine ⟨by show 8 ≤ sizeLine; decide, fun S1 nS1 => ?_⟩
      generalize eX : ([V.non, .ref L0, .ref I, .str ("a" : Str), .int 5, .bl true, .ref T0, .ref L1] : List V) = XS
      have t6 := same_upd (o := .lst XS) nS1
      have h6 : upd G5 S1 (.lst XS) S1 = some (.lst XS) := upd_same
      have q6 := q5.same t6
      have S1p := q5.ne nS1
      generalize upd G5 S1 (.lst XS) = G6 at t6 h6 q6 ⊢
      have lX : XS.length = 8 := by rw [← eX]; rfl
      refine ⟨.ref p, rfl, p, 8, rfl, q6, litM _ (by decide) (by decide), fun u Ha u0 u1 qa ba => ?_⟩
      obtain ⟨x, ex, mx⟩ := pick (xs := XS) u0 (by rw [lX]; exact u1)
      refine ⟨S1, _, _, x, rfl, rfl, .inl (.inl (ba _ _ S1p h6)), ex, ?_⟩
      have b5a : But p G5 Ha := (same_but t6).trans ba
      have b4a : But p G4 Ha := (same_but t4).trans b5a
      have b3a : But p G3 Ha := (same_but t3).trans b4a
      have b0a : But p H Ha := b05.trans ((same_but t03).trans b3a)
      have g0 := b3a _ _ L0p h13
      have gI := b3a _ _ Ip hI
      have gT := b4a _ _ T0p hT0
      have gL := b5a _ _ L1p hL1
      have gm := b3a _ _ mp (t03 _ _ hm5)
      have lts : ts.length = ps.length := by
        have := Paired.length tup
        unfold moreK at this
        rw [List.length_map] at this
        exact this
      have nice : NiceD (.list (notesD ps)) (11 * ps.length) := (nice_pairs fun n hn => ⟨g.nz.nm _ (mo.mem n hn).1, big n hn⟩).list
      rw [← eX] at mx
      simp only [List.mem_cons, List.not_mem_nil, or_false] at mx
      rcases mx with rfl | rfl | rfl | rfl | rfl | rfl | rfl | rfl
      · exact q _ _ qa b0a (.data (d := .none) (fun _ _ => .non) rfl ⟨by decide +kernel, .inl (by decide +kernel), by decide +kernel, .inr (by decide +kernel)⟩) (fun d e => by cases e)
      · exact q _ _ qa b0a (.data (d := .list []) (fun G' k => .lst (.inl (.inl (k _ _ L0p g0))) .nil) rfl ⟨by decide +kernel, .inl (by decide +kernel), by decide +kernel, .inr (by decide +kernel)⟩) (fun d e => by cases e; exact ⟨L0H, L0p⟩)
      · refine q _ _ qa b0a (.data (d := .list (notesD ps)) (fun G' k => .lst (.inl (.inl (k _ _ Ip gI))) (pairs_dt lts fun i' t q' h1' h2' => ?_)) rfl (nice.show (by omega))) (fun d e => by cases e; exact ⟨IH, Ip⟩)
        obtain ⟨y, ey, ht⟩ := LiI.paired_get tup h1'
        unfold moreK at ey
        rw [List.getElem?_map, h2'] at ey
        cases ey
        have ht : G3 t = some (.tup [.str q'.1, .int q'.2]) := ht
        have tp : t ≠ p := fun z => by
          obtain ⟨_, _, ep, _⟩ := q3
          rw [z, ep] at ht
          cases ht
        exact k _ _ tp (b3a _ _ tp ht)
      · exact q _ _ qa b0a (.data (d := .str "a") (fun _ _ => .str _) rfl ⟨by decide +kernel, .inl (by decide +kernel), by decide +kernel, .inr (by decide +kernel)⟩) (fun d e => by cases e)
      · exact q _ _ qa b0a (.data (d := .int 5) (fun _ _ => .int _) rfl ⟨by decide +kernel, .inl (by decide +kernel), by decide +kernel, .inr (by decide +kernel)⟩) (fun d e => by cases e)
      · exact q _ _ qa b0a (.data (d := .bool true) (fun _ _ => .bl _) rfl ⟨by decide +kernel, .inl (by decide +kernel), by decide +kernel, .inr (by decide +kernel)⟩) (fun d e => by cases e)
      · exact q _ _ qa b0a (.data (d := .tuple []) (fun G' k => .tup (.inl (.inl (k _ _ T0p gT))) .nil) rfl ⟨by decide +kernel, .inl (by decide +kernel), by decide +kernel, .inr (by decide +kernel)⟩) (fun d e => by cases e; exact ⟨T0H, T0p⟩)
      · rw [eMK] at gm
        obtain ⟨a1, a2⟩ := txtD Ha m zs0 ws0 gm mp nd0 l0 (by omega) (en0 Ha)
        obtain ⟨qs, nk, fq⟩ := datas (by rw [List.length_map]; exact l0) a2
        obtain ⟨k1, k2, k3⟩ := nk.showL (by rw [List.length_map]; omega)
        refine q _ _ qa b0a ⟨⟨none, fun G b => .nod (d := .list [.dict ((ps.map fun q => ((.str q.1, .int q.2) : PyData × PyData)))]) (.lst (.inl (.inl (b _ _ L1p gL))) (.cons (.dct (b _ _ mp gm) ?_ ?_) .nil)) rfl⟩, _, fun G b Q' qq => .inr (.inr ⟨L1, m, _, _, qs, rfl, b _ _ L1p gL, sysL, a1 G b, (fq G b).1, (fq G b).2, k1, k2, k3, qq⟩)⟩ (fun d e => by cases e; exact ⟨L1H, L1p⟩)
        · rw [← eMK]
          exact (more_flats ps).1
        · rw [← eMK]
          exact (more_flats ps).2
    have n0 : ¬ way = 0 := e0
    by_cases e1 : way = 1
    · have n2 : ¬ way = 2 := by omega
      have n3 : ¬ way = 3 := by omega
      refine ⟨.int way, rfl, rfl, _, rfl, ?_⟩
      rw [decide_eq_false fun c' => n0 (V.int.inj c')]
      refine iteF ?_
      refine ⟨.int way, rfl, rfl, _, rfl, ?_⟩
      rw [decide_eq_true (show V.int way = V.int 1 by rw [e1])]
      refine iteT ?_
      refine ⟨.ref c, rfl, by show 1 ≤ sizeLine; decide, fun T2 nT2 => ?_⟩
      have t1 := same_upd (o := .tup [V.str "a"]) nT2
      have h1 : upd H5 T2 (.tup [V.str "a"]) T2 = some (.tup [V.str "a"]) := upd_same
      have q1 := hp5.same t1
      have T2p := hp5.ne nT2
      have T2c : T2 ≠ c := (ne_of_none hc5 nT2).symm
      generalize upd H5 T2 (.tup [V.str "a"]) = G1 at t1 h1 q1
      have zl := (nameT_len (g.nz.nm z hz)).2
      refine ⟨.str z, rfl, z, "_", rfl, rfl, small_line (by show z.length + 1 ≤ _; omega), by show 8 ≤ sizeLine; decide, fun S1 nS1 => ?_⟩
      generalize eX : ([V.non, .str ("" : Str), .str ("A" : Str), .int 5, .bl true, .ref T2, .str (z ++ "_"), .str ("ninelongs" : Str)] : List V) = XS
      have t2 := same_upd (o := .lst XS) nS1
      have h2 : upd G1 S1 (.lst XS) S1 = some (.lst XS) := upd_same
      have q2 := q1.same t2
      have S1p := q1.ne nS1
      generalize upd G1 S1 (.lst XS) = G2 at t2 h2 q2
      have lX : XS.length = 8 := by rw [← eX]; rfl
      refine ⟨.ref p, rfl, p, 8, rfl, q2, litM _ (by decide) (by decide), fun u Ha u0 u1 qa ba => ?_⟩
      obtain ⟨x, ex, mx⟩ := pick (xs := XS) u0 (by rw [lX]; exact u1)
      refine ⟨S1, _, _, x, rfl, rfl, .inl (.inl (ba _ _ S1p h2)), ex, ?_⟩
      have hca := ba _ _ cp (t2 _ _ (t1 _ _ hc5))
      have hTa := ba _ _ T2p (t2 _ _ h1)
      have b0a : But p H Ha := b05.trans ((same_but (t1.trans t2)).trans ba)
      rw [eMK] at hca
      have lenOk : (dct zs0 ws0).length < sizeLine := by rw [dct_len l0.symm]; exact small1000 (by omega)
      have txt : ∀ y : Str, nameT y = false → y.length ≤ 10 → Asc y → rSetAnyY P w (.ref c) (.str y) (.int 0) Ha fun H' => Q (.ref c) H' := fun y ny ly ay => by
        have nin : y ∉ zs := fun hm => by
          have := g.nz.nm y hm
          rw [ny] at this
          cases this
        refine .inl ⟨c, _, rfl, .inl ⟨_, Sum.inr y, hca, rfl, lenOk, rfl⟩, ?_⟩
        have hc' : upd Ha c (.dK (putK (dct zs0 ws0) (Sum.inr y) (.int 0))) c = some (.dK (putK (dct zs0 ws0) (Sum.inr y) (.int 0))) := upd_same
        have q8 := ptup (.dK (putK (dct zs0 ws0) (Sum.inr y) (.int 0))) qa
        have b8 := btup (.dK (putK (dct zs0 ws0) (Sum.inr y) (.int 0))) b0a
        obtain ⟨zs', ws', e, nd', l', l13, en'⟩ := put_dct nd0 l0 y (.int 0)
        rw [e] at hc' q8 b8 ⊢
        refine finT _ zs' ws' q8 b8 hc' nd' l' (by omega) fun i k y' e1 e2 => ?_
        rcases en' i k y' e1 e2 with ⟨rfl, rfl⟩ | ⟨j', e3, e4⟩
        · exact ent_key (e := .str k) ((nice_text (n := 10) ay ly).e (by decide)) (fun z e => by cases e; omega) (decide_eq_false nin) fun G' _ => .flat (.str k)
        · exact en0 _ j' k y' e3 e4
      have frn : ∀ (f : Fk) (k : V) (kd : PyData), FkV Ha f k → (∀ G', But p Ha G' → FlV G' k kd) → NiceE kd 12 → ShortD kd → hasD (bkOf zs D) kd = false → (∀ G', But p (upd Ha c (dMy P w c zs0 ws0 f k (.int 0))) G' → FlV G' k kd ∧ FkV G' f k) → rSetAnyY P w (.ref c) k (.int 0) Ha fun H' => Q (.ref c) H' := fun f k kd fr fk nk sd hk fv => by
        refine .inr ⟨c, zs0, ws0, f, rfl, hca, l0, by omega, nd0, fr, ?_⟩
        refine q _ _ (ptup _ qa) (btup _ b0a) (.dict (ks := kyO zs0 k) (vs := ws0 ++ [.int 0]) (fun G b => ⟨_, .inr ⟨zs0, ws0, f, k, .int 0, rfl, nd0, l0, (fv G b).2, rfl, rfl⟩, b _ _ cp upd_same⟩) (fun i k' y e1 e2 => ?_) (by rw [List.length_append, List.length_map]; show zs0.length + 1 ≤ 200; omega)) cfr
        by_cases ci : i < zs0.length
        · rw [List.getElem?_append_left (by rw [List.length_map]; exact ci), List.getElem?_map] at e1
          rw [List.getElem?_append_left (by omega)] at e2
          obtain ⟨k2, h2, rfl⟩ := Option.map_eq_some_iff.mp e1
          exact en0 _ i k2 y h2 e2
        · have hi := (List.getElem?_eq_some_iff.mp e1).1
          rw [List.length_append, List.length_map] at hi
          have hi : i < zs0.length + 1 := hi
          obtain rfl : i = zs0.length := by omega
          rw [List.getElem?_append_right (by rw [List.length_map]; exact Nat.le_refl _), List.length_map, Nat.sub_self] at e1
          rw [l0, List.getElem?_append_right (Nat.le_refl _), Nat.sub_self] at e2
          cases e1
          cases e2
          exact ent_key nk sd hk fun G' b => (fv G' b).1
      suffices hs : rSetAnyY P w (.ref c) x (.int 0) Ha fun H' => Q (.ref c) H' by
        rcases hs with ⟨a', H', e1', e2', e3'⟩ | ⟨d', zs', ws', f', e1', e2', e3', e4', e5', e6', e7'⟩
        · refine .inl ⟨a', H', e1', e2', ?_⟩
          refine ⟨.int way, rfl, rfl, _, rfl, ?_⟩
          rw [decide_eq_false fun c' => n2 (V.int.inj c')]
          refine iteF ?_
          refine ⟨.int way, rfl, rfl, _, rfl, ?_⟩
          rw [decide_eq_false fun c' => n3 (V.int.inj c')]
          refine iteF ?_
          exact ⟨.ref c, rfl, e3'⟩
        · refine .inr ⟨d', zs', ws', f', e1', e2', e3', e4', e5', e6', ?_⟩
          refine ⟨.int way, rfl, rfl, _, rfl, ?_⟩
          rw [decide_eq_false fun c' => n2 (V.int.inj c')]
          refine iteF ?_
          refine ⟨.int way, rfl, rfl, _, rfl, ?_⟩
          rw [decide_eq_false fun c' => n3 (V.int.inj c')]
          refine iteF ?_
          exact ⟨.ref c, rfl, e7'⟩
      have us10 : (z ++ ("_" : Str)).length ≤ 10 := by rw [us_len]; omega
      have usA : Asc (z ++ ("_" : Str)) := (name_asc (g.nz.nm z hz)).app (by decide +kernel)
      rw [← eX] at mx
      simp only [List.mem_cons, List.not_mem_nil, or_false] at mx
      rcases mx with rfl | rfl | rfl | rfl | rfl | rfl | rfl | rfl
      · exact frn .non .non .none .non (fun _ _ => .flat .non) (nice0 _ (by decide +kernel)) (fun z e => by cases e) rfl fun _ _ => ⟨.flat .non, .non⟩
      · exact txt "" (by decide +kernel) (by decide) (by decide +kernel)
      · exact txt "A" (by decide +kernel) (by decide) (by decide +kernel)
      · exact frn .num (.int 5) (.int 5) .num (fun _ _ => .flat (.int 5)) (nice0 _ (by decide +kernel)) (fun z e => by cases e) rfl fun _ _ => ⟨.flat (.int 5), .num⟩
      · exact frn .tru (.bl true) (.bool true) .tru (fun _ _ => .flat (.bl true)) (nice0 _ (by decide +kernel)) (fun z e => by cases e) rfl fun _ _ => ⟨.flat (.bl true), .tru⟩
      · exact frn (.tup "a") (.ref T2) (.tuple [.str "a"]) (.tup hTa) (fun G' b => .tup (b _ _ T2p hTa) (.cons (.str _) .nil)) (nice0 _ (by decide +kernel)) (fun z e => by cases e) rfl fun G' b => ⟨.tup (b _ _ T2p ((upd_ne T2c).trans hTa)) (.cons (.str _) .nil), .tup (b _ _ T2p ((upd_ne T2c).trans hTa))⟩
      · exact txt _ (us_no z) us10 usA
      · exact txt "ninelongs" (by decide +kernel) (by decide) (by decide +kernel)
    have n1 : ¬ way = 1 := e1
    by_cases e2 : way = 2
    · have n3 : ¬ way = 3 := by omega
      refine ⟨.int way, rfl, rfl, _, rfl, ?_⟩
      rw [decide_eq_false fun c' => n0 (V.int.inj c')]
      refine iteF ?_
      refine ⟨.int way, rfl, rfl, _, rfl, ?_⟩
      rw [decide_eq_false fun c' => n1 (V.int.inj c')]
      refine iteF ?_
      refine ⟨.int way, rfl, rfl, _, rfl, ?_⟩
      rw [decide_eq_true (show V.int way = V.int 2 by rw [e2])]
      refine iteT ?_
      refine ⟨1, rfl, by show 1 ≤ sizeLine; decide, fun L2' nL2 sysL => ?_⟩
      have t1 := same_upd (o := .lst [V.int 1]) nL2
      have h1 : upd H5 L2' (.lst [V.int 1]) L2' = some (.lst [V.int 1]) := upd_same
      have q1 := hp5.same t1
      have L2p := hp5.ne nL2
      have L2c : L2' ≠ c := (ne_of_none hc5 nL2).symm
      generalize upd H5 L2' (.lst [V.int 1]) = G1 at t1 h1 q1
      intro D2 nD2
      have t2 := same_upd (o := .dK []) nD2
      have h2 : upd G1 D2 (.dK []) D2 = some (.dK []) := upd_same
      have q2 := q1.same t2
      have D2p := q1.ne nD2
      have D2c : D2 ≠ c := (ne_of_none (t1 _ _ hc5) nD2).symm
      generalize upd G1 D2 (.dK []) = G2 at t2 h2 q2
      refine ⟨_, _, rfl, rfl, ⟨by decide, by decide, by decide⟩, _, rfl, by show 8 ≤ sizeLine; decide, fun S1 nS1 => ?_⟩
      generalize eB : (10 : Int) ^ (40 : Int).toNat = B40
      generalize eX : ([V.int (-1), .non, .bl true, .str ("1" : Str), .ref L2', .ref D2, .int (-B40), .bl false] : List V) = XS
      have t3 := same_upd (o := .lst XS) nS1
      have h3 : upd G2 S1 (.lst XS) S1 = some (.lst XS) := upd_same
      have q3 := q2.same t3
      have S1p := q2.ne nS1
      generalize upd G2 S1 (.lst XS) = G3 at t3 h3 q3
      have lX : XS.length = 8 := by rw [← eX]; rfl
      refine ⟨.ref p, rfl, p, 8, rfl, q3, litM _ (by decide) (by decide), fun u Ha u0 u1 qa ba => ?_⟩
      obtain ⟨x, ex, mx⟩ := pick (xs := XS) u0 (by rw [lX]; exact u1)
      refine ⟨S1, _, _, x, rfl, rfl, .inl (.inl (ba _ _ S1p h3)), ex, ?_⟩
      have hca := ba _ _ cp (t3 _ _ (t2 _ _ (t1 _ _ hc5)))
      have hLa := ba _ _ L2p (t3 _ _ (t2 _ _ h1))
      have hDa := ba _ _ D2p (t3 _ _ h2)
      have b0a : But p H Ha := b05.trans ((same_but (t1.trans (t2.trans t3))).trans ba)
      refine ⟨.ref c, rfl, .str z, rfl, ?_⟩
      suffices en : Ent p (upd Ha c (.dK (putK (moreK ps) (Sum.inr z) x))) (bkOf zs D) (.str z) x by
        obtain ⟨H8, d1, d2⟩ := setz Ha x qa b0a hca (fun _ _ => trivial) en
        refine .inl ⟨c, H8, rfl, d1, ?_⟩
        refine ⟨.int way, rfl, rfl, _, rfl, ?_⟩
        rw [decide_eq_false fun c' => n3 (V.int.inj c')]
        exact iteF ⟨.ref c, rfl, d2⟩
      rw [← eX] at mx
      simp only [List.mem_cons, List.not_mem_nil, or_false] at mx
      rcases mx with rfl | rfl | rfl | rfl | rfl | rfl | rfl | rfl
      · exact ent_int g hz (by unfold BigOk; decide)
      · exact ent_val g hz (nice0 .none (by decide +kernel)) (fun z e => by cases e) rfl fun _ _ => .fl (.flat .non)
      · exact ent_val g hz (nice0 (.bool true) (by decide +kernel)) (fun z e => by cases e) rfl fun _ _ => .fl (.flat (.bl true))
      · exact ent_val g hz (nice0 (.str "1") (by decide +kernel)) (fun z e => by cases e; decide) rfl fun _ _ => .fl (.flat (.str "1"))
      · exact ent_val g hz (nice0 (.list [.int 1]) (by decide +kernel)) (fun z e => by cases e) rfl fun _ b => .fl (.lst (b _ _ L2p ((upd_ne L2c).trans hLa)) sysL (.cons (.int 1) .nil))
      · exact ent_val g hz (nice0 (.dict []) (by decide +kernel)) (fun z e => by cases e) rfl fun _ b => .dc (b _ _ D2p ((upd_ne D2c).trans hDa))
      · refine ent_int g hz ?_
        rw [← eB]
        unfold BigOk
        decide
      · exact ent_val g hz (nice0 (.bool false) (by decide +kernel)) (fun z e => by cases e) rfl fun _ _ => .fl (.flat (.bl false))
    have n2 : ¬ way = 2 := e2
    by_cases e3 : way = 3
    · refine ⟨.int way, rfl, rfl, _, rfl, ?_⟩
      rw [decide_eq_false fun c' => n0 (V.int.inj c')]
      refine iteF ?_
      refine ⟨.int way, rfl, rfl, _, rfl, ?_⟩
      rw [decide_eq_false fun c' => n1 (V.int.inj c')]
      refine iteF ?_
      refine ⟨.int way, rfl, rfl, _, rfl, ?_⟩
      rw [decide_eq_false fun c' => n2 (V.int.inj c')]
      refine iteF ?_
      refine ⟨.int way, rfl, rfl, _, rfl, ?_⟩
      rw [decide_eq_true (show V.int way = V.int 3 by rw [e3])]
      refine iteT ?_
      refine ⟨.ref a.m, rfl, .str z, rfl, a, D, zs, z, j, l, f', rfl, hM5, ej, el, ef, by omega, fun m1 mx1 H6 s6 nm1 hm1 dm1 => ⟨m1, rfl, ⟨_, .inl (.inl hm1)⟩, fun D1 nD1 => ?_⟩⟩
      have f0 := g.fl f' (List.mem_of_getElem? ef)
      have fw := gb.fw j l f' el ef
      have eW := whole_left17 (fun n hn => (g.nt l hlm n hn).2.1) f0 fw
      have lp : (leftN l f').length ≤ 60 := Nat.le_trans (leftN_len _ _) ll
      generalize hpl : leftN l f' = pl at eW lp
      rw [hpl] at dm1
      have lx : mx1.length = pl.length := by
        rw [dm1.len]
        unfold notesD
        rw [List.length_map]
      refine lc_it (walk_list (K := K) (a := m1) (xs := mx1)) (fun i' H' => Same H6 H' ∧ H' D1 = some (.lst ((pl.take i').map fun n => .int n.2))) ⟨same_upd nD1, upd_same⟩ (fun i' H' _ hP => hP.1.seq (.inl (.inl hm1)))
        (fun i' x' H3' H3 hi' hP hY => ?_) (fun H3 hP => ?_)
      · obtain ⟨rfl, hx'⟩ := hY
        obtain ⟨hil, dn⟩ := (DtAll.same hP.1 _ dm1).notes_get hx'
        obtain ⟨na, rfl, qn⟩ := note_inv dn
        refine ⟨na, _, rfl, qn, rfl, _, _, rfl, _, _, rfl, rfl, rfl, _, rfl, _, hP.2, ?_, fun c o ec => ?_, ?_⟩
        · rw [List.length_map, List.length_take]
          exact small1000 (by omega)
        · rw [upd_ne (ne_of_none ec nD1)]
          exact hP.1 c o ec
        · rw [upd_same, take_succ hil, List.map_append]
          rfl
      obtain ⟨s7, hD1⟩ := hP
      refine ⟨D1, pl.map (·.2), rfl, .inl (.inl ?_), ?_⟩
      · rw [hD1, lx, List.take_length, List.map_map]
        rfl
      have eS : (pl.map (·.2)).sum = wholeN pl := rfl
      rw [eS]
      generalize wholeN pl = Wh at eW
      have s57 := s6.trans s7
      have big1 : BigOk (Wh + 1) := by
        have : (60 : Int) * 10 ^ 58 + 1 < 2 ^ 300 := by decide
        unfold BigOk
        omega
      obtain ⟨H8, d1, d2⟩ := setz H3 (.int (Wh + 1)) (hp5.same s57) (b05.trans (same_but s57)) (s57 _ _ hc5) (fun _ _ => trivial) (ent_int g hz big1)
      exact ⟨_, _, rfl, rfl, .ref c, rfl, .str z, rfl, .inl ⟨c, H8, rfl, d1, .ref c, rfl, d2⟩⟩
    have n3 : ¬ way = 3 := e3
    refine ⟨.int way, rfl, rfl, _, rfl, ?_⟩
    rw [decide_eq_false fun c' => n0 (V.int.inj c')]
    refine iteF ?_
    refine ⟨.int way, rfl, rfl, _, rfl, ?_⟩
    rw [decide_eq_false fun c' => n1 (V.int.inj c')]
    refine iteF ?_
    refine ⟨.int way, rfl, rfl, _, rfl, ?_⟩
    rw [decide_eq_false fun c' => n2 (V.int.inj c')]
    refine iteF ?_
    refine ⟨.int way, rfl, rfl, _, rfl, ?_⟩
    rw [decide_eq_false fun c' => n3 (V.int.inj c')]
    refine iteF ?_
    rw [eMK] at hc5
    exact ⟨.ref c, rfl, finT H5 zs0 ws0 hp5 b05 hc5 nd0 l0 (by omega) (en0 H5)⟩
end
end Rc

namespace Rc
open PySem PySem.Spec PyProof.Rows L2 RZ LamX
theorem op_notIn_seqS {X : Cx} {K : PySem.W.Frag} (e : X.K = K) : OpR X (compareOp .NotIn) (rIn K true) := by
  subst e
  exact op_notIn_seq
/-! ### what has fallen more -/
def fellA (zs : List Str) (D : Md) (ps : List (Str × Int)) : Md := { D with fallen := (zs.zip D.fallen).map fun p => p.2 + moreAt ps p.1 }
theorem fellA_bk (zs : List Str) (D : Md) (ps : List (Str × Int)) : bkOf zs (fellA zs D ps) = fallM (bkOf zs D) ps := rfl
theorem all_eqv (x y : PyData) (xs ys : List PyData) : PyData.eqvAll (x :: xs) (y :: ys) = (PyData.eqv x y && PyData.eqvAll xs ys) := by rw [PyData.eqvAll]
theorem strs_eqv : ∀ ys zs : List Str, PyData.eqvAll (ys.map PyData.str) (zs.map PyData.str) = decide (ys = zs)
  | [], [] => by simp [PyData.eqvAll]
  | [], _ :: _ => by simp [PyData.eqvAll]
  | _ :: _, [] => by simp [PyData.eqvAll]
  | y :: ys, z :: zs => by
    rw [List.map_cons, List.map_cons, all_eqv, strs_eqv ys zs]
    have : PyData.eqv (.str y) (.str z) = decide (y = z) := by
      simp only [PyData.eqv]
      rfl
    rw [this]
    by_cases h : y = z <;> simp [h]
theorem eqv_strs (a b : List Str) : PyData.eqv (.list (a.map .str)) (.list (b.map .str)) = decide (a = b) := by rw [PyData.eqv, strs_eqv]
def shortsL (zs : List Str) (es : List Int) : List Str := ((zs.zip es).filter fun p => decide (p.2 < 0)).map (·.1)
theorem filt_head {α : Type} (p : α → Bool) : ∀ (l : List α) {z : α} {r : List α}, l.filter p = z :: r → ∃ i : Nat, l[i]? = some z ∧ p z = true ∧ ∀ (j : Nat) (y : α), j < i → l[j]? = some y → p y = false
  | [], _, _, h => by simp at h
  | x :: l, z, r, h => by
    by_cases c : p x = true
    · rw [List.filter_cons_of_pos c] at h
      cases h
      exact ⟨0, rfl, c, fun j y hj => absurd hj (Nat.not_lt_zero _)⟩
    · rw [List.filter_cons_of_neg c] at h
      obtain ⟨i, h1, h2, h3⟩ := filt_head p l h
      refine ⟨i + 1, h1, h2, fun j y hj e => ?_⟩
      cases j with
      | zero =>
        cases e
        exact Bool.eq_false_iff.mpr c
      | succ j => exact h3 j y (by omega) e
theorem short_no {zs : List Str} {es : List Int} (l : es.length = zs.length) (h : shortsL zs es = []) : ∀ x ∈ es, 0 ≤ x := fun x hx => by
  obtain ⟨i, hi, rfl⟩ := List.getElem_of_mem hx
  have h' : ((zs.zip es).filter fun p => decide (p.2 < 0)) = [] := List.map_eq_nil_iff.mp h
  have := List.filter_eq_nil_iff.mp h' (zs[i], es[i]) (List.mem_of_getElem? (i := i) (List.getElem?_zip_eq_some.mpr ⟨List.getElem?_eq_getElem (by omega), List.getElem?_eq_getElem hi⟩))
  have : ¬ es[i] < 0 := fun c => this (decide_eq_true c)
  omega
def cashL (zs : List Str) (D : Md) : List Int := (List.range zs.length).map fun i => cashD D i (zs[i]?.getD ⟨#[]⟩)
theorem cashL_len (zs : List Str) (D : Md) : (cashL zs D).length = zs.length := by
  unfold cashL
  rw [List.length_map, List.length_range]
theorem cashL_at {zs : List Str} {D : Md} {i : Nat} {z : Str} (e : zs[i]? = some z) : (cashL zs D)[i]? = some (cashD D i z) := by
  unfold cashL
  have hi := (List.getElem?_eq_some_iff.mp e).1
  rw [List.getElem?_map, List.getElem?_range hi, Option.map_some, e]
  rfl
theorem short_of {zs : List Str} {D : Md} {ps : List (Str × Int)} {z : Str} {r : List Str} (h : shortsL zs (cashL zs (fellA zs D ps)) = z :: r) : ShortM (bkOf zs D) ps z := by
  have le := cashL_len zs (fellA zs D ps)
  unfold shortsL at h
  cases hf : ((zs.zip (cashL zs (fellA zs D ps))).filter fun p => decide (p.2 < 0)) with
  | nil =>
    rw [hf] at h
    cases h
  | cons q t =>
    rw [hf] at h
    cases h
    obtain ⟨i, e1, e2, e3⟩ := filt_head _ _ hf
    obtain ⟨a, b⟩ := List.getElem?_zip_eq_some.mp e1
    have cc : ∀ {j : Nat} {y : Str}, zs[j]? = some y → cashM (fallM (bkOf zs D) ps) j y = cashD (fellA zs D ps) j y := fun {j y} _ => cash_eq zs (fellA zs D ps) _ _
    refine ⟨i, a, ?_, fun j y hj e => ?_⟩
    · rw [cc a]
      have := cashL_at (D := fellA zs D ps) a
      rw [b] at this
      rw [← Option.some.inj this]
      exact of_decide_eq_true e2
    · rw [cc e]
      have := of_decide_eq_false (e3 j (y, cashD (fellA zs D ps) j y) hj (List.getElem?_zip_eq_some.mpr ⟨e, cashL_at e⟩))
      have : ¬ cashD (fellA zs D ps) j y < 0 := this
      omega
theorem short_none {zs : List Str} {D : Md} {ps : List (Str × Int)} (h : shortsL zs (cashL zs (fellA zs D ps)) = []) : ∀ (j : Nat) (z : Str), (bkOf zs D).names[j]? = some z → 0 ≤ cashM (fallM (bkOf zs D) ps) j z := fun j z e => by
  have := short_no (cashL_len _ _) h _ (List.mem_of_getElem? (cashL_at (D := fellA zs D ps) (show zs[j]? = some z from e)))
  have e2 : cashM (fallM (bkOf zs D) ps) j z = cashD (fellA zs D ps) j z := cash_eq zs (fellA zs D ps) _ _
  omega
section
variable {P : Program} {w : World} {K : PySem.W.Frag} {mg : Str → Option Value} {base : Heap}
/-! ### _law_wanted -/
abbrev sLWa : Stmt := topS 43
abbrev nLWa : List Str := ["_law_model_here", "_law_more_here", "_law_who", "_law_much", "_law_to", "_law_amount_here", "_law_after", "_law_short"]
theorem scLWa : FnScope nLWa ["_law_model_here", "_law_more_here"] (defScope sLWa) := ⟨rfl, rfl, rfl, by decide +kernel, rfl, by decide +kernel, by decide +kernel⟩
def spLWa (P : Program) (w : World) (K : PySem.W.Frag) : Sp := fun vs H Q _ => ∃ (a : MdA) (D : Md) (zs : List Str) (v : V) (o : Option (List (Str × Int))), vs = [.ref a.m, v] ∧ ModelAt K H zs a D ∧ Gs zs D ∧ Gb D ∧ Thg P w K H (bkOf zs D) v o ∧ (∀ d, v = .ref d → ¬ a.Has d) ∧
  (o = none → ∀ L H', Same H H' → H L = none → H' L = some (.lst [.str ("no vector" : Str)]) → Q (.ref L) H') ∧
  ∀ ps, o = some ps → (∀ z L H', ShortM (bkOf zs D) ps z → Same H H' → H L = none → H' L = some (.lst [.str ("short" : Str), .str z]) → Q (.ref L) H') ∧
    ∀ m df L H', (∀ (j : Nat) (z : Str), (bkOf zs D).names[j]? = some z → 0 ≤ cashM (fallM (bkOf zs D) ps) j z) → Same H H' → H m = none → H df = none → H L = none → ModelAt K H' zs ⟨m, a.lo, a.dg, df, a.dn, a.rs⟩ (fellA zs D ps) → H' L = some (.lst [.str ("told" : Str), .ref m]) → Q (.ref L) H'
set_option maxHeartbeats 4000000 in
theorem ok_lwa {f f1 f2 : Addr} {fd fd1 fd2 : FuncData} (F : Fun K "_law_wanted" "_law_wanted" sLWa f fd) (B : Blt mg) (B3 : Blt3 mg) (LL : Has P w K mg base 2 "_law_left" ["_law_model_here", "_law_who"] (spLLf K) f1 fd1) (CS : Has P w K mg base 2 "_law_cash" ["_law_model_here", "_law_who"] (spLCs K) f2 fd2) :
    FnOk P w K mg base CX0 3 f fd ["_law_model_here", "_law_more_here"] (spLWa P w K) := by
  refine F.ok scLWa (fun vs H Q E h => ?_) (fun cdv Ar outer s H vs Q E0 hr h => ?_)
  · obtain ⟨_, _, _, _, _, rfl, _⟩ := h
    rfl
  · obtain ⟨a, D, zs, v, oo, rfl, hM, g, gb, th, na, qn, qs⟩ := h
    have hu := hu_of hr
    refine ⟨_, (pss_cons (ps_if (pt_not (pt_val (pe_callB call_isiY (by rfl) B.isi (by decide +kernel) (pa_cons (pv 1) (pa_cons (pe_bltn (v := .ty "dict") (by rfl) B3.dict (by decide +kernel) rfl) pa_nil))))) (pss_one (ps_ret (pe_lst (pa_cons pe_str pa_nil)))) pss_nil) (pss_cons (ps_lock (ps_for PassesOwn.never rfl (pi_keysY (pv 1)) (pg_name (i := 2) scLWa.nd rfl (.inl rfl)) (pss_cons (ps_set (i := 3) scLWa.nd rfl (.inl rfl) (pe_getY hu (pv 1) (pv 2) (fun _ _ => rfl))) (pss_cons (ps_if (PW.pt (pw_or (pt_not (pt_val (pe_callB call_isi (by rfl) B.isi (by decide +kernel) (pa_cons (pv 2) (pa_cons (pe_bltn (v := .ty "str") (by rfl) B.str (by decide +kernel) rfl) pa_nil))))) (pw_or1 (pt_cmpR op_notIn_seq (pv 2) (pe_dget hu (pv 0) pe_str (fun _ _ => rfl)) (by rfl))))) (pss_one (ps_ret (pe_lst (pa_cons pe_str pa_nil)))) pss_nil) (pss_cons (ps_if (PW.pt (pw_or (pt_not (pt_val (pe_callB call_isi (by rfl) B.isi (by decide +kernel) (pa_cons (pv 3) (pa_cons (pe_bltn (v := .ty "int") (by rfl) B.int (by decide +kernel) rfl) pa_nil))))) (pw_or (pt_val (pe_callB call_isi (by rfl) B.isi (by decide +kernel) (pa_cons (pv 3) (pa_cons (pe_bltn (v := .ty "bool") (by rfl) B.bool (by decide +kernel) rfl) pa_nil)))) (pw_or1 (pt_cmpR op_lt (pv 3) pe_int (nomark _)))))) (pss_one (ps_ret (pe_lst (pa_cons pe_str pa_nil)))) pss_nil) (pss_one (ps_if (pt_cmpR op_gt (pv 3) (pe_callB (cr_sum rfl) (by rfl) B3.sum (by decide +kernel) (pa_cons (pe_lc (own := [("_law_to", 4), ("_law_amount_here", 5)]) (g := gTup K 2 (gCons (gName 4) (gCons (gName 5) gNil))) (tt := tYes) rfl scLWa.nd (pi_list (pe_call LL.ok hr (by rfl) LL.g LL.kp LL.b .nil pass0 (pa_cons (pv 0) (pa_cons (pv 2) pa_nil)))) (blkOk_by (N := nLWa) (sc := defScope sLWa) (own := [("_law_to", 4), ("_law_amount_here", 5)]) (by decide +kernel)) (fun _ _ _ _ _ => pg_tup rfl (pgs_cons (pg_name (i := 4) scLWa.nd rfl (.inl rfl) (hf := .inr rfl)) (pgs_cons (pg_name (i := 5) scLWa.nd rfl (.inl rfl) (hf := .inr rfl)) pgs_nil))) (fun _ _ _ _ _ => pts_nil) (fun _ _ _ _ _ => (pv 5))) pa_nil)) (nomark _)) (pss_one (ps_ret (pe_lst (pa_cons pe_str pa_nil)))) pss_nil))))))) (pss_cons (ps_set (i := 6) scLWa.nd rfl (.inr rfl) (pe_callTy call_dictD (by rfl) B3.dict (by decide +kernel) (pa_cons (pv 0) pa_nil))) (pss_cons (ps_dput hu (pv 6) pe_str (pe_callTy (call_dictP rfl) (by rfl) B3.dict (by decide +kernel) (pa_cons (pe_lc (own := [("_law_who", 2)]) (g := gName 2) (tt := tYes) rfl scLWa.nd (pi_list (pe_dget hu (pv 0) pe_str (fun _ _ => rfl))) (blkOk_by (N := nLWa) (sc := defScope sLWa) (own := [("_law_who", 2)]) (by decide +kernel)) (fun _ _ _ _ _ => pg_name (i := 2) scLWa.nd rfl (.inl rfl) (hf := .inr rfl)) (fun _ _ _ _ _ => pts_nil) (fun _ _ _ _ _ => pe_tup (pa_cons (pv 2) (pa_cons (pe_op op_add (pe_dget hu (pe_dget hu (pv 0) pe_str (fun _ _ => rfl)) (pv 2) (fun _ _ => rfl)) (pe_dget2 hu (pv 1) (pv 2) pe_int ⟨rfl, rfl, rfl, rfl⟩)) pa_nil)))) pa_nil)) rfl) (pss_cons (ps_setLc (i := 7) (own := [("_law_who", 2)]) (g := gName 2) rfl scLWa.nd rfl rfl (sw_true rfl rfl rfl (by decide +kernel)) (pi_list (pe_dget hu (pv 0) pe_str (fun _ _ => rfl))) (blkOk_by (N := nLWa) (sc := defScope sLWa) (own := [("_law_who", 2)]) (by decide +kernel)) (fun _ _ _ _ _ => pg_name (i := 2) scLWa.nd rfl (.inl rfl) (hf := .inr rfl)) (fun _ _ _ _ _ => pts_one (pt_cmpR op_lt (pe_call CS.ok hr (by rfl) CS.g CS.kp CS.b .nil pass0 (pa_cons (pv 6) (pa_cons (pv 2) pa_nil))) pe_int (nomark _))) (fun _ _ _ _ _ => (pv 2))) (pss_one (ps_ret (pe_ifExp (pt_cmpR (op_neD hr.units) (pv 7) (pe_lst pa_nil) (nomark _)) (pe_lst (pa_cons pe_str (pa_cons (pe_ix ix_list (pv 7) pe_int (fun _ _ => rfl)) pa_nil))) (pe_lst (pa_cons pe_str (pa_cons (pv 6) pa_nil))))))))))), ?_⟩
    have n12 := g.nz.n1
    have lz : (zs.map V.str).length = zs.length := List.length_map ..
    have hh : (∃ dd, Dt K H v dd ∧ dictD dd = false ∧ oo = none) ∨ ∃ (d : Addr) (ks vs : List V) (n : Nat), v = .ref d ∧ PreE P w H (bkOf zs D) d ks vs n ∧ ((n < ks.length ∧ oo = none) ∨ (n = ks.length ∧ ∃ ps, oo = some ps ∧ H d = some (.dK (moreK ps)) ∧ RightM (bkOf zs D) ps)) := by
      cases th with
      | nod hd nd => exact .inl ⟨_, hd, nd, rfl⟩
      | rgt hd rm => exact .inr ⟨_, _, _, _, rfl, rm.pre hd, .inr ⟨by rw [List.length_map], _, rfl, hd, rm⟩⟩
      | bad pe ln => exact .inr ⟨_, _, _, _, rfl, pe, .inl ⟨ln, rfl⟩⟩
    rcases hh with ⟨dd, hd, nd, rfl⟩ | ⟨d, ks, vs, n, rfl, pe, ho⟩
    · refine ⟨v, rfl, .inl ⟨v, .ty "dict", _, _, dictD dd, rfl, .ty "dict", hd.ty, kit_dict dd, _, rfl, ?_⟩⟩
      rw [nd]
      exact iteT ⟨by show 1 ≤ sizeLine; decide, fun L nL => qn rfl L _ (same_upd nL) nL upd_same⟩
    have nad := na d rfl
    obtain ⟨u, lk, hd⟩ := pe.any
    refine ⟨.ref d, rfl, .inr ⟨d, ks, vs, rfl, ⟨u, lk, hd⟩, _, rfl, iteF ?_⟩⟩
    refine ⟨d, _, hd, lk.mut, fun od => ?_⟩
    have kpL : ∀ c o, c ≠ d → H c = some o → upd H d (.frz od u) c = some o := fun c o n e => by rw [upd_ne n]; exact e
    have ktL : KT H (upd H d (.frz od u)) := fun c o e f => kpL c o (lk.ne hd e (fun kvs z => by subst z; exact f) (fun φ z => by subst z; exact f)) e
    have hML : ModelAt K (upd H d (.frz od u)) zs a D := hM.keep (fun b o hb e => kpL b o (fun z => nad (z ▸ hb)) e) ktL
    have bdL : ∀ k v, ks[n]? = some k → vs[n]? = some v → BadE (upd H d (.frz od u)) (bkOf zs D) k v := fun k v e1 e2 => (pe.bd k v e1 e2).lock lk hd kpL e1
    have lkL : LkD P w (upd H d (.frz od u)) d ks vs u := lk.keep fun c xs e => kpL _ _ (lk.ne hd e (fun _ z => nomatch z) (fun _ z => nomatch z)) e
    have hdL : upd H d (.frz od u) d = some (.frz od u) := upd_same
    have un : ∀ H', Same (upd H d (.frz od u)) H' → Same H (upd H' d u) := fun H' s' => same_unlock hd s'
    have frL : ∀ L, upd H d (.frz od u) L = none → L ≠ d ∧ H L = none := fun L e => by
      have h1 : L ≠ d := fun z => by rw [z, hdL] at e; cases e
      rw [upd_ne h1] at e
      exact ⟨h1, e⟩
    have ll := lk.len
    generalize upd H d (.frz od u) = HL at hML bdL lkL hdL un frL
    refine ⟨.ref d, rfl, d, od, ks, vs, u, rfl, lkL, hdL, fun J hJ => ?_⟩
    have out : ∀ H', n < ks.length → Same HL H' → (1 : Nat) ≤ sizeLine ∧ ∀ L, H' L = none → (upd H' L (.lst [V.str ("no vector" : Str)]) d = some (.frz od u) ∧ Q (.ref L) (upd (upd H' L (.lst [V.str ("no vector" : Str)])) d u)) := fun H' ln s' => ⟨by decide, fun L nL => by
      have eo : oo = none := by
        rcases ho with ⟨_, e⟩ | ⟨e, _⟩
        · exact e
        · omega
      have s2 := s'.trans (same_upd (o := .lst [V.str ("no vector" : Str)]) nL)
      obtain ⟨Ld, LH⟩ := frL L (s'.free nL)
      exact ⟨s2 _ _ hdL, qn eo L _ (un _ s2) LH (by rw [upd_ne Ld]; exact upd_same)⟩⟩
    refine for_it hJ (fun i σ H' => i ≤ n ∧ ∃ y2 y3, σ = [some (.ref a.m), some (.ref d), y2, y3, none, none, none, none] ∧ Same HL H') ⟨Nat.zero_le _, _, _, rfl, Same.refl _⟩ (fun i σ H' _ hP => ?_) (fun i x1 σ H1' H1 hi hP hY => ?_) (fun σ H1 hP => ?_)
    · obtain ⟨_, _, _, _, s1⟩ := hP
      exact s1 _ _ hdL
    · obtain ⟨rfl, e1⟩ := hY
      obtain ⟨iln, y2, y3, rfl, s1⟩ := hP
      obtain ⟨x2, e2⟩ : ∃ x2, vs[i]? = some x2 := ⟨_, List.getElem?_eq_getElem (by rw [← ll]; exact hi)⟩
      have lk1 : LkD P w H1 d ks vs u := lkL.keep fun c xs e => s1 _ _ e
      have hM1 := model_same hML s1
      refine ⟨.ref d, rfl, x1, rfl, d, x2, rfl, lk1.get (.inr ⟨od, s1 _ _ hdL⟩) e1 e2, ?_⟩
      by_cases c : i < n
      · obtain ⟨j, z, l, fl, m, rfl, rfl, ej, el, ef, m0, mw⟩ := pe.gd i x1 x2 c e1 e2
        have ej : zs[j]? = some z := ej
        have el : D.notes[j]? = some l := el
        have ef : D.fallen[j]? = some fl := ef
        have hz : z ∈ zs := List.mem_of_getElem? ej
        have hlm := List.mem_of_getElem? el
        have l60 := g.rows l hlm
        have f0 := g.fl fl (List.mem_of_getElem? ef)
        have fw := gb.fw j l fl el ef
        have eW := whole_left17 (fun n hn => (g.nt l hlm n hn).2.1) f0 fw
        have lp : (leftN l fl).length ≤ 60 := Nat.le_trans (leftN_len _ _) l60
        refine ⟨.str z, rfl, .str z, .ty "str", _, _, true, rfl, .ty "str", (Dt.str z : Dt K H1 (.str z) (.str z)).ty, kit_str (.str z), _, rfl, iteF ⟨.str z, rfl, .ref a.m, rfl, a.m, .ref a.lo, rfl, hM1.g0, a.lo, _, rfl, .inl (.inl (.inl hM1.ho)), rfl, flat_strs _, _, rfl, ?_⟩⟩
        rw [inV_strs, decide_eq_true hz]
        refine iteF ⟨.int m, rfl, .int m, .ty "int", _, _, true, rfl, .ty "int", (Dt.int m : Dt K H1 (.int m) (.int m)).ty, kit_int (.int m), _, rfl, iteF ⟨.int m, rfl, .int m, .ty "bool", _, _, false, rfl, .ty "bool", (Dt.int m : Dt K H1 (.int m) (.int m)).ty, kit_bool (.int m), _, rfl, iteF ⟨.int m, rfl, _, _, rfl, rfl, _, rfl, ?_⟩⟩⟩
        rw [decide_eq_false (show ¬ m < 0 by omega)]
        refine iteF ⟨.int m, rfl, .ref a.m, rfl, .str z, rfl, a, D, zs, z, j, l, fl, rfl, hM1, ej, el, ef, by omega, fun m1 mx1 H6 s6 nm1 hm1 dm1 => ⟨m1, rfl, ⟨_, .inl (.inl hm1)⟩, fun D1 nD1 => ?_⟩⟩
        generalize hpl : leftN l fl = pl at eW lp
        rw [hpl] at dm1
        have lx : mx1.length = pl.length := by
          rw [dm1.len]
          unfold notesD
          rw [List.length_map]
        refine lc_it (walk_list (K := K) (a := m1) (xs := mx1)) (fun i' H' => Same H6 H' ∧ H' D1 = some (.lst ((pl.take i').map fun n => .int n.2))) ⟨same_upd nD1, upd_same⟩ (fun i' H' _ hP => hP.1.seq (.inl (.inl hm1)))
          (fun i' x' H3' H3 hi' hP hY => ?_) (fun H3 hP => ?_)
        · obtain ⟨rfl, hx'⟩ := hY
          obtain ⟨hil, dn⟩ := (DtAll.same hP.1 _ dm1).notes_get hx'
          obtain ⟨na', rfl, qn'⟩ := note_inv dn
          refine ⟨na', _, rfl, qn', rfl, _, _, rfl, _, _, rfl, rfl, rfl, _, rfl, _, hP.2, ?_, fun c o ec => ?_, ?_⟩
          · rw [List.length_map, List.length_take]
            exact small1000 (by omega)
          · rw [upd_ne (ne_of_none ec nD1)]
            exact hP.1 c o ec
          · rw [upd_same, take_succ hil, List.map_append]
            rfl
        obtain ⟨s7, hD1⟩ := hP
        refine ⟨D1, pl.map (·.2), rfl, .inl (.inl ?_), ?_⟩
        · rw [hD1, lx, List.take_length, List.map_map]
          rfl
        have eS : (pl.map (·.2)).sum = wholeN pl := rfl
        rw [eS]
        refine ⟨_, _, rfl, rfl, _, rfl, ?_⟩
        rw [decide_eq_false (show ¬ wholeN pl < m by omega)]
        exact iteF ⟨c, _, _, rfl, s1.trans (s6.trans s7)⟩
      · obtain rfl : i = n := by omega
        have s1s := s1
        rcases bdL x1 x2 e1 e2 with ⟨e', fe, sd, he⟩ | ⟨j, z, l, fl, rfl, ej, el, ef, h⟩
        · have fe2 : FlV H1 x1 e' := fe.keep fun c o ec _ => s1 c o ec
          refine ⟨x1, rfl, x1, .ty "str", _, _, strD e', rfl, .ty "str", (fe2.dt (K := K)).ty, kit_str e', _, rfl, ?_⟩
          cases hstr : strD e' with
          | false => exact iteT (out _ hi s1)
          | true =>
            obtain ⟨z, rfl⟩ : ∃ z, e' = .str z := by cases e' <;> first | exact ⟨_, rfl⟩ | cases hstr
            have hz : z ∉ zs := of_decide_eq_false he
            have ex : x1 = .str z := by
              have := fe2.dt (K := K)
              cases this
              rfl
            subst ex
            refine iteF ⟨.str z, rfl, .ref a.m, rfl, a.m, .ref a.lo, rfl, hM1.g0, a.lo, _, rfl, .inl (.inl (.inl hM1.ho)), rfl, flat_strs _, _, rfl, ?_⟩
            rw [inV_strs, decide_eq_false hz]
            exact iteT (out _ hi s1)
        · have ej : zs[j]? = some z := ej
          have el : D.notes[j]? = some l := el
          have ef : D.fallen[j]? = some fl := ef
          have hz : z ∈ zs := List.mem_of_getElem? ej
          refine ⟨.str z, rfl, .str z, .ty "str", _, _, true, rfl, .ty "str", (Dt.str z : Dt K H1 (.str z) (.str z)).ty, kit_str (.str z), _, rfl, iteF ⟨.str z, rfl, .ref a.m, rfl, a.m, .ref a.lo, rfl, hM1.g0, a.lo, _, rfl, .inl (.inl (.inl hM1.ho)), rfl, flat_strs _, _, rfl, ?_⟩⟩
          rw [inV_strs, decide_eq_true hz]
          refine iteF ?_
          rcases h with ⟨e', fe, sd, we⟩ | ⟨m, rfl, hm'⟩
          · have fe3 : FlY H1 x2 e' := fe.keep fun c o ec _ => s1 _ _ ec
            refine ⟨x2, rfl, x2, .ty "int", _, _, (wholeD e' || boolD e'), rfl, .ty "int", (fe3.dt (K := K)).ty, kit_int e', _, rfl, ?_⟩
            rw [we, Bool.false_or]
            cases eb : boolD e' with
            | false => exact iteT (out _ hi s1)
            | true =>
              refine iteF ⟨x2, rfl, x2, .ty "bool", _, _, boolD e', rfl, .ty "bool", (fe3.dt (K := K)).ty, kit_bool e', _, rfl, ?_⟩
              rw [eb]
              exact iteT (out _ hi s1)
          · have hlm := List.mem_of_getElem? el
            have l60 := g.rows l hlm
            have f0 := g.fl fl (List.mem_of_getElem? ef)
            have fw := gb.fw j l fl el ef
            have eW := whole_left17 (fun n hn => (g.nt l hlm n hn).2.1) f0 fw
            have lp : (leftN l fl).length ≤ 60 := Nat.le_trans (leftN_len _ _) l60
            refine ⟨.int m, rfl, .int m, .ty "int", _, _, true, rfl, .ty "int", (Dt.int m : Dt K H1 (.int m) (.int m)).ty, kit_int (.int m), _, rfl, iteF ⟨.int m, rfl, .int m, .ty "bool", _, _, false, rfl, .ty "bool", (Dt.int m : Dt K H1 (.int m) (.int m)).ty, kit_bool (.int m), _, rfl, iteF ⟨.int m, rfl, _, _, rfl, rfl, _, rfl, ?_⟩⟩⟩
            by_cases m0 : m < 0
            · rw [decide_eq_true m0]
              exact iteT (out _ hi s1)
            · rw [decide_eq_false m0]
              refine iteF ⟨.int m, rfl, .ref a.m, rfl, .str z, rfl, a, D, zs, z, j, l, fl, rfl, hM1, ej, el, ef, by omega, fun m1 mx1 H6 s6 nm1 hm1 dm1 => ⟨m1, rfl, ⟨_, .inl (.inl hm1)⟩, fun D1 nD1 => ?_⟩⟩
              generalize hpl : leftN l fl = pl at eW lp
              rw [hpl] at dm1
              have lx : mx1.length = pl.length := by
                rw [dm1.len]
                unfold notesD
                rw [List.length_map]
              refine lc_it (walk_list (K := K) (a := m1) (xs := mx1)) (fun i' H' => Same H6 H' ∧ H' D1 = some (.lst ((pl.take i').map fun n => .int n.2))) ⟨same_upd nD1, upd_same⟩ (fun i' H' _ hP => hP.1.seq (.inl (.inl hm1)))
                (fun i' x' H3' H3 hi' hP hY => ?_) (fun H3 hP => ?_)
              · obtain ⟨rfl, hx'⟩ := hY
                obtain ⟨hil, dn⟩ := (DtAll.same hP.1 _ dm1).notes_get hx'
                obtain ⟨na', rfl, qn'⟩ := note_inv dn
                refine ⟨na', _, rfl, qn', rfl, _, _, rfl, _, _, rfl, rfl, rfl, _, rfl, _, hP.2, ?_, fun c o ec => ?_, ?_⟩
                · rw [List.length_map, List.length_take]
                  exact small1000 (by omega)
                · rw [upd_ne (ne_of_none ec nD1)]
                  exact hP.1 c o ec
                · rw [upd_same, take_succ hil, List.map_append]
                  rfl
              obtain ⟨s7, hD1⟩ := hP
              refine ⟨D1, pl.map (·.2), rfl, .inl (.inl ?_), ?_⟩
              · rw [hD1, lx, List.take_length, List.map_map]
                rfl
              have eS : (pl.map (·.2)).sum = wholeN pl := rfl
              rw [eS]
              refine ⟨_, _, rfl, rfl, _, rfl, ?_⟩
              rw [decide_eq_true (show wholeN pl < m by omega)]
              exact iteT (out _ hi (s1.trans (s6.trans s7)))
    obtain ⟨iln, y2, y3, rfl, s1⟩ := hP
    refine ⟨s1 _ _ hdL, ?_⟩
    have s01 := un _ s1
    generalize upd H1 d u = H2 at s01
    obtain ⟨eo, ps, rfl, hdm, rm⟩ : n = ks.length ∧ ∃ ps, oo = some ps ∧ H d = some (.dK (moreK ps)) ∧ RightM (bkOf zs D) ps := by
      rcases ho with ⟨ln, _⟩ | h
      · omega
      · exact h
    obtain ⟨qS, qT⟩ := qs ps rfl
    have hM2 := model_same hM s01
    have hd2 := s01 _ _ hdm
    refine ⟨.ref a.m, rfl, a.m, _, rfl, .inl hM2.hm, fun m nm => ?_⟩
    have s3 : Same H2 (upd H2 m (.dK a.main)) := same_upd nm
    have hm3 : upd H2 m (.dK a.main) m = some (.dK a.main) := upd_same
    generalize upd H2 m (.dK a.main) = H3 at s3 hm3
    have hM3 := model_same hM2 s3
    have hd3 := s3 _ _ hd2
    obtain ⟨nf, enf⟩ : ∃ nf, nf = (fellA zs D ps).fallen := ⟨_, rfl⟩
    have lnf : nf.length = zs.length := by
      rw [enf]
      show ((zs.zip D.fallen).map _).length = _
      rw [List.length_map, List.length_zip, g.lf, Nat.min_self]
    have nfAt : ∀ {i : Nat} {z : Str} {f : Int}, zs[i]? = some z → D.fallen[i]? = some f → nf[i]? = some (f + moreAt ps z) := fun {i z f} e1 e2 => by
      rw [enf]
      show ((zs.zip D.fallen).map fun p => p.2 + moreAt ps p.1)[i]? = _
      rw [List.getElem?_map, List.getElem?_zip_eq_some (z := (z, f)) |>.mpr ⟨e1, e2⟩]
      rfl
    refine ⟨.ref a.m, rfl, a.m, .ref a.lo, rfl, hM3.g0, a.lo, rfl, ⟨_, .inl (.inl hM3.ho)⟩, fun D1 nD1 => ?_⟩
    refine lc_it (walk_list (K := K) (a := a.lo) (xs := zs.map V.str)) (fun i H' => Same H3 H' ∧ ∃ ts : List Addr, H' D1 = some (.lst (ts.map V.ref)) ∧ PairsAt K H' ts (dct (zs.take i) ((nf.take i).map V.int))) ⟨same_upd nD1, [], upd_same, .nil⟩ (fun i H' _ hP => .inl (.inl (hP.1 _ _ hM3.ho)))
      (fun i x H4' H4 hi hP hY => ?_) (fun H4 hP => ?_)
    · obtain ⟨rfl, hx⟩ := hY
      obtain ⟨s4, ts, h4, pr⟩ := hP
      rw [lz] at hi
      have ej : zs[i]? = some zs[i] := List.getElem?_eq_getElem hi
      have ex : x = .str zs[i] := by
        rw [List.getElem?_map, ej] at hx
        exact (Option.some.inj hx).symm
      subst ex
      have hM4 := model_same hM3 s4
      obtain ⟨gv, f', l, r, xs, eg, ef, el, er, hr0, dr0⟩ := hM4.at_ ej
      have hd4 := s4 _ _ hd3
      refine ⟨rfl, .str zs[i], rfl, .ref a.m, rfl, a.m, .ref a.df, rfl, hM4.g2, .str zs[i], rfl, a.df, .int f', rfl, hM4.gf ej ef, .ref d, rfl, d, rfl, .inl ⟨_, .inl hd4⟩, .str zs[i], rfl, _, DGet.k (k := Sum.inr zs[i]) hd4, ?_⟩
      rw [more_val]
      have lv : ((nf.take i).map V.int).length = (zs.take i).length := by rw [List.length_map, List.length_take, List.length_take, lnf]
      refine ⟨_, _, rfl, rfl, by show 2 ≤ sizeLine; decide, fun t nt => ?_⟩
      have tD : t ≠ D1 := (ne_of_none h4 nt).symm
      obtain ⟨k0, k1, k2, _⟩ := pairs_step (H0 := H3) (z := zs[i]) (v := .int (f' + moreAt ps zs[i])) nD1 s4 h4 pr lv nt
      have enx := nfAt ej ef
      refine ⟨_, by rw [upd_ne tD.symm]; exact h4, by rw [List.length_map, Paired.len pr, dct_len lv, List.length_take]; exact small1000 (by omega), k0, ts ++ [t], k1, ?_⟩
      rw [take_succ hi, show nf.take (i + 1) = nf.take i ++ [f' + moreAt ps zs[i]] by rw [List.take_add_one, enx]; rfl, List.map_append]
      exact k2
    obtain ⟨s4, ts, h4, pr⟩ := hP
    rw [lz, List.take_length, List.take_of_length_le (by omega)] at pr
    refine ⟨D1, ts, _, rfl, .inl (.inl h4), pr, fun df ndf => ?_⟩
    rw [merge_new g.nz.nd]
    have s5 := s4.trans (same_upd (o := .dK (dct zs (nf.map V.int))) ndf)
    have hm5 := s5 _ _ hm3
    have hdf : upd H4 df (.dK (dct zs (nf.map V.int))) df = some (.dK (dct zs (nf.map V.int))) := upd_same
    have ndf2 : H2 df = none := s3.free (s4.free ndf)
    have dfm : df ≠ m := (ne_of_none (s4 _ _ hm3) ndf).symm
    generalize upd H4 df (.dK (dct zs (nf.map V.int))) = H5 at s5 hm5 hdf
    have e4 : putK a.main (Sum.inr "fallen" : Key) (.ref df) = dct keysM [.ref a.lo, .ref a.dg, .ref df, .ref a.dn] := dct_put (j := 2) keysM_nd rfl (by show 2 < 4; decide)
    refine ⟨.ref m, rfl, m, _, rfl, DPut.k (k := Sum.inr "fallen") hm5 (by show 4 < sizeLine; decide), ?_⟩
    rw [e4]
    have s6 : Same H2 (upd H5 m (.dK (dct keysM [.ref a.lo, .ref a.dg, .ref df, .ref a.dn]))) := fun c o e => by
      rw [upd_ne (ne_of_none e nm)]
      exact s5 _ _ (s3 c o e)
    have hm6 : upd H5 m (.dK (dct keysM [.ref a.lo, .ref a.dg, .ref df, .ref a.dn])) m = some (.dK (dct keysM [.ref a.lo, .ref a.dg, .ref df, .ref a.dn])) := upd_same
    have hdf6 : upd H5 m (.dK (dct keysM [.ref a.lo, .ref a.dg, .ref df, .ref a.dn])) df = some (.dK (dct zs (nf.map V.int))) := by rw [upd_ne dfm]; exact hdf
    generalize upd H5 m (.dK (dct keysM [.ref a.lo, .ref a.dg, .ref df, .ref a.dn])) = H6 at s6 hm6 hdf6
    have s06 := s01.trans s6
    have hM6 := model_same hM s06
    have ndf1 : ∀ c o, H2 c = some o → c ≠ df := fun c o e => ne_of_none e ndf2
    have hA : ModelAt K H6 zs ⟨m, a.lo, a.dg, df, a.dn, a.rs⟩ (fellA zs D ps) := ⟨hm6, hM6.ho, hM6.hg, by rw [← enf]; exact hdf6, hM6.hn, hM6.rows, hM6.nd, hM6.olo, ndf1 _ _ hM2.hg, hM6.ogn, ne_of_none hM2.hg nm, (ne_of_none hM2.hn nm).symm, hM6.zn, hM6.lg, by rw [← enf]; exact lnf, hM6.ln, hM6.lr⟩
    have lE := cashL_len zs (fellA zs D ps)
    have nmH : H m = none := s01.free nm
    have ndfH : H df = none := s01.free ndf2
    refine ⟨.ref a.m, rfl, a.m, .ref a.lo, rfl, hM6.g0, a.lo, rfl, ⟨_, .inl (.inl hM6.ho)⟩, fun L nL => ?_⟩
    refine lc_it (walk_list (K := K) (a := a.lo) (xs := zs.map V.str)) (fun i H' => Same H6 H' ∧ H' L = some (.lst (((((zs.zip (cashL zs (fellA zs D ps))).take i).filter fun p => decide (p.2 < 0)).map (·.1)).map V.str))) ⟨same_upd nL, upd_same⟩ (fun i H' _ hP => .inl (.inl (hP.1 _ _ hM6.ho)))
      (fun i x H7' H7 hi hP hY => ?_) (fun H7 hP => ?_)
    · obtain ⟨rfl, hx⟩ := hY
      obtain ⟨s7, h7⟩ := hP
      rw [lz] at hi
      have ej : zs[i]? = some zs[i] := List.getElem?_eq_getElem hi
      have ex : x = .str zs[i] := by
        rw [List.getElem?_map, ej] at hx
        exact (Option.some.inj hx).symm
      subst ex
      have ee := cashL_at (D := fellA zs D ps) ej
      have ez : (zs.zip (cashL zs (fellA zs D ps)))[i]? = some (zs[i], cashD (fellA zs D ps) i zs[i]) := List.getElem?_zip_eq_some.mpr ⟨ej, ee⟩
      refine ⟨rfl, .ref m, rfl, .str zs[i], rfl, ⟨m, a.lo, a.dg, df, a.dn, a.rs⟩, fellA zs D ps, zs, zs[i], i, rfl, model_same hA s7, ej, g.rows, fun H8 s8 => ⟨_, _, rfl, rfl, _, rfl, ?_⟩⟩
      have et : (zs.zip (cashL zs (fellA zs D ps))).take (i + 1) = (zs.zip (cashL zs (fellA zs D ps))).take i ++ [(zs[i], cashD (fellA zs D ps) i zs[i])] := by rw [List.take_add_one, ez]; rfl
      have ln : (((((zs.zip (cashL zs (fellA zs D ps))).take i).filter fun p => decide (p.2 < 0)).map (·.1)).map V.str).length < sizeLine := by
        rw [List.length_map, List.length_map]
        have hh := List.length_filter_le (fun p => decide (p.2 < 0)) ((zs.zip (cashL zs (fellA zs D ps))).take i)
        rw [List.length_take] at hh
        exact small1000 (by omega)
      have h8 := s8 _ _ h7
      by_cases c : cashD (fellA zs D ps) i zs[i] < 0
      · rw [decide_eq_true c]
        refine iteT ⟨.str zs[i], rfl, _, h8, ln, fun c' o ec => ?_, ?_⟩
        · rw [upd_ne (ne_of_none ec nL)]
          exact s8 _ _ (s7 c' o ec)
        · rw [upd_same, et, List.filter_append, List.map_append, List.map_append, List.filter_cons_of_pos (by exact decide_eq_true c)]
          rfl
      · rw [decide_eq_false c]
        refine iteF ⟨s7.trans s8, ?_⟩
        rw [et, List.filter_append, List.filter_cons_of_neg (by simpa using c), List.filter_nil, List.append_nil]
        exact h8
    obtain ⟨s7, h7⟩ := hP
    rw [lz, List.take_of_length_le (by rw [List.length_zip]; omega)] at h7
    have h7 : H7 L = some (.lst ((shortsL zs (cashL zs (fellA zs D ps))).map V.str)) := h7
    have s07 := s06.trans s7
    have aS : ∀ t ∈ shortsL zs (cashL zs (fellA zs D ps)), Asc t := fun t ht => by
      obtain ⟨p, hp, rfl⟩ := List.mem_map.mp ht
      exact name_asc (g.nz.nm _ (List.of_mem_zip (List.mem_filter.mp hp).1).1)
    refine ⟨.ref L, rfl, by show 0 ≤ sizeLine; decide, fun e1 ne1 => ?_⟩
    have s8 := s07.trans (same_upd (o := .lst []) ne1)
    have s68 : Same H6 (upd H7 e1 (.lst [])) := s7.trans (same_upd ne1)
    have h8 := same_upd (o := .lst []) ne1 _ _ h7
    have he1 : upd H7 e1 (.lst []) e1 = some (.lst (([] : List Str).map V.str)) := upd_same
    generalize upd H7 e1 (.lst []) = H8 at s8 h8 he1 s68 ⊢
    refine ⟨.list ((shortsL zs (cashL zs (fellA zs D ps))).map .str), .list (([] : List Str).map .str), strs_dp12 h8, strs_dp12 he1, shaped12 aS, shaped12 (fun t ht => by cases ht), _, rfl, ?_⟩
    rw [eqv_strs]
    cases hS : shortsL zs (cashL zs (fellA zs D ps)) with
    | cons z r =>
      rw [hS] at h8
      rw [decide_eq_false (fun e => by cases e)]
      refine iteT ⟨.ref L, rfl, L, _, 0, .str z, rfl, rfl, .inl (.inl h8), atI_nat (j := 0) rfl, by show 2 ≤ sizeLine; decide, fun t nt => ?_⟩
      exact qS z t _ (short_of hS) (s8.trans (same_upd nt)) (s8.free nt) upd_same
    | nil =>
      rw [decide_eq_true rfl]
      refine iteF ⟨.ref m, rfl, by show 2 ≤ sizeLine; decide, fun t nt => ?_⟩
      exact qT m df t _ (short_none hS) (s8.trans (same_upd nt)) nmH ndfH (s8.free nt) (model_same hA (s68.trans (same_upd nt))) upd_same
end
end Rc

namespace Rc
open PySem PySem.Spec PyProof.Rows L2 RZ LamX
/-- isinstance(e, c), e the exception of the suite, without fields -/
def rIsX0 (K : PySem.W.Frag) (D a : Addr) (cls : Value) (d : Option Addr) : List V → Hp → VK → Prop := fun xs H Q => ∃ (c : V) (cv : Value) (b : Bool),
  xs = [.ref a, c] ∧ (∀ u, RelV c u → u = cv) ∧ PySem.W.kitOne K (.ref D) cv = some b ∧ cls = .ref D ∧ d = none ∧ Q (.bl b) H
theorem call_isX0 {X : Cx} {K : PySem.W.Frag} {a D : Addr} {oe : Obj} {cls : Value} {d : Option Addr} {pn : List (Addr × Obj)} (eK : X.K = K) (C : ExcC K D) (hz : Zc cls d oe) (hf : ∃ vs, oe.data = .fields vs) : CallR (X.suite a ((a, oe) :: pn)) (.builtin "isinstance") (rIsX0 K D a cls d) := by
  subst eK
  intro pins s σ H xs us Q I r h
  obtain ⟨c, cv, b, rfl, hcv, e, rfl, rfl, q⟩ := h
  cases r with
  | cons rx rr =>
    cases rr with
    | cons rt rr =>
      cases rr
      cases rx
      have ec := hcv _ rt
      subst ec
      obtain ⟨hget, _⟩ := I.pin (a, oe) (List.mem_append.mpr (.inl List.mem_cons_self))
      obtain ⟨vs, hv⟩ := hf
      have J : PySem.W.InstAt s.heap a oe D none := by
        obtain ⟨h1, h2⟩ := hz
        exact ⟨hget, h1, by unfold PySem.W.notCls; rw [hv] <;> rfl, by rw [h2]; trivial⟩
      obtain ⟨cdD, hcD, _⟩ := PySem.W.any_some C.hd
      exact PySem.W.kia_one (PySem.W.kitx_exc (by rw [hcD]; rfl) C.hg C.hk C.hs C.ha C.hn C.ht C.hm) I.kIn J e (fun z => nomatch z) fun tk => ⟨.bl b, H, I.kept (t' := tk) fun _ _ z => z, rfl, q⟩
structure X17 (K : PySem.W.Frag) (mg : Str → Option Value) (D S BE : Addr) : Prop where
  gV : mg "NoVector" = some (.ref D)
  gH : mg "Short" = some (.ref S)
  gB : mg "BookError" = some (.ref BE)
  exV : ExcC K D
  exH : ExcC K S
  xfH : XfC K S
  who : PySem.W.findIn K (.ref S) "who" = some none
  kV : PySem.W.kitOne K (.ref D) (.ref BE) = some true
  kH : PySem.W.kitOne K (.ref S) (.ref BE) = some false
  eVV : PySem.W.exmOne K (.ref D) (.ref D) = some true
  eHV : PySem.W.exmOne K (.ref S) (.ref D) = some false
  eHH : PySem.W.exmOne K (.ref S) (.ref S) = some true
theorem short_or (M : Bk) (ps : List (Str × Int)) : ∀ n, (∀ (j : Nat) (z : Str), j < n → M.names[j]? = some z → 0 ≤ cashM (fallM M ps) j z) ∨ ∃ z, ShortM M ps z
  | 0 => .inl fun j z h => absurd h (Nat.not_lt_zero _)
  | n + 1 => by
    rcases short_or M ps n with h | h
    · cases e : M.names[n]? with
      | none =>
        refine .inl fun j z hj ej => ?_
        by_cases c : j < n
        · exact h j z c ej
        · obtain rfl : j = n := by omega
          rw [e] at ej
          cases ej
      | some z =>
        by_cases c : cashM (fallM M ps) n z < 0
        · exact .inr ⟨z, n, e, c, h⟩
        · refine .inl fun j y hj ej => ?_
          by_cases q : j < n
          · exact h j y q ej
          · obtain rfl : j = n := by omega
            rw [e] at ej
            cases ej
            omega
    · exact .inr h
theorem short_cases (M : Bk) (ps : List (Str × Int)) : (∀ (j : Nat) (z : Str), M.names[j]? = some z → 0 ≤ cashM (fallM M ps) j z) ∨ ∃ z, ShortM M ps z := by
  rcases short_or M ps M.names.length with h | h
  · exact .inl fun j z e => h j z (List.getElem?_eq_some_iff.mp e).1 e
  · exact .inr h
section
variable {P : Program} {w : World} {K : PySem.W.Frag} {mg : Str → Option Value} {base : Heap}
/-! ### _law_told -/
abbrev sLTo : Stmt := topS 44
abbrev nLTo : List Str := ["_law_book", "_law_more_here", "_law_told_here", "e"]
theorem scLTo : FnScope nLTo ["_law_book", "_law_more_here"] (defScope sLTo) := ⟨rfl, rfl, rfl, by decide +kernel, rfl, by decide +kernel, by decide +kernel⟩
def spLetO (P : Program) (w : World) (K : PySem.W.Frag) (C D S : Addr) : Sp := fun vs H Q E => spLetT K C vs H Q E ∨ spLetX P w K C D S vs H Q E
def spLTo (P : Program) (w : World) (K : PySem.W.Frag) (C : Addr) : Sp := fun vs H Q _ => ∃ (b : Addr) (M : Bk) (v : V) (o : Option (List (Str × Int))), vs = [.ref b, v] ∧ BookAt K C H b M ∧ M.Ok ∧ Thg P w K H M v o ∧
  (o = none → ∀ L H', Same H H' → H L = none → H' L = some (.lst [.str ("no vector" : Str)]) → Q (.ref L) H') ∧
  ∀ ps, o = some ps → (∀ z L H', ShortM M ps z → Same H H' → H L = none → H' L = some (.lst [.str ("short" : Str), .str z]) → Q (.ref L) H') ∧
    ∀ b' L H', (∀ (j : Nat) (z : Str), M.names[j]? = some z → 0 ≤ cashM (fallM M ps) j z) → Same H H' → H b' = none → H L = none → BookAt K C H' b' (fallM M ps) → H' L = some (.lst [.str ("told" : Str), .ref b']) → Q (.ref L) H'
set_option maxHeartbeats 4000000 in
theorem ok_lto {f f1 C D S BE : Addr} {fd fd1 : FuncData} (F : Fun K "_law_told" "_law_told" sLTo f fd) (T : ClsF K C) (B : Blt mg) (X7 : X17 K mg D S BE) (LF : HasMX P w K mg base C 7 "let_fall" ["self", "more"] (spLetO P w K C D S) f1 fd1) :
    FnOk P w K mg base CX0 8 f fd ["_law_book", "_law_more_here"] (spLTo P w K C) := by
  refine F.ok scLTo (fun vs H Q E h => ?_) (fun cdv Ar outer s H vs Q E0 hr h => ?_)
  · obtain ⟨_, _, _, _, rfl, _⟩ := h
    rfl
  · obtain ⟨b, M, v, oo, rfl, hb, ok, th, qn, qs⟩ := h
    refine ⟨_, (pss_cons (ps_set (i := 2) scLTo.nd rfl (.inl rfl) (pe_lst (pa_cons pe_str pa_nil))) (pss_cons (ps_try_mix (Wo := fun _ _ _ _ => False) rfl rfl scLTo.nd (fun _ _ ⟨_, _, _, _, _, _, _, _, _, _, _, _, _, _, _, _, z⟩ => z.elim)
        (fun W pn xe tk _ => pss_one (ps_set (i := 2) scLTo.nd rfl (.inl rfl) (pe_lst (pa_cons pe_str (pa_cons (pe_methP (pv 0) T.cl LF.m LF.ok hr LF.b (fun σ => passAt tk σ) (pa_cons (pv 1) pa_nil)) pa_nil)))))
        (.named (i := 3) rfl rfl ⟨rfl, by decide, .inl X7.gV⟩ (fun a oe cls d pn hz hf => pss_one (ps_set (i := 2) scLTo.nd rfl (.inl rfl) (pe_ifExp (pt_val (pe_callB (call_isX0 (D := D) rfl X7.exV hz hf) (by rfl) B.isi (by decide +kernel) (pa_cons (pv 3) (pa_cons (pe_glob (v := .ref BE) (by rfl) X7.gB rfl) pa_nil)))) (pe_lst (pa_cons pe_str pa_nil)) (pv 2))))
        (.named (i := 3) rfl rfl ⟨rfl, by decide, .inl X7.gH⟩ (fun a oe cls d pn hz hf => pss_one (ps_set (i := 2) scLTo.nd rfl (.inl rfl) (pe_ifExp (pt_not (pt_val (pe_callB (call_isX (D := S) rfl X7.exH hz hf) (by rfl) B.isi (by decide +kernel) (pa_cons (pv 3) (pa_cons (pe_glob (v := .ref BE) (by rfl) X7.gB rfl) pa_nil))))) (pe_lst (pa_cons pe_str (pa_cons (pe_xf X7.xfH X7.who hz hf (pv 3)) pa_nil))) (pv 2)))) .nil))) (pss_one (ps_ret (pv 2))))), ?_⟩
    refine ⟨by show 1 ≤ sizeLine; decide, fun L0 nL0 => ?_⟩
    have s1 := same_upd (o := .lst [V.str ("other" : Str)]) nL0
    generalize upd H L0 (.lst [V.str ("other" : Str)]) = H1 at s1
    have hb1 := book_same hb s1
    have th1 := th.same s1
    obtain ⟨dx, tn, on, wg, ws, wd, e, _⟩ := hb1.ex
    refine ⟨.ref b, rfl, b, dx, _, rfl, e, bf_no (NoF.mk' (by decide +kernel)), v, rfl, ?_⟩
    cases oo with
    | none =>
      refine .inr ⟨b, M, v, rfl, hb1, ok, .inl ⟨th1, fun H' s' => ⟨true, X7.eVV, fun _ a na => ?_, fun z => nomatch z⟩⟩⟩
      refine ⟨.ref a, rfl, .ref BE, .ref BE, true, rfl, (fun u r => r), X7.kV, rfl, rfl, _, rfl, iteT ⟨by show 1 ≤ sizeLine; decide, fun L nL => ?_⟩⟩
      have s2 := s1.trans (s'.trans (same_upd (o := .lst [V.str ("no vector" : Str)]) nL))
      exact ⟨.ref L, rfl, qn rfl L _ s2 ((s1.trans s').free nL) upd_same⟩
    | some ps =>
      obtain ⟨d, rfl, hd, rm⟩ : ∃ d, v = .ref d ∧ H1 d = some (.dK (moreK ps)) ∧ RightM M ps := by
        cases th1 with
        | rgt a b => exact ⟨_, rfl, a, b⟩
      obtain ⟨qS, qT⟩ := qs ps rfl
      rcases short_cases M ps with cs | ⟨z, sh⟩
      · refine .inl ⟨b, d, M, ps, rfl, hb1, ok, hd, rm, cs, fun b' H' s' nb hb' => ⟨by show 2 ≤ sizeLine; decide, fun L nL => ?_⟩⟩
        have s2 := s1.trans (s'.trans (same_upd (o := .lst [V.str ("told" : Str), .ref b']) nL))
        exact ⟨.ref L, rfl, qT b' L _ cs s2 (s1.free nb) ((s1.trans s').free nL) (book_same hb' (same_upd nL)) upd_same⟩
      · refine .inr ⟨b, M, .ref d, rfl, hb1, ok, .inr ⟨d, ps, z, rfl, hd, rm, sh, fun H' dd s' hdd => ⟨false, X7.eHV, (fun z => nomatch z), fun _ => ⟨true, X7.eHH, fun _ a na => ?_, fun z => nomatch z⟩⟩⟩⟩
        refine ⟨.ref a, rfl, .ref BE, .ref BE, false, dd, _, rfl, (fun u r => r), X7.kH, rfl, rfl, hdd, _, rfl, iteT ⟨.ref a, rfl, rfl, rfl, dd, _, .str z, rfl, hdd, rfl, by show 2 ≤ sizeLine; decide, fun L nL => ?_⟩⟩
        have s2 := s1.trans (s'.trans (same_upd (o := .lst [V.str ("short" : Str), .str z]) nL))
        exact ⟨.ref L, rfl, qS z L _ sh s2 ((s1.trans s').free nL) upd_same⟩
end
end Rc

namespace Rc
open PySem PySem.Spec PyProof.Rows L2 RZ
def lensD (D : Md) : List Int := (D.notes.zip D.fallen).map fun p => ((leftN p.1 p.2).length : Int)
theorem sum_lens : ∀ L : List (List (Str × Int) × Int), ((L.map fun p => ((leftN p.1 p.2).length : Int)).sum) = (((L.flatMap fun p => leftN p.1 p.2).length : Nat) : Int)
  | [] => rfl
  | p :: r => by
    rw [List.map_cons, List.sum_cons, sum_lens r, List.flatMap_cons, List.length_append]
    omega
theorem lens_sum {zs : List Str} {D : Md} (g : Gs zs D) : (lensD D).sum = ((lenM (bkOf zs D) : Nat) : Int) := by
  unfold lensD lenM leftM
  rw [sum_lens]
  show _ = ((((D.notes.zip D.fallen).take zs.length).flatMap fun p => leftN p.1 p.2).length : Int)
  rw [List.take_of_length_le (by rw [List.length_zip, g.ln, g.lf, Nat.min_self]; exact Nat.le_refl _)]
theorem sums_big {zs : List Str} {D : Md} (g : Gs zs D) (z : Str) : BigOk (sumsD D z) := by
  have h1 := sums_le z (L := D.notes.zip D.fallen) fun p hp => ⟨fun n hn => (g.nt _ (List.of_mem_zip hp).1 n hn).2.1, g.fl _ (List.of_mem_zip hp).2⟩
  have h2 := wholes_le (zs := zs) (L := D.notes.zip D.fallen) fun p hp n hn => g.nt _ (List.of_mem_zip hp).1 n hn
  have e : ((D.notes.zip D.fallen).map fun p => p.1.length) = D.notes.map List.length := by
    have : (D.notes.zip D.fallen).map (fun p => p.1.length) = ((D.notes.zip D.fallen).map (·.1)).map List.length := by rw [List.map_map]; rfl
    rw [this, List.map_fst_zip (by rw [g.ln, g.lf]; exact Nat.le_refl _)]
  rw [e] at h2
  have h3 := g.my
  have h4 : (((D.notes.map List.length).sum : Nat) : Int) * 10 ^ 58 ≤ 60 * 10 ^ 58 := Int.mul_le_mul_of_nonneg_right (by omega) (by decide)
  have h5 : (60 : Int) * 10 ^ 58 < 2 ^ 300 := by decide
  have : 0 ≤ sumsD D z ∧ sumsD D z ≤ 60 * 10 ^ 58 := ⟨h1.1, Int.le_trans h1.2 (Int.le_trans h2 h4)⟩
  unfold BigOk
  omega
theorem nice_two {a b : Int} (ha : BigOk a) (hb : BigOk b) : NiceD (.list [.int a, .int b]) 8 := by
  have z4 : ∀ i : Int, (PyData.int i).depth ≤ 4 := fun i => by simp only [PyData.depth]; omega
  have n := (NiceA.cons (nice_int ha) (z4 _) (NiceA.cons (nice_int hb) (z4 _) NiceA.nil)).list
  exact ⟨n.sh, n.lv, n.nd, n.dp, Nat.le_trans n.bk (by decide), n.cl⟩
section
variable {P : Program} {w : World} {K : PySem.W.Frag} {mg : Str → Option Value} {base : Heap}
/-! ### _law_looks_right -/
abbrev sLLr : Stmt := topS 45
abbrev nLLr : List Str := ["_law_model_here", "_law_book", "_law_who", "_law_whole", "_law_to", "_law_amount_here", "_law_to_them", "_law_many"]
theorem scLLr : FnScope nLLr ["_law_model_here", "_law_book"] (defScope sLLr) := ⟨rfl, rfl, rfl, by decide +kernel, rfl, by decide +kernel, by decide +kernel⟩
set_option maxHeartbeats 4000000 in
theorem ok_llr {f f1 f2 f3 f4 f5 f6 C : Addr} {fd fd1 fd2 fd3 fd4 fd5 fd6 : FuncData} (F : Fun K "_law_looks_right" "_law_looks_right" sLLr f fd) (T : ClsF K C) (B : Blt mg) (B2 : Blt2 mg) (B3 : Blt3 mg)
    (WO : HasM P w K mg base C 5 "whole_of" ["self", "who"] (spCalc K C fun M j _ => wholeN (M.stacks.getD j [])) f1 fd1) (FT : HasM P w K mg base C 4 "fallen_to" ["self", "who"] (spCalc K C fun M _ z => fallTo M z) f2 fd2)
    (LC : Has P w K mg base 2 "_law_cash" ["_law_model_here", "_law_who"] (spLCs K) f3 fd3) (LL : Has P w K mg base 2 "_law_left" ["_law_model_here", "_law_who"] (spLLf K) f4 fd4) (AL : HasG P w K mg base 6 "_law_alike" ["_law_model_here", "_law_book"] (spLAl K C) f5 fd5)
    (LE : HasM P w K mg base C 7 "__len__" ["self"] (spLenB K C) f6 fd6) :
    FnG P w K mg base CX0 9 f fd ["_law_model_here", "_law_book"] (spLAl K C) := by
  refine okG0 F scLLr (fun vs H Q E h => ?_) (fun cdv Ar outer s H vs Q E0 hr hgd h => ?_)
  · obtain ⟨_, _, _, _, rfl, _⟩ := h
    rfl
  · obtain ⟨a, D, zs, b, rfl, hM, hb, g, gb, q⟩ := h
    have hu := hu_of hr
    have hr2 := hr.mono (show 2 ≤ 8 by decide)
    have hr4 := hr.mono (show 4 ≤ 8 by decide)
    have hr5 := hr.mono (show 5 ≤ 8 by decide)
    have hr6 := hr.mono (show 6 ≤ 8 by decide)
    refine ⟨_, (pss_cons (ps_for PassesOwn.never rfl (pi_list (pe_dget hu (pv 0) pe_str (fun _ _ => rfl))) (pg_name (i := 2) scLLr.nd rfl (.inl rfl)) (pss_cons (ps_set (i := 3) scLLr.nd rfl (.inl rfl) (pe_callB (cr_sum rfl) (by rfl) B3.sum (by decide +kernel) (pa_cons (pe_lc (own := [("_law_to", 4), ("_law_amount_here", 5)]) (g := gTup K 2 (gCons (gName 4) (gCons (gName 5) gNil))) (tt := tYes) rfl scLLr.nd (pi_list (pe_dget hu (pe_dget hu (pv 0) pe_str (fun _ _ => rfl)) (pv 2) (fun _ _ => rfl))) (blkOk_by (N := nLLr) (sc := defScope sLLr) (own := [("_law_to", 4), ("_law_amount_here", 5)]) (by decide +kernel)) (fun _ _ _ _ _ => pg_tup rfl (pgs_cons (pg_name (i := 4) scLLr.nd rfl (.inl rfl) (hf := .inr rfl)) (pgs_cons (pg_name (i := 5) scLLr.nd rfl (.inl rfl) (hf := .inr rfl)) pgs_nil))) (fun _ _ _ _ _ => pts_nil) (fun _ _ _ _ _ => (pv 5))) pa_nil))) (pss_cons (ps_set (i := 6) scLLr.nd rfl (.inl rfl) (pe_op op_add (pe_op op_sub (pe_call LC.ok hr2 (by rfl) LC.g LC.kp LC.b .nil pass0 (pa_cons (pv 0) (pa_cons (pv 2) pa_nil))) (pe_dget hu (pe_dget hu (pv 0) pe_str (fun _ _ => rfl)) (pv 2) (fun _ _ => rfl))) (pe_dget hu (pe_dget hu (pv 0) pe_str (fun _ _ => rfl)) (pv 2) (fun _ _ => rfl)))) (pss_one (ps_if (pt_cmpR op_ne (pe_callB (call_repr hr hgd) (by rfl) B2.repr (by decide +kernel) (pa_cons (pe_lst (pa_cons (pe_meth (pv 1) T.cl WO.m WO.ok hr5 WO.b .nil pass0 (pa_cons (pv 2) pa_nil)) (pa_cons (pe_meth (pv 1) T.cl FT.m FT.ok hr4 FT.b .nil pass0 (pa_cons (pv 2) pa_nil)) pa_nil))) pa_nil)) (pe_callB (call_repr hr hgd) (by rfl) B2.repr (by decide +kernel) (pa_cons (pe_lst (pa_cons (pv 3) (pa_cons (pv 6) pa_nil))) pa_nil)) (nomark _)) (pss_one (ps_ret pe_bl)) pss_nil))))) (pss_cons (ps_set (i := 7) scLLr.nd rfl (.inl rfl) (pe_callB (cr_sum rfl) (by rfl) B3.sum (by decide +kernel) (pa_cons (pe_lc (own := [("_law_who", 2)]) (g := gName 2) (tt := tYes) rfl scLLr.nd (pi_list (pe_dget hu (pv 0) pe_str (fun _ _ => rfl))) (blkOk_by (N := nLLr) (sc := defScope sLLr) (own := [("_law_who", 2)]) (by decide +kernel)) (fun _ _ _ _ _ => pg_name (i := 2) scLLr.nd rfl (.inl rfl) (hf := .inr rfl)) (fun _ _ _ _ _ => pts_nil) (fun _ _ _ _ _ => pe_callB (call_lenS (K := K) rfl) (by rfl) B.len PySem.boot_len (pa_cons (pe_call LL.ok hr2 (by rfl) LL.g LL.kp LL.b .nil pass0 (pa_cons (pv 0) (pa_cons (pv 2) pa_nil))) pa_nil))) pa_nil))) (pss_one (ps_ret (pe_and (pe_callG AL.ok hr6 hgd (by rfl) AL.g AL.kp AL.b .nil pass0 (pa_cons (pv 0) (pa_cons (pv 1) pa_nil))) (pe_one (pe_cmpR op_eq (pe_callB (call_repr hr hgd) (by rfl) B2.repr (by decide +kernel) (pa_cons (pe_callB (call_lenB LE.ok LE.b LE.m hr) (by rfl) B.len PySem.boot_len (pa_cons (pv 1) pa_nil)) pa_nil)) (pe_callB (call_repr hr hgd) (by rfl) B2.repr (by decide +kernel) (pa_cons (pv 7) pa_nil)) (nomark _)))))))), ?_⟩
    have n12 := g.nz.n1
    have lz : (zs.map V.str).length = zs.length := List.length_map ..
    obtain ⟨dx, tn, on, wg, ws, wd, e, _⟩ := hb.ex
    refine ⟨.ref a.m, rfl, a.m, .ref a.lo, rfl, hM.g0, a.lo, rfl, ⟨_, .inl (.inl hM.ho)⟩, ?_⟩
    refine for_it (walk_list (K := K) (a := a.lo) (xs := zs.map V.str)) (fun i σ H' => ∃ y2 y3 y6, σ = [some (.ref a.m), some (.ref b), y2, y3, none, none, y6, none] ∧ Same H H') ⟨_, _, _, rfl, Same.refl _⟩ (fun i σ H' _ hP => ?_) (fun i x σ H1' H1 hi hP hY => ?_) (fun σ H1 hP => ?_)
    · obtain ⟨_, _, _, _, s⟩ := hP
      exact .inl (.inl (s _ _ hM.ho))
    · obtain ⟨rfl, hx⟩ := hY
      obtain ⟨y2, y3, y6, rfl, s1⟩ := hP
      rw [lz] at hi
      have ej : zs[i]? = some zs[i] := List.getElem?_eq_getElem hi
      have ex : x = .str zs[i] := by
        rw [List.getElem?_map, ej] at hx
        exact (Option.some.inj hx).symm
      subst ex
      generalize zs[i] = z at ej
      have hM1 := model_same hM s1
      obtain ⟨gv, f', l, r, xs, eg, ef, el, er, hr0, dr0⟩ := hM1.at_ ej
      have hlm := List.mem_of_getElem? el
      have ll := g.rows l hlm
      obtain ⟨W0, W1⟩ := g.wholeB hlm
      have bigW : BigOk (wholeN l) := by
        have : (60 : Int) * 10 ^ 58 < 2 ^ 300 := by decide
        unfold BigOk
        omega
      have bigS := sums_big g z
      have lx : xs.length = l.length := by
        rw [dr0.len]
        unfold notesD
        rw [List.length_map]
      refine ⟨.ref a.m, rfl, a.m, .ref a.dn, rfl, hM1.g3, .str z, rfl, a.dn, .ref r, rfl, hM1.gn ej er, r, rfl, ⟨_, .inl (.inl hr0)⟩, fun D1 nD1 => ?_⟩
      refine lc_it (walk_list (K := K) (a := r) (xs := xs)) (fun i' H' => Same H1 H' ∧ H' D1 = some (.lst ((l.take i').map fun n => .int n.2))) ⟨same_upd nD1, upd_same⟩ (fun i' H' _ hP => hP.1.seq (.inl (.inl hr0)))
        (fun i' x' H3' H3 hi' hP hY => ?_) (fun H3 hP => ?_)
      · obtain ⟨rfl, hx'⟩ := hY
        obtain ⟨hil, dn⟩ := (DtAll.same hP.1 _ dr0).notes_get hx'
        obtain ⟨na, rfl, qn⟩ := note_inv dn
        refine ⟨na, _, rfl, qn, rfl, _, _, rfl, _, _, rfl, rfl, rfl, _, rfl, _, hP.2, ?_, fun c o ec => ?_, ?_⟩
        · rw [List.length_map, List.length_take]
          exact small1000 (by omega)
        · rw [upd_ne (ne_of_none ec nD1)]
          exact hP.1 c o ec
        · rw [upd_same, take_succ hil, List.map_append]
          rfl
      obtain ⟨s3, hD1⟩ := hP
      refine ⟨D1, l.map (·.2), rfl, .inl (.inl ?_), ?_⟩
      · rw [hD1, lx, List.take_length, List.map_map]
        rfl
      have eS : (l.map (·.2)).sum = wholeN l := rfl
      rw [eS]
      have s13 := s1.trans s3
      have hM3 := model_same hM s13
      refine ⟨.ref a.m, rfl, .str z, rfl, a, D, zs, z, i, rfl, hM3, ej, g.rows, fun H4 s4 => ?_⟩
      have s14 := s13.trans s4
      have hM4 := model_same hM s14
      refine ⟨.ref a.m, rfl, a.m, .ref a.dg, rfl, hM4.g1, .str z, rfl, a.dg, .int gv, rfl, hM4.gg ej eg, _, _, rfl, rfl, .ref a.m, rfl, a.m, .ref a.df, rfl, hM4.g2, .str z, rfl, a.df, .int f', rfl, hM4.gf ej ef, _, _, rfl, rfl, ?_⟩
      have eT : cashD D i z - gv + f' = sumsD D z := by
        unfold cashD
        rw [getD_of eg, getD_of ef]
        omega
      have hb4 := book_same hb s14
      have e4 := s14 _ _ e
      refine ⟨.ref b, rfl, b, dx, _, rfl, e4, bf_no (NoF.mk' (by decide +kernel)), .str z, rfl, b, _, z, i, rfl, hb4, g.ok, ej, fun H5 s5 => ?_⟩
      refine ⟨.ref b, rfl, b, dx, _, rfl, s5 _ _ e4, bf_no (NoF.mk' (by decide +kernel)), .str z, rfl, b, _, z, i, rfl, book_same hb4 s5, g.ok, ej, fun H6 s6 => ?_⟩
      have eW2 : wholeN ((bkOf zs D).stacks.getD i []) = wholeN l := by
        show wholeN (D.notes.getD i []) = _
        rw [getD_of el]
      have eF2 : fallTo (bkOf zs D) z = sumsD D z := rfl
      have n2 := nice_two bigW bigS
      have dp2 : (PyData.list [.int (wholeN l), .int (sumsD D z)]).depth ≤ 20 := by
        have := n2.dp
        omega
      refine ⟨by show 2 ≤ sizeLine; decide, fun t1 nt1 => ?_⟩
      refine ⟨_, .list [.int (wholeN l), .int (sumsD D z)], rfl, .lst (.inl (.inl upd_same)) (.cons (by rw [← eW2]; exact .int _) (.cons (.int _) .nil)), n2.sh, .inl n2.nd, dp2, nice_fits n2 (by decide), ?_⟩
      refine ⟨_, rfl, _, rfl, by show 2 ≤ sizeLine; decide, fun t2 nt2 => ?_⟩
      refine ⟨_, .list [.int (wholeN l), .int (sumsD D z)], rfl, .lst (.inl (.inl upd_same)) (.cons (.int _) (.cons (by rw [← eT]; exact .int _) .nil)), n2.sh, .inl n2.nd, dp2, nice_fits n2 (by decide), rfl, _, rfl, ?_⟩
      exact iteNS rfl ⟨_, _, _, rfl, s14.trans (s5.trans (s6.trans ((same_upd nt1).trans (same_upd nt2))))⟩
    · obtain ⟨y2, y3, y6, rfl, s1⟩ := hP
      have hM1 := model_same hM s1
      have ll : (lensD D).length = zs.length := by
        unfold lensD
        rw [List.length_map, List.length_zip, g.ln, g.lf, Nat.min_self]
      refine ⟨.ref a.m, rfl, a.m, .ref a.lo, rfl, hM1.g0, a.lo, rfl, ⟨_, .inl (.inl hM1.ho)⟩, fun R nR => ?_⟩
      refine lc_it (walk_list (K := K) (a := a.lo) (xs := zs.map V.str)) (fun i H' => Same H1 H' ∧ H' R = some (.lst (((lensD D).take i).map V.int))) ⟨same_upd nR, upd_same⟩ (fun i H' _ hP => .inl (.inl (hP.1 _ _ hM1.ho)))
        (fun i x H' H11 hi hP hY => ?_) (fun H11 hP => ?_)
      · obtain ⟨rfl, hx⟩ := hY
        obtain ⟨s11, hR⟩ := hP
        rw [lz] at hi
        have ej : zs[i]? = some zs[i] := List.getElem?_eq_getElem hi
        have ex : x = .str zs[i] := by
          rw [List.getElem?_map, ej] at hx
          exact (Option.some.inj hx).symm
        subst ex
        have hM11 := model_same hM1 s11
        obtain ⟨gv, f', l', r, xs, eg, ef, el, er, hr0, hd0⟩ := hM11.at_ ej
        have ll' : l'.length ≤ 60 := g.rows l' (List.mem_of_getElem? el)
        have hli : i < (lensD D).length := by omega
        have eli : (lensD D)[i] = ((leftN l' f').length : Int) := by
          have h : (lensD D)[i]? = some ((leftN l' f').length : Int) := by
            unfold lensD
            rw [List.getElem?_map, List.getElem?_zip_eq_some (z := (l', f')) |>.mpr ⟨el, ef⟩]
            rfl
          rw [List.getElem?_eq_getElem hli] at h
          exact Option.some.inj h
        refine ⟨rfl, .ref a.m, rfl, .str zs[i], rfl, a, D, zs, _, i, l', f', rfl, hM11, ej, el, ef, by omega, fun m mx H12 s12' nm hm dm => ⟨m, mx, rfl, .inl (.inl (.inl hm)), ?_⟩⟩
        have lm : mx.length = (leftN l' f').length := by
          rw [dm.len]
          unfold notesD
          rw [List.length_map]
        refine ⟨_, s12' _ _ hR, ?_, fun c o ec => ?_, ?_⟩
        · rw [List.length_map, List.length_take]
          exact small1000 (by omega)
        · rw [upd_ne (ne_of_none ec nR)]
          exact s12' _ _ (s11 c o ec)
        · rw [upd_same, take_succ hli, List.map_append, eli, lm]
          rfl
      obtain ⟨s11, hR⟩ := hP
      rw [lz, ← ll, List.take_length] at hR
      refine ⟨R, lensD D, rfl, .inl (.inl hR), ?_⟩
      rw [lens_sum g]
      have s111 := s1.trans s11
      refine ⟨.ref a.m, rfl, .ref b, rfl, a, D, zs, b, rfl, model_same hM s111, book_same hb s111, g, gb, fun H12 s12 => ⟨_, rfl, iteT ?_⟩⟩
      have s112 := s111.trans s12
      refine ⟨.ref b, rfl, b, _, rfl, book_same hb s112, g.ok, fun H13 s13 => ?_⟩
      have hl := lenM_le g.ok
      have nI : NiceD (.int ((lenM (bkOf zs D) : Nat) : Int)) 8 := by
        have h := nice_int (show BigOk ((lenM (bkOf zs D) : Nat) : Int) by
          have : (60 : Int) < 2 ^ 300 := by decide
          unfold BigOk
          omega)
        exact ⟨h.sh, h.lv, h.nd, h.dp, Nat.le_trans h.bk (by decide), h.cl⟩
      have dpI : (PyData.int ((lenM (bkOf zs D) : Nat) : Int)).depth ≤ 20 := by
        have := nI.dp
        omega
      refine ⟨_, .int ((lenM (bkOf zs D) : Nat) : Int), rfl, .int _, nI.sh, .inl nI.nd, dpI, nice_fits nI (by decide), ?_⟩
      refine ⟨_, rfl, _, .int ((lenM (bkOf zs D) : Nat) : Int), rfl, .int _, nI.sh, .inl nI.nd, dpI, nice_fits nI (by decide), rfl, ?_⟩
      rw [decide_eq_true rfl]
      exact q _ (s112.trans s13)
end
end Rc

namespace Rc
open PySem PySem.Spec PyProof.Rows L2 RZ
/-! ### == of equal books -/
def rEq1 (K : PySem.W.Frag) (C : Addr) : R2 := fun x y H Q => ∃ a b M, x = .ref a ∧ y = .ref b ∧ BookAt K C H a M ∧ BookAt K C H b M ∧ KeyOk M ∧ ∀ H', Same H H' → Q (.bl true) H'
theorem op_eqB1 {X : Cx} {C f : Addr} {fd : FuncData} {K : PySem.W.Frag} (eK : X.K = K) (G : FnOk X.prog X.w X.K X.mg X.base CX0 2 f fd ["self", "other"] (spEqB X.K C)) (bd : Binds X.K fd ["self", "other"] []) (hm : Meth X.K C "__eq__" f) (hr : Room 2 X.A) : OpR X (compareOp .Eq) (rEq1 K C) := by
  subst eK
  intro pins s σ H x y v u Q I rx ry h
  obtain ⟨a, b, M, rfl, rfl, ha, hb, oM, q⟩ := h
  have G2 : FnOk X.prog X.w X.K X.mg X.base CX0 2 f fd ["self", "other"] (spEq fun a b H => ∃ M, BookAt X.K C H a M ∧ BookAt X.K C H b M ∧ KeyOk M) := G.imp fun vs H Q E h => by
    obtain ⟨a, b, rfl, ⟨M, ha, hb, oM⟩, q⟩ := h
    exact ⟨a, b, M, M, rfl, ha, hb, oM, oM, fun H' s' => by rw [key_eqv oM]; exact q H' s'⟩
  obtain ⟨dx, tn, on, wg, ws, wd, e, _⟩ := ha.ex
  obtain ⟨dx2, tn2, on2, wg2, ws2, wd2, e2, _⟩ := hb.ex
  exact op_eqG (rcG_ins (E := E0) G2 hm.at_ hm.fn bd pass0) hr pins s σ H _ _ v u Q I rx ry ⟨⟨a, b, dx, dx2, _, _, rfl, rfl, e, e2, M, ha, hb, oM⟩, fun H' s' => q H' s'⟩
/-! ### != of dicts whose values are data -/
theorem hits_data {X : Cx} {pins : List (Addr × Obj)} {σ : L2.St} {H : Hp} {s : Shared} {A : Around} (I : Inv X pins σ H s) (hu : A.in1.units + 64 < cLine) {κ : Type} [DecidableEq κ] {kvs : List (κ × V)} {vb : List (κ × Value)} (rb : KV kvs vb) {ks : List (κ × V)} {va : List (κ × Value)} (ra : KV ks va) :
    (∀ p ∈ ks, ∃ y d, valV kvs p.1 = some y ∧ Dp X.K H p.2 d ∧ Dp X.K H y d ∧ SeqAt.shaped d = true ∧ PyData.eqv d d = true) → PySem.W.KeqHits A.in1 s vb va true := by
  unfold KV at ra
  induction ra with
  | nil => intro _; exact .nil
  | @cons p q ps qs h t ih =>
    intro hp
    obtain ⟨h1, h2⟩ := h
    obtain ⟨y0, d, e, d1, d2, sd, ed⟩ := hp p List.mem_cons_self
    have rr : RelO (some y0) (valueAt vb p.1) := by rw [← e]; exact rb.val p.1
    obtain ⟨y, hy, ry⟩ := rr.some_of
    obtain ⟨k, v⟩ := q
    have h1' : p.1 = k := h1
    rw [h1'] at hy
    obtain ⟨as, r1⟩ := Dp.reads I d _ _ d1 h2
    obtain ⟨bs, r2⟩ := Dp.reads I d _ _ d2 ry
    have ea := PySem.W.keq_at (A := A) r1 r2 sd sd hu
    rw [ed] at ea
    show PySem.W.KeqHits A.in1 s vb ((k, v) :: qs) (true && true)
    exact .hit hy ea (ih fun p' hm => hp p' (List.mem_cons_of_mem _ hm))
def rNeDD (K : PySem.W.Frag) : R2 := fun x y H Q => ∃ a b ks ls, x = .ref a ∧ y = .ref b ∧ H a = some (.dK ks) ∧ H b = some (.dK ls) ∧ ks.length = ls.length ∧ (∀ p ∈ ks, ∃ y d, valV ls p.1 = some y ∧ Dp K H p.2 d ∧ Dp K H y d ∧ SeqAt.shaped d = true ∧ PyData.eqv d d = true) ∧ Q (.bl false) H
theorem op_ne_dictD {X : Cx} {k : Nat} (hr : Room (k + 1) X.A) : OpR X (compareOp .NotEq) (rNeDD X.K) := by
  intro pins s σ H x y v u Q I rx ry h
  obtain ⟨a, b, ks, ls, rfl, rfl, ea, eb, hlen, hp, q⟩ := h
  obtain rfl : v = Value.ref a := rx
  obtain rfl : u = Value.ref b := ry
  obtain ⟨_, ya, va, ra, da⟩ := (show ObjOk X.prog X.w H s.heap a (.dK ks) from I.hok a _ ea)
  obtain ⟨_, yb, vb, rb, db⟩ := (show ObjOk X.prog X.w H s.heap b (.dK ls) from I.hok b _ eb)
  have hl : va.length = vb.length := by rw [← ra.length, ← rb.length]; exact hlen
  exact PySem.W.keq_ne (knd := mixKind X.prog X.w) (r := true) ya yb da db hr.units0 (fun _ => hits_data I hr.in1.units rb ra hp) (fin_bl I q (by simp [hl]))
end Rc

set_option pp.maxSteps 900
namespace Rc
open PySem PySem.Spec PyProof.Rows L2 RZ
/-! ### == of books -/
section
variable {X : Cx} {C f : Addr} {fd : FuncData}
theorem op_eqB {K : PySem.W.Frag} (eK : X.K = K) (G : FnOk X.prog X.w X.K X.mg X.base CX0 2 f fd ["self", "other"] (spEqB X.K C)) (bd : Binds X.K fd ["self", "other"] []) (hm : Meth X.K C "__eq__" f) (hr : Room 2 X.A) : OpR X (compareOp .Eq) (rEqB K C false) := by
  subst eK
  intro pins s σ H x y v u Q I rx ry h
  obtain ⟨a, b, M, N, rfl, rfl, ha, hb, oM, oN, q⟩ := h
  cases rx
  cases ry
  obtain ⟨dx, tn, on, wg, ws, wd, e, _⟩ := ha.ex
  obtain ⟨dx2, tn2, on2, wg2, ws2, wd2, e2, _⟩ := hb.ex
  obtain ⟨m, Fm⟩ := I.fr
  obtain ⟨mA, O, _⟩ := ins_get I.hok e
  obtain ⟨od, J, _⟩ := O.look
  obtain ⟨mB, O2, _⟩ := ins_get I.hok e2
  obtain ⟨od2, J2, _⟩ := O2.look
  show wpAny (model X.prog X.w) X.A (richCompare .Eq (.ref a) (.ref b)) (EP X pins σ Q) X.xe s
  refine PySem.W.cmp_K (op := .Eq) (tb := .ref C) hr.units0 Fm I.ok.mod.kin J J2.type (by simp [PySem.W.notFirst]) hm.at_ hm.fn ?_
  have e0 := I.env0
  refine wpAny_call (codeAny_mono (G.run X.A X.stack s H ⟨[.ref a, .ref b], []⟩ [.ref a, .ref b] [.ref a, .ref b] (fun v H' => v = .bl (PyData.eqv (keyD M) (keyD N)) ∧ Q (.bl (PyData.eqv (keyD M) (keyD N))) H') E0 hr e0 (bd s [.ref a, .ref b] I.kIn rfl) (.cons rfl (.cons rfl .nil)) ⟨a, b, M, N, rfl, ha, hb, oM, oN, fun H' s' => ⟨rfl, q H' s'⟩⟩) fun r s' hq => ?_)
  match r, hq with
  | .error e, hq => exact hq.elim
  | .ok .next, hq => exact hq.elim
  | .ok .brk, hq => exact hq.elim
  | .ok .cont, hq => exact hq.elim
  | .ok (.ret u), hq =>
    obtain ⟨v, H', I', rv, ev, q'⟩ := I.after hq
    subst ev
    cases rv
    exact ⟨.bl _, H', I', rfl, q'⟩
end
end Rc

namespace Rc
open PySem PySem.Spec PyProof.Rows L2 RZ
/-! ### let fall in two parts -/
def halfP (ps : List (Str × Int)) : List (Str × Int) := ps.map fun p => (p.1, p.2 / 2)
def restP (ps : List (Str × Int)) : List (Str × Int) := ps.map fun p => (p.1, p.2 - p.2 / 2)
theorem moreAt_map (h : Int → Int) (h0 : h 0 = 0) (z : Str) : ∀ ps : List (Str × Int), moreAt (ps.map fun p => (p.1, h p.2)) z = h (moreAt ps z)
  | [] => h0.symm
  | p :: r => by
    have ih := moreAt_map h h0 z r
    unfold moreAt at ih ⊢
    rw [List.map_cons]
    by_cases c : p.1 = z
    · rw [List.find?_cons_of_pos (by simpa using c), List.find?_cons_of_pos (by simpa using c)]
      rfl
    · rw [List.find?_cons_of_neg (by simpa using c), List.find?_cons_of_neg (by simpa using c)]
      exact ih
theorem half_rest (ps : List (Str × Int)) (z : Str) : moreAt (halfP ps) z + moreAt (restP ps) z = moreAt ps z := by
  have h1 := moreAt_map (fun x => x / 2) (by decide) z ps
  have h2 := moreAt_map (fun x => x - x / 2) (by decide) z ps
  unfold halfP restP
  rw [h1, h2]
  show moreAt ps z / 2 + (moreAt ps z - moreAt ps z / 2) = _
  omega
theorem moreAt_mem {ps : List (Str × Int)} (nd : (ps.map (·.1)).Nodup) {p : Str × Int} (hp : p ∈ ps) : moreAt ps p.1 = p.2 := by
  unfold moreAt
  induction ps with
  | nil => cases hp
  | cons q r ih =>
    rw [List.map_cons, List.nodup_cons] at nd
    by_cases c : q.1 = p.1
    · rw [List.find?_cons_of_pos (by simpa using c)]
      rcases List.mem_cons.mp hp with rfl | h
      · rfl
      · exact absurd (List.mem_map.mpr ⟨p, h, c.symm⟩) nd.1
    · rw [List.find?_cons_of_neg (by simpa using c)]
      rcases List.mem_cons.mp hp with rfl | h
      · exact absurd rfl c
      · exact ih nd.2 h
theorem half_right {M : Bk} {ps : List (Str × Int)} (h : RightM M ps) : RightM M (halfP ps) := by
  refine ⟨by unfold halfP; rw [List.map_map]; exact h.nd, fun p hp => ?_⟩
  obtain ⟨q, hq, rfl⟩ := List.mem_map.mp hp
  obtain ⟨j, l, f, a, b, c, d, e⟩ := h.kd q hq
  exact ⟨j, l, f, a, b, c, by show 0 ≤ q.2 / 2; omega, by show f + q.2 / 2 ≤ _; omega⟩
theorem fall_drops {M : Bk} {ps : List (Str × Int)} {j : Nat} {z : Str} {f : Int} (ez : M.names[j]? = some z) (ef : M.drops[j]? = some f) : (fallM M ps).drops[j]? = some (f + moreAt ps z) := by
  show ((M.names.zip M.drops).map fun p => p.2 + moreAt ps p.1)[j]? = _
  rw [List.getElem?_map, List.getElem?_zip_eq_some (z := (z, f)) |>.mpr ⟨ez, ef⟩]
  rfl
theorem rest_right {M : Bk} {ps : List (Str × Int)} (h : RightM M ps) : RightM (fallM M (halfP ps)) (restP ps) := by
  refine ⟨by unfold restP; rw [List.map_map]; exact h.nd, fun p hp => ?_⟩
  obtain ⟨q, hq, rfl⟩ := List.mem_map.mp hp
  obtain ⟨j, l, f, a, b, c, d, e⟩ := h.kd q hq
  have hm : moreAt (halfP ps) q.1 = q.2 / 2 := by
    unfold halfP
    rw [moreAt_map (fun x => x / 2) (by decide) q.1 ps, moreAt_mem h.nd hq]
  refine ⟨j, l, f + q.2 / 2, a, b, by rw [← hm]; exact fall_drops a c, by show 0 ≤ q.2 - q.2 / 2; omega, by show f + q.2 / 2 + (q.2 - q.2 / 2) ≤ _; omega⟩
theorem fall_two (M : Bk) (ps : List (Str × Int)) (ok : M.Ok) : fallM (fallM M (halfP ps)) (restP ps) = fallM M ps := by
  have : (M.names.zip ((M.names.zip M.drops).map fun p => p.2 + moreAt (halfP ps) p.1)).map (fun p => p.2 + moreAt (restP ps) p.1) = (M.names.zip M.drops).map fun p => p.2 + moreAt ps p.1 := by
    refine List.ext_getElem (by simp) fun i h1 h2 => ?_
    simp only [List.getElem_map, List.getElem_zip]
    have := half_rest ps (M.names[i]'(by simp at h1; omega))
    omega
  show ({ M with drops := _ } : Bk) = { M with drops := _ }
  rw [← this]
  rfl
section
variable {P : Program} {w : World} {K : PySem.W.Frag} {mg : Str → Option Value} {base : Heap}
/-! ### _law_in_parts -/
abbrev sLIp : Stmt := topS 46
abbrev nLIp : List Str := ["_law_book", "_law_whole", "_law_more_here", "_law_half", "_law_who", "_law_first"]
theorem scLIp : FnScope nLIp ["_law_book", "_law_whole", "_law_more_here"] (defScope sLIp) := ⟨rfl, rfl, rfl, by decide +kernel, rfl, by decide +kernel, by decide +kernel⟩
def spLIp (K : PySem.W.Frag) (C : Addr) : Sp := fun vs H Q _ => ∃ (b wb d : Addr) (M : Bk) (ps : List (Str × Int)), vs = [.ref b, .ref wb, .ref d] ∧ BookAt K C H b M ∧ M.Ok ∧ H d = some (.dK (moreK ps)) ∧ RightM M ps ∧ ps.length ≤ 100 ∧ (∀ (j : Nat) (z : Str), M.names[j]? = some z → 0 ≤ cashM (fallM M ps) j z) ∧ BookAt K C H wb (fallM M ps) ∧ KeyOk (fallM M ps) ∧
  ∀ H', Same H H' → Q (.bl true) H'
theorem pairs_unlock {H : Hp} {d : Addr} {od : Obj} {m : List (Key × V)} {u : HO} (hd : H d = some (.frz od (.dK m))) : ∀ {ts : List Addr} {kvs : List (Key × V)}, PairsAt K H ts kvs → PairsAt K (upd H d u) ts kvs
  | _, _, .nil => .nil
  | t :: _, _, .cons q r => .cons (by
      rcases q with (q | ⟨o, q⟩) | q
      · exact .inl (.inl (by rw [upd_ne (fun z => by rw [z, hd] at q; cases q)]; exact q))
      · exact .inl (.inr ⟨o, by rw [upd_ne (fun z => by rw [z, hd] at q; cases q)]; exact q⟩)
      · exact .inr q) (pairs_unlock hd r)
/-- what a comprehension over the dict makes of it -/
theorem zip_more (h : Int → Int) : ∀ ps : List (Str × Int), dct (ps.map (·.1)) (ps.map fun p => .int (h p.2)) = moreK (ps.map fun p => (p.1, h p.2))
  | [] => rfl
  | p :: r => by
    show (Sum.inr p.1, V.int (h p.2)) :: _ = (Sum.inr p.1, V.int (h p.2)) :: _
    exact congrArg _ (zip_more h r)
set_option maxHeartbeats 4000000 in
theorem ok_lip {f f1 f2 f3 C : Addr} {fd fd1 fd2 fd3 : FuncData} (F : Fun K "_law_in_parts" "_law_in_parts" sLIp f fd) (T : ClsF K C) (B3 : Blt3 mg) (TO : Has P w K mg base 8 "_law_told" ["_law_book", "_law_more_here"] (spLTo P w K C) f1 fd1)
    (LF : HasM P w K mg base C 7 "let_fall" ["self", "more"] (spLetT K C) f2 fd2) (EQ : HasM P w K mg base C 2 "__eq__" ["self", "other"] (spEqB K C) f3 fd3) :
    FnOk P w K mg base CX0 9 f fd ["_law_book", "_law_whole", "_law_more_here"] (spLIp K C) := by
  refine F.ok scLIp (fun vs H Q E h => ?_) (fun cdv Ar outer s H vs Q E0 hr h => ?_)
  · obtain ⟨_, _, _, _, _, rfl, _⟩ := h
    rfl
  · obtain ⟨b, wb, d, M, ps, rfl, hb, ok, hd, rm, l60, cs, hw, key, q⟩ := h
    have hu := hu_of hr
    have hr2 := hr.mono (show 2 ≤ 8 by decide)
    have hr7 := hr.mono (show 7 ≤ 8 by decide)
    refine ⟨_, (pss_cons (ps_set (i := 3) scLIp.nd rfl (.inr rfl) (pe_callTy (call_dictP rfl) (by rfl) B3.dict (by decide +kernel) (pa_cons (pe_lock (pe_lc (own := [("_law_who", 4)]) (g := gName 4) (tt := tYes) rfl scLIp.nd (pi_keysY (pv 2)) (blkOk_by (N := nLIp) (sc := defScope sLIp) (own := [("_law_who", 4)]) (by decide +kernel)) (fun _ _ _ _ _ => pg_name (i := 4) scLIp.nd rfl (.inl rfl) (hf := .inr rfl)) (fun _ _ _ _ _ => pts_nil) (fun _ _ _ _ _ => pe_tup (pa_cons (pv 4) (pa_cons (pe_op op_fdiv (pe_dget hu (pv 2) (pv 4) (fun _ _ => rfl)) pe_int) pa_nil))))) pa_nil))) (pss_cons (ps_set (i := 5) scLIp.nd rfl (.inl rfl) (pe_call TO.ok hr (by rfl) TO.g TO.kp TO.b .nil pass0 (pa_cons (pv 0) (pa_cons (pv 3) pa_nil)))) (pss_cons (ps_if (pt_cmpR op_ne (pe_ix ix_list (pv 5) pe_int (fun _ _ => rfl)) pe_str (nomark _)) (pss_one (ps_ret pe_bl)) pss_nil) (pss_one (ps_ret (pe_cmpR (op_eqB1 rfl EQ.ok EQ.b EQ.m hr2) (pe_meth (pe_ix ix_list (pv 5) pe_int (fun _ _ => rfl)) T.cl LF.m LF.ok hr7 LF.b .nil pass0 (pa_cons (pe_callTy (call_dictP rfl) (by rfl) B3.dict (by decide +kernel) (pa_cons (pe_lock (pe_lc (own := [("_law_who", 4)]) (g := gName 4) (tt := tYes) rfl scLIp.nd (pi_keysY (pv 2)) (blkOk_by (N := nLIp) (sc := defScope sLIp) (own := [("_law_who", 4)]) (by decide +kernel)) (fun _ _ _ _ _ => pg_name (i := 4) scLIp.nd rfl (.inl rfl) (hf := .inr rfl)) (fun _ _ _ _ _ => pts_nil) (fun _ _ _ _ _ => pe_tup (pa_cons (pv 4) (pa_cons (pe_op op_sub (pe_dget hu (pv 2) (pv 4) (fun _ _ => rfl)) (pe_dget hu (pv 3) (pv 4) (fun _ _ => rfl))) pa_nil))))) pa_nil)) pa_nil)) (pv 1) (nomark _))))))), ?_⟩
    obtain ⟨Z, eZ⟩ : ∃ Z, Z = ps.map (·.1) := ⟨_, rfl⟩
    obtain ⟨W, eW⟩ : ∃ W, W = ps.map fun p => V.int p.2 := ⟨_, rfl⟩
    have eM : moreK ps = dct Z W := by rw [eZ, eW]; exact moreK_dct ps
    have lZp : Z.length = ps.length := by rw [eZ, List.length_map]
    have lZW : Z.length = W.length := by rw [eZ, eW, List.length_map, List.length_map]
    have rm0 := rm
    have hd0 := hd
    rw [eM] at hd
    have ndZ : Z.Nodup := by rw [eZ]; exact rm0.nd
    refine ⟨d, _, hd, trivial, fun od => ?_⟩
    have hdL : upd H d (.frz od (.dK (dct Z W))) d = some (.frz od (.dK (dct Z W))) := upd_same
    have un : ∀ H', Same (upd H d (.frz od (.dK (dct Z W)))) H' → Same H (upd H' d (.dK (dct Z W))) := fun H' s' => same_unlock hd s'
    generalize upd H d (.frz od (.dK (dct Z W))) = HL at hdL un
    refine ⟨.ref d, rfl, d, od, Z.map V.str, W, _, rfl, .inl ⟨Z, W, rfl, ndZ, lZW, rfl, rfl⟩, hdL, fun J hJ D1 nD => ?_⟩
    refine lc_it hJ (fun i H' => Same HL H' ∧ ∃ ts : List Addr, H' D1 = some (.lst (ts.map V.ref)) ∧ PairsAt K H' ts (dct (Z.take i) (((ps.map fun p => V.int (p.2 / 2)) : List V).take i))) ⟨same_upd nD, [], upd_same, .nil⟩ (fun i H' _ hP => hP.1 _ _ hdL)
      (fun i x H1' H1 hi hP hY => ?_) (fun H1 hP => ?_)
    · obtain ⟨rfl, hx⟩ := hY
      obtain ⟨s1, ts, h1, pr⟩ := hP
      rw [List.length_map] at hi
      have hip : i < ps.length := by rw [eZ, List.length_map] at hi; exact hi
      have ez : Z[i]? = some ps[i].1 := by rw [eZ, List.getElem?_map, List.getElem?_eq_getElem hip]; rfl
      have ew : W[i]? = some (.int ps[i].2) := by rw [eW, List.getElem?_map, List.getElem?_eq_getElem hip]; rfl
      have ex : x = .str ps[i].1 := by
        rw [List.getElem?_map, ez] at hx
        exact (Option.some.inj hx).symm
      subst ex
      have lv : (((ps.map fun p => V.int (p.2 / 2)) : List V).take i).length = (Z.take i).length := by rw [List.length_take, List.length_take, lZp, List.length_map]
      refine ⟨rfl, .str ps[i].1, rfl, .ref d, rfl, .str ps[i].1, rfl, d, .int ps[i].2, rfl, dget_rd (.inr ⟨od, s1 _ _ hdL⟩) ndZ ez ew, _, _, rfl, rfl, ⟨by decide, by decide⟩, by show 2 ≤ sizeLine; decide, fun t nt => ?_⟩
      have tD : t ≠ D1 := (ne_of_none h1 nt).symm
      have ef : ((ps.map fun p => V.int (p.2 / 2)) : List V)[i]? = some (.int (ps[i].2 / 2)) := by rw [List.getElem?_map, List.getElem?_eq_getElem hip]; rfl
      obtain ⟨k0, k1, k2, _⟩ := pairs_step (H0 := HL) (z := ps[i].1) (v := .int (ps[i].2 / 2)) nD s1 h1 pr lv nt
      refine ⟨_, by rw [upd_ne tD.symm]; exact h1, by rw [List.length_map, Paired.len pr, dct_len lv, List.length_take]; exact small1000 (by omega), k0, ts ++ [t], k1, ?_⟩
      rw [List.take_add_one, ez, List.take_add_one, ef]
      exact k2
    obtain ⟨s1, ts, h1, pr⟩ := hP
    rw [List.length_map, List.take_length, List.take_of_length_le (by rw [List.length_map, lZp]; exact Nat.le_refl _)] at pr
    have hdf := s1 _ _ hdL
    have D1d : D1 ≠ d := fun z => by rw [z, hdL] at nD; cases nD
    have pr2 : PairsAt K (upd H1 d (.dK (dct Z W))) ts _ := pairs_unlock hdf pr
    refine ⟨hdf, D1, ts, _, rfl, .inl (.inl (by rw [upd_ne D1d]; exact h1)), pr2, fun hf nN => ?_⟩
    rw [merge_new ndZ]
    have sU := un _ s1
    have eH : dct Z (ps.map fun p => V.int (p.2 / 2)) = moreK (halfP ps) := by rw [eZ]; exact zip_more (fun x => x / 2) ps
    rw [eH]
    have s2 := sU.trans (same_upd (o := .dK (moreK (halfP ps))) nN)
    have hhf : upd (upd H1 d (.dK (dct Z W))) hf (.dK (moreK (halfP ps))) hf = some (.dK (moreK (halfP ps))) := upd_same
    have hfH : H hf = none := sU.free nN
    generalize upd (upd H1 d (.dK (dct Z W))) hf (.dK (moreK (halfP ps))) = H2 at s2 hhf
    clear hdL un hdf pr pr2 s1 h1 sU nN
    have hb2 := book_same hb s2
    refine ⟨.ref b, rfl, .ref hf, rfl, b, M, .ref hf, some (halfP ps), rfl, hb2, ok, .rgt hhf (half_right rm0), (fun e => by cases e), fun ps' e' => ?_⟩
    cases e'
    refine ⟨fun z L H3 sh s3 nL hL => ?_, fun b1 L H3 cs1 s3 nb1 nL hb1 hL => ?_⟩
    · refine ⟨.ref L, rfl, L, _, 0, .str "short", rfl, rfl, .inl (.inl hL), atI_nat (j := 0) rfl, rfl, _, rfl, ?_⟩
      rw [decide_eq_false (by decide)]
      exact iteT (q _ (s2.trans s3))
    refine ⟨.ref L, rfl, L, _, 0, .str "told", rfl, rfl, .inl (.inl hL), atI_nat (j := 0) rfl, rfl, _, rfl, ?_⟩
    rw [decide_eq_true rfl]
    refine iteF ?_
    have s23 := s2.trans s3
    have hd3 := s23 _ _ hd
    have hhf3 := s3 _ _ hhf
    have hfd : hf ≠ d := (ne_of_none hd hfH).symm
    obtain ⟨dx, tn, on, wg, ws, wd, e, _⟩ := hb1.ex
    refine ⟨.ref L, rfl, L, _, 1, .ref b1, rfl, rfl, .inl (.inl hL), atI_nat (j := 1) rfl, b1, dx, _, rfl, e, bf_no (NoF.mk' (by decide +kernel)), ?_⟩
    refine ⟨d, _, hd3, trivial, fun od => ?_⟩
    have hdL : upd H3 d (.frz od (.dK (dct Z W))) d = some (.frz od (.dK (dct Z W))) := upd_same
    have un : ∀ H', Same (upd H3 d (.frz od (.dK (dct Z W)))) H' → Same H3 (upd H' d (.dK (dct Z W))) := fun H' s' => same_unlock hd3 s'
    have hhL : upd H3 d (.frz od (.dK (dct Z W))) hf = some (.dK (moreK (halfP ps))) := by rw [upd_ne hfd]; exact hhf3
    generalize upd H3 d (.frz od (.dK (dct Z W))) = HM at hdL un hhL
    refine ⟨.ref d, rfl, d, od, Z.map V.str, W, _, rfl, .inl ⟨Z, W, rfl, ndZ, lZW, rfl, rfl⟩, hdL, fun J hJ D2 nD => ?_⟩
    refine lc_it hJ (fun i H' => Same HM H' ∧ ∃ ts : List Addr, H' D2 = some (.lst (ts.map V.ref)) ∧ PairsAt K H' ts (dct (Z.take i) (((ps.map fun p => V.int (p.2 - p.2 / 2)) : List V).take i))) ⟨same_upd nD, [], upd_same, .nil⟩ (fun i H' _ hP => hP.1 _ _ hdL)
      (fun i x H1' H1 hi hP hY => ?_) (fun H1 hP => ?_)
    · obtain ⟨rfl, hx⟩ := hY
      obtain ⟨s1, ts, h1, pr⟩ := hP
      rw [List.length_map] at hi
      have hip : i < ps.length := by rw [eZ, List.length_map] at hi; exact hi
      have ez : Z[i]? = some ps[i].1 := by rw [eZ, List.getElem?_map, List.getElem?_eq_getElem hip]; rfl
      have ew : W[i]? = some (.int ps[i].2) := by rw [eW, List.getElem?_map, List.getElem?_eq_getElem hip]; rfl
      have ex : x = .str ps[i].1 := by
        rw [List.getElem?_map, ez] at hx
        exact (Option.some.inj hx).symm
      subst ex
      have lv : (((ps.map fun p => V.int (p.2 - p.2 / 2)) : List V).take i).length = (Z.take i).length := by rw [List.length_take, List.length_take, lZp, List.length_map]
      refine ⟨rfl, .str ps[i].1, rfl, .ref d, rfl, .str ps[i].1, rfl, d, .int ps[i].2, rfl, dget_rd (.inr ⟨od, s1 _ _ hdL⟩) ndZ ez ew, .ref hf, rfl, .str ps[i].1, rfl, hf, .int (ps[i].2 / 2), rfl, (by rw [← eH] at hhL; exact dget_rd (.inl (s1 _ _ hhL)) ndZ ez (by rw [List.getElem?_map, List.getElem?_eq_getElem hip]; rfl)), _, _, rfl, rfl, by show 2 ≤ sizeLine; decide, fun t nt => ?_⟩
      have tD : t ≠ D2 := (ne_of_none h1 nt).symm
      have ef : ((ps.map fun p => V.int (p.2 - p.2 / 2)) : List V)[i]? = some (.int (ps[i].2 - ps[i].2 / 2)) := by rw [List.getElem?_map, List.getElem?_eq_getElem hip]; rfl
      obtain ⟨k0, k1, k2, _⟩ := pairs_step (H0 := HM) (z := ps[i].1) (v := .int (ps[i].2 - ps[i].2 / 2)) nD s1 h1 pr lv nt
      refine ⟨_, by rw [upd_ne tD.symm]; exact h1, by rw [List.length_map, Paired.len pr, dct_len lv, List.length_take]; exact small1000 (by omega), k0, ts ++ [t], k1, ?_⟩
      rw [List.take_add_one, ez, List.take_add_one, ef]
      exact k2
    obtain ⟨s1, ts, h1, pr⟩ := hP
    rw [List.length_map, List.take_length, List.take_of_length_le (by rw [List.length_map, lZp]; exact Nat.le_refl _)] at pr
    have hdf := s1 _ _ hdL
    have D1d : D2 ≠ d := fun z => by rw [z, hdL] at nD; cases nD
    have pr2 : PairsAt K (upd H1 d (.dK (dct Z W))) ts _ := pairs_unlock hdf pr
    refine ⟨hdf, D2, ts, _, rfl, .inl (.inl (by rw [upd_ne D1d]; exact h1)), pr2, fun rd nN => ?_⟩
    rw [merge_new ndZ]
    have sU := un _ s1
    have eR : dct Z (ps.map fun p => V.int (p.2 - p.2 / 2)) = moreK (restP ps) := by rw [eZ]; exact zip_more (fun x => x - x / 2) ps
    rw [eR]
    have s4 := sU.trans (same_upd (o := .dK (moreK (restP ps))) nN)
    have hrd : upd (upd H1 d (.dK (dct Z W))) rd (.dK (moreK (restP ps))) rd = some (.dK (moreK (restP ps))) := upd_same
    generalize upd (upd H1 d (.dK (dct Z W))) rd (.dK (moreK (restP ps))) = H4 at s4 hrd
    have s04 := s23.trans s4
    have e2 := fall_two M ps ok
    refine ⟨b1, rd, fallM M (halfP ps), restP ps, rfl, book_same hb1 s4, fall_ok ok _, hrd, rest_right rm0, by rw [e2]; exact cs, fun b2 H5 s5 nb2 hb2' => ?_⟩
    rw [e2] at hb2'
    exact ⟨.ref wb, rfl, b2, wb, _, rfl, rfl, hb2', book_same hw (s04.trans s5), key, fun H6 s6 => q _ (s04.trans (s5.trans s6))⟩
end
end Rc

namespace Rc
open PySem PySem.Spec PyProof.Rows L2 RZ
/-! ### keys -/
def keyS : Shape := .tuple [.tuples .str, .tuples .int, .tuples (.tuples (.tuple [.str, .int])), .tuples .int]
theorem key_has (M : Bk) : keyS.has (keyD M) = true := by
  unfold keyS keyD
  have h1 : (M.names.map PyData.str).all (Shape.has .str) = true := List.all_eq_true.mpr fun x hx => by
    obtain ⟨y, _, rfl⟩ := List.mem_map.mp hx
    simp [Shape.has]
  have hi : ∀ l : List Int, (l.map PyData.int).all (Shape.has .int) = true := fun l => List.all_eq_true.mpr fun x hx => by
    obtain ⟨y, _, rfl⟩ := List.mem_map.mp hx
    simp [Shape.has]
  have hn : ∀ n : Str × Int, Shape.has (.tuple [.str, .int]) (noteD n) = true := fun n => by simp [Shape.has, Shape.hasAll, noteD]
  have h3 : (M.stacks.map stackD).all (Shape.has (.tuples (.tuple [.str, .int]))) = true := List.all_eq_true.mpr fun x hx => by
    obtain ⟨y, _, rfl⟩ := List.mem_map.mp hx
    show Shape.has (.tuples (.tuple [.str, .int])) (.tuple (notesD y)) = true
    rw [Shape.has]
    refine List.all_eq_true.mpr fun x hx => ?_
    obtain ⟨n, _, rfl⟩ := List.mem_map.mp hx
    exact hn n
  rw [Shape.has]
  simp only [Shape.hasAll]
  have e1 : Shape.has (.tuples .str) (.tuple (M.names.map PyData.str)) = true := by rw [Shape.has]; exact h1
  have e2 : ∀ l : List Int, Shape.has (.tuples .int) (.tuple (l.map PyData.int)) = true := fun l => by rw [Shape.has]; exact hi l
  have e3 : Shape.has (.tuples (.tuples (.tuple [.str, .int]))) (.tuple (M.stacks.map stackD)) = true := by rw [Shape.has]; exact h3
  rw [e1, e2, e2, e3]
  rfl
theorem note_inj {a b : Str × Int} (h : noteD a = noteD b) : a = b := by
  unfold noteD at h
  simp only [PyData.tuple.injEq, List.cons.injEq, PyData.str.injEq, PyData.int.injEq, and_true] at h
  exact Prod.ext h.1 h.2
theorem stack_inj {a b : List (Str × Int)} (h : stackD a = stackD b) : a = b := by
  unfold stackD notesD at h
  rw [PyData.tuple.injEq] at h
  exact (List.map_inj_right (fun x y => note_inj)).mp h
theorem key_inj {M N : Bk} (h : keyD M = keyD N) : M = N := by
  unfold keyD at h
  simp only [PyData.tuple.injEq, List.cons.injEq, and_true] at h
  obtain ⟨h1, h2, h3, h4⟩ := h
  have e1 := (List.map_inj_right (fun x y => PyData.str.inj)).mp h1
  have e2 := (List.map_inj_right (fun x y => PyData.int.inj)).mp h2
  have e3 := (List.map_inj_right (fun x y => stack_inj)).mp h3
  have e4 := (List.map_inj_right (fun x y => PyData.int.inj)).mp h4
  cases M
  cases N
  simp only at e1 e2 e3 e4
  rw [e1, e2, e3, e4]
theorem key_true {M N : Bk} (h : PyData.eqv (keyD M) (keyD N) = true) : M = N := by
  rw [← SeqAt.same_eq_eqv_of_shape (S := keyS) (by decide) (key_has M) (key_has N)] at h
  exact key_inj (same_iff.mp h)
/-! ### what has fallen more is good -/
theorem moreAt_or (ps : List (Str × Int)) (z : Str) : moreAt ps z = 0 ∨ ∃ p ∈ ps, p.1 = z ∧ moreAt ps z = p.2 := by
  unfold moreAt
  cases h : ps.find? (fun p => decide (p.1 = z)) with
  | none => exact .inl rfl
  | some p => exact .inr ⟨p, List.mem_of_find?_eq_some h, by simpa using List.find?_some h, rfl⟩
theorem fell_ok {zs : List Str} {D : Md} {k : Nat} {ps : List (Str × Int)} (g : Gs zs D) (gb : Gb D) (bd : Bd D k) (rm : RightM (bkOf zs D) ps) (cs : ∀ (j : Nat) (z : Str), (bkOf zs D).names[j]? = some z → 0 ≤ cashM (fallM (bkOf zs D) ps) j z) :
    Gs zs (fellA zs D ps) ∧ Gb (fellA zs D ps) ∧ Bd (fellA zs D ps) k := by
  refine ⟨⟨g.nz, g.nt, fun f hf => ?_, g.my, g.lg, ?_, g.ln, cs⟩, ⟨gb.gv, fun j l f el ef => ?_⟩, ⟨bd.gv, bd.my⟩⟩
  · obtain ⟨p, hp, rfl⟩ := List.mem_map.mp hf
    have f0 := g.fl _ (List.of_mem_zip hp).2
    rcases moreAt_or ps p.1 with e | ⟨q, hq, _, e⟩
    · rw [e]
      omega
    · obtain ⟨_, _, _, _, _, _, q0, _⟩ := rm.kd q hq
      rw [e]
      omega
  · show ((zs.zip D.fallen).map _).length = _
    rw [List.length_map, List.length_zip, g.lf, Nat.min_self]
  · have ef : ((zs.zip D.fallen).map fun p => p.2 + moreAt ps p.1)[j]? = some f := ef
    have el : D.notes[j]? = some l := el
    rw [List.getElem?_map] at ef
    obtain ⟨⟨z, f0⟩, hz, rfl⟩ := Option.map_eq_some_iff.mp ef
    obtain ⟨ez, e0⟩ := List.getElem?_zip_eq_some.mp hz
    have fw := gb.fw j l f0 el e0
    show f0 + moreAt ps z ≤ wholeN l
    rcases moreAt_or ps z with e | ⟨q, hq, eq, e⟩
    · rw [e]
      omega
    · obtain ⟨j', l', f', a1, a2, a3, q0, q1⟩ := rm.kd q hq
      have a1 : zs[j']? = some q.1 := a1
      rw [eq] at a1
      obtain rfl := nd_inj g.nz.nd a1 ez
      have a2 : D.notes[j']? = some l' := a2
      have a3 : D.fallen[j']? = some f' := a3
      rw [el] at a2
      rw [e0] at a3
      cases a2
      cases a3
      rw [e]
      exact q1
theorem fell_other {zs : List Str} {D : Md} {ps : List (Str × Int)} (g : Gs zs D) (rm : RightM (bkOf zs D) ps) (h : ((ps.map (·.2)).any fun n => n != 0) = true) : PyData.eqv (keyD (bkOf zs (fellA zs D ps))) (keyD (bkOf zs D)) = false := by
  cases e : PyData.eqv (keyD (bkOf zs (fellA zs D ps))) (keyD (bkOf zs D)) with
  | false => rfl
  | true =>
    have eq := key_true e
    have ed : (zs.zip D.fallen).map (fun p => p.2 + moreAt ps p.1) = D.fallen := congrArg Bk.drops eq
    obtain ⟨x, hx, nx⟩ := List.any_eq_true.mp h
    obtain ⟨q, hq, rfl⟩ := List.mem_map.mp hx
    obtain ⟨j, l, f, a1, _, a3, q0, _⟩ := rm.kd q hq
    have a1 : zs[j]? = some q.1 := a1
    have a3 : D.fallen[j]? = some f := a3
    have e1 : ((zs.zip D.fallen).map fun p => p.2 + moreAt ps p.1)[j]? = some (f + moreAt ps q.1) := by
      rw [List.getElem?_map, List.getElem?_zip_eq_some (z := (q.1, f)) |>.mpr ⟨a1, a3⟩]
      rfl
    rw [ed, a3, moreAt_mem rm.nd hq] at e1
    have := Option.some.inj e1
    have n0 : q.2 ≠ 0 := by simpa using nx
    omega
theorem short_one {M : Bk} {ps : List (Str × Int)} {z y : Str} (h : ShortM M ps z) (h' : ShortM M ps y) : z = y := by
  obtain ⟨i, a, b, c⟩ := h
  obtain ⟨j, a', b', c'⟩ := h'
  have : i = j := by
    rcases Nat.lt_trichotomy i j with h | h | h
    · have := c' i z h a
      omega
    · exact h
    · have := c j y h a'
      omega
  subst this
  rw [a] at a'
  exact Option.some.inj a'
theorem nd_len : ∀ {l m : List Str}, l.Nodup → (∀ z ∈ l, z ∈ m) → l.length ≤ m.length
  | [], _, _, _ => Nat.zero_le _
  | z :: l, m, nd, h => by
    obtain ⟨n1, n2⟩ := List.nodup_cons.mp nd
    have hz := h z List.mem_cons_self
    have h1 := nd_len (l := l) (m := m.erase z) n2 fun y hy => (List.mem_erase_of_ne (fun e => by rw [e] at hy; exact n1 hy)).mpr (h y (List.mem_cons_of_mem _ hy))
    rw [List.length_erase_of_mem hz] at h1
    have := List.length_pos_of_mem hz
    show l.length + 1 ≤ _
    omega
theorem vals_more : ∀ ps : List (Str × Int), (moreK ps).map (·.2) = (ps.map (·.2)).map V.int
  | [] => rfl
  | p :: r => congrArg (V.int p.2 :: ·) (vals_more r)
theorem by_no {c : TT} {t u : TS} {D : Ends} {σ : L2.St} {H : Hp} (P : Hp → Prop) (h : ∀ Q' : Bool → Hp → Prop, (∀ Hz, P Hz → Q' false Hz) → c σ H Q') (q : ∀ Hz, P Hz → u D σ Hz) : tIfS c t u D σ H := h _ fun Hz p => iteF (q Hz p)
theorem bd_up {D : Md} {k n : Nat} (h : Bd D k) (l : k ≤ n) : Bd D n := ⟨fun g hg => ⟨(h.gv g hg).1, Int.le_trans (h.gv g hg).2 (Int.mul_le_mul_of_nonneg_right (by omega) (by decide))⟩, Nat.le_trans h.my l⟩
/-- what stands between the turns -/
structure St17 (K : PySem.W.Frag) (C : Addr) (H0 H : Hp) (p r b : Addr) (zs : List Str) (m : MdA) (D : Md) (k : Nat) : Prop where
  sm : Same H0 H
  fp : H0 p = none
  fm : ∀ c, m.Has c → H0 c = none
  hp : Pot H p
  hr : H r = some (.lst (zs.map V.str))
  hM : ModelAt K H zs m D
  hb : BookAt K C H b (bkOf zs D)
  g : Gs zs D
  gb : Gb D
  bd : Bd D k
  nap : ¬ m.Has p
  nar : ¬ m.Has r
  rp : r ≠ p
/-- what is wanted, and told -/
inductive Out17 (K : PySem.W.Frag) (C : Addr) (H0 H : Hp) (p r : Addr) (zs : List Str) (m : MdA) (D : Md) (v : V) (Lw Lt : Addr) : Prop
  | no {t0 : Str} {ts : List Str} : t0 ≠ ("told" : Str) → (∀ t ∈ t0 :: ts, Asc t) → H Lw = some (.lst ((t0 :: ts).map V.str)) → H Lt = some (.lst ((t0 :: ts).map V.str)) → Out17 K C H0 H p r zs m D v Lw Lt
  | told {d : Addr} {ps : List (Str × Int)} {m1 df b1 : Addr} : v = .ref d → H d = some (.dK (moreK ps)) → RightM (bkOf zs D) ps → (∀ (j : Nat) (z : Str), (bkOf zs D).names[j]? = some z → 0 ≤ cashM (fallM (bkOf zs D) ps) j z) →
      H Lw = some (.lst [.str ("told" : Str), .ref m1]) → H Lt = some (.lst [.str ("told" : Str), .ref b1]) → ModelAt K H zs ⟨m1, m.lo, m.dg, df, m.dn, m.rs⟩ (fellA zs D ps) → H0 m1 = none → H0 df = none → m1 ≠ p → df ≠ p → m1 ≠ r → df ≠ r → m1 ≠ d → df ≠ d → BookAt K C H b1 (fallM (bkOf zs D) ps) → Out17 K C H0 H p r zs m D v Lw Lt
section
variable {K : PySem.W.Frag} {C : Addr} {H0 H H' : Hp} {p r b : Addr} {zs : List Str} {m : MdA} {D : Md} {k : Nat}
theorem St17.up (h : St17 K C H0 H p r b zs m D k) {n : Nat} (l : k ≤ n) : St17 K C H0 H p r b zs m D n := { h with bd := bd_up h.bd l }
theorem St17.same (h : St17 K C H0 H p r b zs m D k) (s : Same H H') : St17 K C H0 H' p r b zs m D k :=
  ⟨h.sm.trans s, h.fp, h.fm, h.hp.same s, s _ _ h.hr, model_same h.hM s, book_same h.hb s, h.g, h.gb, h.bd, h.nap, h.nar, h.rp⟩
theorem St17.but (h : St17 K C H0 H p r b zs m D k) (b' : But p H H') (hp' : Pot H' p) : St17 K C H0 H' p r b zs m D k :=
  ⟨fun c o e => b' c o (fun z => by rw [z, h.fp] at e; cases e) (h.sm c o e), h.fp, h.fm, hp', b' _ _ h.rp h.hr, model_but h.hM b' h.hp h.nap, h.hb.keep (b'.kpP h.hp), h.g, h.gb, h.bd, h.nap, h.nar, h.rp⟩
theorem St17.butD (h : St17 K C H0 H p r b zs m D k) {d : Addr} {mm : List (Key × V)} (b' : But d H H') (hd : H d = some (.dK mm)) (fd : H0 d = none) (dp : d ≠ p) (nd : ¬ m.Has d) : St17 K C H0 H' p r b zs m D k := by
  have kp : Kp H H' := fun c o e f => b' c o (fun z => by
    rw [z, hd] at e
    cases e
    exact f) e
  refine ⟨fun c o e => b' c o (fun z => by rw [z, fd] at e; cases e) (h.sm c o e), h.fp, h.fm, ?_, b' _ _ (fun z => by have := h.hr; rw [z, hd] at this; cases this) h.hr, h.hM.keep (fun c o hc e => b' c o (fun z => nd (z ▸ hc)) e) kp.kt, h.hb.keep kp, h.g, h.gb, h.bd, h.nap, h.nar, h.rp⟩
  obtain ⟨x, y, e, q⟩ := h.hp
  exact ⟨x, y, b' _ _ dp.symm e, q⟩
theorem St17.done (h : St17 K C H0 H p r b zs m D k) {d : Deed} {b2 : Addr} (hb2 : BookAt K C H b2 (stepM (bkOf zs D) d)) (od : d.Ok zs) (hk : k + 1 ≤ 60) (bf : ButF m H H') (hM' : ModelAt K H' zs m (doneD zs D d)) : St17 K C H0 H' p r b2 zs m (doneD zs D d) (k + 1) := by
  obtain ⟨g', gb', bd'⟩ := deed_ok h.g h.gb h.bd hk od
  have fh : ∀ {c : Addr}, m.Foot c → m.Has c := fun {c} f => by
    rcases f with rfl | f
    · exact .inr (.inr (.inl rfl))
    · exact .inr (.inr (.inr (.inr (.inr f))))
  refine ⟨fun c o e => bf c o (fun f => by have := h.fm c (fh f); rw [e] at this; cases this) (h.sm c o e), h.fp, h.fm, ?_, bf _ _ (fun f => h.nar (fh f)) h.hr, hM', ?_, g', gb', bd', h.nap, h.nar, h.rp⟩
  · obtain ⟨x, y, e, q⟩ := h.hp
    exact ⟨x, y, bf _ _ (fun f => h.nap (fh f)) e, q⟩
  · rw [← step_eq]
    exact hb2.keep (bf.kp h.hM)
end
section
variable {P : Program} {w : World} {K : PySem.W.Frag} {mg : Str → Option Value} {base : Heap}
/-! ### law -/
def spLaw (K : PySem.W.Frag) : Sp := fun vs H Q _ => ∃ (a : Addr) (ns : List Int), vs = [.ref a] ∧ SqL K H a (ns.map V.int) ∧ ns.length ≤ 63 ∧ ∀ H', Q (.bl true) H'
abbrev sLaw : Stmt := topS 47
abbrev nLaw : List Str := ["_law_script", "_law_k", "_law_pot_here", "_law_size", "_law_names_here", "_law_deeds_here", "_law_model_here", "_law_book", "_law_deed", "_law_turn", "_law_more_here", "_law_kept", "_law_key", "_law_wanted_here", "_law_told_here"]
theorem scLaw : FnScope nLaw ["_law_script"] (defScope sLaw) := ⟨rfl, rfl, rfl, by decide +kernel, rfl, by decide +kernel, by decide +kernel⟩
set_option maxHeartbeats 8000000 in
theorem ok_law {f fP fT f1 f2 f3 f4 f5 f6 f7 f8 f9 g1 g2 g3 g4 fI C : Addr} {fd fdP fdT fd1 fd2 fd3 fd4 fd5 fd6 fd7 fd8 fd9 gd1 gd2 gd3 gd4 fdI : FuncData} (F : Fun K "law" "law" sLaw f fd) (B : Blt mg) (B2 : Blt2 mg) (B3 : Blt3 mg) (BA : mg "any" = none) (TF : ClsF K C)
    (LP : Has P w K mg base 3 "_law_pot" ["_law_script", "_law_k"] (spPot K) fP fdP) (TK : HasTake P w K mg base fT fdT) (LN : Has P w K mg base 3 "_law_names" ["_law_pot_here", "_law_many"] spLNms f1 fd1) (DS : Has P w K mg base 3 "_law_deeds" ["_law_pot_here", "_law_names_here", "_law_many", "_law_size"] (spLDs K) f2 fd2)
    (MD : Has P w K mg base 1 "_law_model" ["_law_names_here"] (spLMd K) f3 fd3) (BK : Has P w K mg base 7 "_law_booked" ["_law_book", "_law_deeds_here"] (spLBk K C) f4 fd4) (DN : Has P w K mg base 1 "_law_done" ["_law_model_here", "_law_deed"] (spLDn K) f5 fd5)
    (LMO : Has P w K mg base 6 "_law_more" ["_law_pot_here", "_law_model_here"] (spLMo K) f6 fd6) (SPT : Has P w K mg base 3 "_law_spoilt" ["_law_pot_here", "_law_model_here", "_law_more_here"] (spLSp17 P w K) f7 fd7) (WA : Has P w K mg base 3 "_law_wanted" ["_law_model_here", "_law_more_here"] (spLWa P w K) f8 fd8)
    (TO : Has P w K mg base 8 "_law_told" ["_law_book", "_law_more_here"] (spLTo P w K C) f9 fd9) (LR : HasG P w K mg base 9 "_law_looks_right" ["_law_model_here", "_law_book"] (spLAl K C) g1 gd1) (IP : Has P w K mg base 9 "_law_in_parts" ["_law_book", "_law_whole", "_law_more_here"] (spLIp K C) g2 gd2)
    (KY : HasM P w K mg base C 1 "key" ["self"] (spKey K C) g3 gd3) (EQ : HasM P w K mg base C 2 "__eq__" ["self", "other"] (spEqB K C) g4 gd4)
    (M : Mk K C fI) (gC : mg "Book" = some (.ref C)) (GI : FnOk P w K mg base CX0 3 fI fdI ["self", "persons"] (spInit K C)) (bI : Binds K fdI ["self", "persons"] []) : FnG P w K mg base CX0 10 f fd ["_law_script"] (spLaw K) := by
  refine okG0 F scLaw (fun vs H Q E h => ?_) (fun cdv A outer s H vs Q E hr hg h => ?_)
  · obtain ⟨a, d, rfl, _⟩ := h
    rfl
  · obtain ⟨a0, ns, rfl, hS, hlen, q⟩ := h
    have hu := hu_of hr
    have hr1 := hr.mono (show 1 ≤ 9 by decide)
    have hr2 := hr.mono (show 2 ≤ 9 by decide)
    have hr3 := hr.mono (show 3 ≤ 9 by decide)
    have hr4 := hr.mono (show 4 ≤ 9 by decide)
    have hr6 := hr.mono (show 6 ≤ 9 by decide)
    have hr7 := hr.mono (show 7 ≤ 9 by decide)
    have hr8 := hr.mono (show 8 ≤ 9 by decide)
    refine ⟨_, (pss_cons (ps_for PassesOwn.never rfl (pi_range1 (by rfl) B2.range (pa_cons (pe_callB (call_max2 rfl) (by rfl) B2.max (by decide +kernel) (pa_cons pe_int (pa_cons (pe_callB (call_min2 rfl) (by rfl) B2.min (by decide +kernel) (pa_cons (pe_callB call_len_seq (by rfl) B.len PySem.boot_len (pa_cons (pv 0) pa_nil)) (pa_cons pe_int pa_nil))) pa_nil))) pa_nil)) (pg_name (i := 1) scLaw.nd rfl (.inl rfl)) (pss_cons (ps_set (i := 2) scLaw.nd rfl (.inl rfl) (pe_call LP.ok hr3 (by rfl) LP.g LP.kp LP.b .nil pass0 (pa_cons (pv 0) (pa_cons (pv 1) pa_nil)))) (pss_cons (ps_set (i := 3) scLaw.nd rfl (.inl rfl) (pe_call TK.ok hr1 (by rfl) TK.g TK.kp TK.b .nil pass0 (pa_cons (pv 2) (pa_cons pe_int pa_nil)))) (pss_cons (ps_set (i := 4) scLaw.nd rfl (.inl rfl) (pe_call LN.ok hr3 (by rfl) LN.g LN.kp LN.b .nil pass0 (pa_cons (pv 2) (pa_cons (pe_op op_add pe_int (pe_call TK.ok hr1 (by rfl) TK.g TK.kp TK.b .nil pass0 (pa_cons (pv 2) (pa_cons (pe_ix ix_list (pe_lst (pa_cons pe_int (pa_cons pe_int (pa_cons pe_int pa_nil)))) (pe_call TK.ok hr1 (by rfl) TK.g TK.kp TK.b .nil pass0 (pa_cons (pv 2) (pa_cons pe_int pa_nil))) (fun _ _ => rfl)) pa_nil)))) pa_nil)))) (pss_cons (ps_set (i := 5) scLaw.nd rfl (.inl rfl) (pe_call DS.ok hr3 (by rfl) DS.g DS.kp DS.b .nil pass0 (pa_cons (pv 2) (pa_cons (pv 4) (pa_cons (pe_call TK.ok hr1 (by rfl) TK.g TK.kp TK.b .nil pass0 (pa_cons (pv 2) (pa_cons pe_int pa_nil))) (pa_cons (pv 3) pa_nil)))))) (pss_cons (ps_par (i := 6) (j := 7) rfl scLaw.nd rfl rfl (by decide) rfl rfl (pa_cons (pe_call MD.ok hr1 (by rfl) MD.g MD.kp MD.b .nil pass0 (pa_cons (pv 4) pa_nil)) (pa_cons (pe_call BK.ok hr7 (by rfl) BK.g BK.kp BK.b .nil pass0 (pa_cons (pe_make M GI hr4 (by rfl) gC bI .nil pass0 (pa_cons (pe_callTy (call_listS rfl) (by rfl) B3.list (by decide +kernel) (pa_cons (pv 4) pa_nil)) pa_nil)) (pa_cons (pv 5) pa_nil))) pa_nil)) (by rfl)) (pss_cons (ps_for PassesOwn.never rfl (pi_list (pv 5)) (pg_name (i := 8) scLaw.nd rfl (.inl rfl)) (pss_one (ps_expr (pe_call DN.ok hr1 (by rfl) DN.g DN.kp DN.b .nil pass0 (pa_cons (pv 6) (pa_cons (pv 8) pa_nil)))))) (pss_one (ps_for PassesOwn.never rfl (pi_range1 (by rfl) B2.range (pa_cons (pe_op op_add pe_int (pe_call TK.ok hr1 (by rfl) TK.g TK.kp TK.b .nil pass0 (pa_cons (pv 2) (pa_cons pe_int pa_nil)))) pa_nil)) (pg_name (i := 9) scLaw.nd rfl (.inl rfl)) (pss_cons (ps_set (i := 10) scLaw.nd rfl (.inl rfl) (pe_call SPT.ok hr3 (by rfl) SPT.g SPT.kp SPT.b .nil pass0 (pa_cons (pv 2) (pa_cons (pv 6) (pa_cons (pe_call LMO.ok hr6 (by rfl) LMO.g LMO.kp LMO.b .nil pass0 (pa_cons (pv 2) (pa_cons (pv 6) pa_nil))) pa_nil))))) (pss_cons (ps_par (i := 11) (j := 12) rfl scLaw.nd rfl rfl (by decide) rfl rfl (pa_cons (pe_callB (call_reprY hr hg) (by rfl) B2.repr (by decide +kernel) (pa_cons (pv 10) pa_nil)) (pa_cons (pe_meth0 (pv 7) TF.cl KY.m KY.ok hr1 KY.b .nil pass0) pa_nil)) (by rfl)) (C8.pss_cut (ps_par (i := 13) (j := 14) rfl scLaw.nd rfl rfl (by decide) rfl rfl (pa_cons (pe_call WA.ok hr3 (by rfl) WA.g WA.kp WA.b .nil pass0 (pa_cons (pv 6) (pa_cons (pv 10) pa_nil))) (pa_cons (pe_call TO.ok hr8 (by rfl) TO.g TO.kp TO.b .nil pass0 (pa_cons (pv 7) (pa_cons (pv 10) pa_nil))) pa_nil)) (by rfl)) (pss_cons (ps_if (PW.pt (pw_or (pt_cmpR op_ne (pe_ix ix_list (pv 14) pe_int (fun _ _ => rfl)) (pe_ix ix_list (pv 13) pe_int (fun _ _ => rfl)) (nomark _)) (pw_or (pt_cmpR op_ne (pe_callB (call_reprY hr hg) (by rfl) B2.repr (by decide +kernel) (pa_cons (pv 10) pa_nil)) (pv 11) (nomark _)) (pw_or1 (pt_cmpR (op_neD hr.units) (pe_meth0 (pv 7) TF.cl KY.m KY.ok hr1 KY.b .nil pass0) (pv 12) (nomark _)))))) (pss_one (ps_ret pe_bl)) pss_nil) (pss_cons (ps_if (PW.pt (pw_and (pt_cmpR op_eq (pe_ix ix_list (pv 13) pe_int (fun _ _ => rfl)) pe_str (nomark _)) (pw_and1 (pt_cmpR (op_neD hr.units) (pv 14) (pv 13) (nomark _))))) (pss_one (ps_ret pe_bl)) pss_nil) (pss_one (ps_if (pt_cmpR op_eq (pe_ix ix_list (pv 13) pe_int (fun _ _ => rfl)) pe_str (nomark _)) (pss_cons (ps_if (PW.pt (pw_or (pt_not (pt_val (pe_callG LR.ok hr hg (by rfl) LR.g LR.kp LR.b .nil pass0 (pa_cons (pe_ix ix_list (pv 13) pe_int (fun _ _ => rfl)) (pa_cons (pe_ix ix_list (pv 14) pe_int (fun _ _ => rfl)) pa_nil))))) (pw_or1 (pt_not (pt_val (pe_call IP.ok hr (by rfl) IP.g IP.kp IP.b .nil pass0 (pa_cons (pv 7) (pa_cons (pe_ix ix_list (pv 14) pe_int (fun _ _ => rfl)) (pa_cons (pv 10) pa_nil))))))))) (pss_one (ps_ret pe_bl)) pss_nil) (pss_cons (ps_if (PW.pt (pw_and (pt_val (pe_callB (cr_anyV rfl) (by rfl) BA (by decide +kernel) (pa_cons (pe_values (pv 10)) pa_nil))) (pw_and1 (PW.pt (pw_or (pt_cmpR (op_eqB rfl EQ.ok EQ.b EQ.m hr2) (pe_ix ix_list (pv 14) pe_int (fun _ _ => rfl)) (pv 7) (nomark _)) (pw_or1 (pt_cmpR (op_eqD hr.units) (pe_meth0 (pe_ix ix_list (pv 14) pe_int (fun _ _ => rfl)) TF.cl KY.m KY.ok hr1 KY.b .nil pass0) (pv 12) (nomark _)))))))) (pss_one (ps_ret pe_bl)) pss_nil) (pss_cons (ps_expr (pe_dclear (pv 10))) (pss_cons (ps_par (i := 6) (j := 7) rfl scLaw.nd rfl rfl (by decide) rfl rfl (pa_cons (pe_ix ix_list (pv 13) pe_int (fun _ _ => rfl)) (pa_cons (pe_ix ix_list (pv 14) pe_int (fun _ _ => rfl)) pa_nil)) (by rfl)) (C8.pss_cut (ps_if (pt_cmpR op_eq (pe_call TK.ok hr1 (by rfl) TK.g TK.kp TK.b .nil pass0 (pa_cons (pv 2) (pa_cons pe_int pa_nil))) pe_int (nomark _)) (pss_cons (ps_set (i := 8) scLaw.nd rfl (.inl rfl) (pe_ix ix_list (pe_call DS.ok hr3 (by rfl) DS.g DS.kp DS.b .nil pass0 (pa_cons (pv 2) (pa_cons (pv 4) (pa_cons pe_int (pa_cons (pv 3) pa_nil))))) pe_int (fun _ _ => rfl))) (pss_cons (ps_set (i := 7) scLaw.nd rfl (.inl rfl) (pe_call BK.ok hr7 (by rfl) BK.g BK.kp BK.b .nil pass0 (pa_cons (pv 7) (pa_cons (pe_lst (pa_cons (pv 8) pa_nil)) pa_nil)))) (pss_one (ps_expr (pe_call DN.ok hr1 (by rfl) DN.g DN.kp DN.b .nil pass0 (pa_cons (pv 6) (pa_cons (pv 8) pa_nil))))))) pss_nil) (pss_one (ps_if (pt_not (pt_val (pe_callG LR.ok hr hg (by rfl) LR.g LR.kp LR.b .nil pass0 (pa_cons (pv 6) (pa_cons (pv 7) pa_nil))))) (pss_one (ps_ret pe_bl)) pss_nil))))))) pss_nil)))))))))))))))) (pss_one (ps_ret pe_bl))), ?_⟩
    refine ⟨.ref a0, rfl, a0, _, rfl, .inl hS, _, _, rfl, _, _, rfl, ?_⟩
    have nb : ∃ n : Nat, n ≤ 63 ∧ (if (if (3 : Int) < ((ns.map V.int).length : Int) then (3 : Int) else ((ns.map V.int).length : Int)) > 1 then (if (3 : Int) < ((ns.map V.int).length : Int) then (3 : Int) else ((ns.map V.int).length : Int)) else 1) = (n : Int) := by
      rw [List.length_map]
      refine ⟨(if (if (3 : Int) < (ns.length : Int) then (3 : Int) else (ns.length : Int)) > 1 then (if (3 : Int) < (ns.length : Int) then (3 : Int) else (ns.length : Int)) else 1).toNat, ?_, ?_⟩ <;> (split <;> split <;> omega)
    obtain ⟨n, hn, en⟩ := nb
    refine ⟨_, congrArg (fun z => [V.int z]) en, by omega, by omega, ?_⟩
    refine for_it walk_range (fun i σ H' => ∃ y1 y2 y3 y4 y5 y6 y7 y8 y9 y10 y11 y12 y13 y14, σ = [some (.ref a0), y1, y2, y3, y4, y5, y6, y7, y8, y9, y10, y11, y12, y13, y14] ∧ Same H H') ⟨_, _, _, _, _, _, _, _, _, _, _, _, _, _, rfl, Same.refl _⟩ (fun _ _ _ _ _ => trivial) (fun i x σ H1' H1 hi hP hY => ?_) (fun σ H1 hP => q _)
    obtain ⟨rfl, rfl⟩ := hY
    obtain ⟨y1, y2, y3, y4, y5, y6, y7, y8, y9, y10, y11, y12, y13, y14, rfl, s1⟩ := hP
    have hi' : i < n := by simpa using hi
    refine ⟨.ref a0, rfl, .int (0 + i), rfl, a0, ns, _, rfl, s1.seq hS, by omega, by omega, fun p o np hp => ?_⟩
    generalize hG1 : upd H1 p o = G1 at hp
    have bt1 : But p H1 G1 := by rw [← hG1]; exact But.new np
    have fpH : H p = none := by
      cases e : H p with
      | none => rfl
      | some u =>
        have := s1 _ _ e
        rw [np] at this
        cases this
    -- size
    refine ⟨.ref p, rfl, p, 2, rfl, hp, litM _ (by decide) (by decide), fun sz G2 z0 z1 hp2 bt2 => ?_⟩
    have szOk : sz = 0 ∨ sz = 1 := by omega
    -- names
    refine ⟨.ref p, rfl, .ref p, rfl, by show 3 ≤ sizeLine; decide, fun l nl => ?_⟩
    have lp := hp2.ne nl
    have sl := same_upd (o := .lst [V.int 6, .int 6, .int 12]) nl
    have hl : upd G2 l (.lst [V.int 6, .int 6, .int 12]) l = some (.lst [V.int 6, .int 6, .int 12]) := upd_same
    have hp3 := hp2.same sl
    generalize upd G2 l (.lst [V.int 6, .int 6, .int 12]) = G3 at sl hl hp3
    refine ⟨.ref p, rfl, p, 3, rfl, hp3, litM _ (by decide) (by decide), fun u G4 u0 u1 hp4 b4 => ?_⟩
    obtain ⟨v, ev, mv⟩ := pick (xs := [V.int 6, V.int 6, V.int 12]) u0 u1
    refine ⟨l, _, _, v, rfl, rfl, .inl (.inl (b4 _ _ lp hl)), ev, ?_⟩
    have hv : ∃ mm : Int, v = .int mm ∧ 1 ≤ mm ∧ mm ≤ 12 := by
      simp only [List.mem_cons, List.not_mem_nil, or_false] at mv
      rcases mv with rfl | rfl | rfl
      · exact ⟨6, rfl, by decide, by decide⟩
      · exact ⟨6, rfl, by decide, by decide⟩
      · exact ⟨12, rfl, by decide, by decide⟩
    obtain ⟨mm, rfl, mm1, mm2⟩ := hv
    refine ⟨p, mm, rfl, hp4, litM _ (by omega) (by omega), fun t G5 t0 t1 hp5 b5 => ⟨1, t, rfl, rfl, ?_⟩⟩
    obtain ⟨mn, emn⟩ : ∃ mn : Nat, 1 + t = (mn : Nat) := ⟨(1 + t).toNat, by rw [Int.toNat_of_nonneg (by omega)]⟩
    refine ⟨p, mn, congrArg (fun z => [V.ref p, V.int z]) emn, hp5, by omega, fun r zs G6 nr rp hr6 lzs nd nm hp6 b6 => ?_⟩
    have nz : NamesOk zs := ⟨by omega, by omega, nd, nm⟩
    have b16 : But p H1 G6 := bt1.trans (bt2.trans ((same_but sl).trans (b4.trans (b5.trans b6))))
    -- deeds
    refine ⟨.ref p, rfl, .ref r, rfl, .ref p, rfl, p, 14, rfl, hp6, litM _ (by decide) (by decide), fun t2 G7 t20 t21 hp7 b7 => ⟨.int sz, rfl, ?_⟩⟩
    have hr7' := b7 _ _ rp hr6
    refine ⟨p, r, zs, t2.toNat, sz, (by rw [Int.toNat_of_nonneg t20]; rfl), szOk, hp7, rp, hr7', nz.n0, by have := nz.n1; omega, by omega, fun dl xs ds G8 ndl dlp hdl8 dd8 lds ods hp8 b8 => ?_⟩
    have hr8' := b8 _ _ rp hr7'
    -- model
    refine ⟨.ref r, rfl, r, zs, rfl, hr8', nd, by have := nz.n1; omega, fun m G9 s9 na hM9 => ?_⟩
    have hp9 := hp8.same s9
    have hr9' := s9 _ _ hr8'
    have hdl9 := s9 _ _ hdl8
    have dd9 := DtAll.same s9 _ dd8
    have nap : ¬ m.Has p := fun h => by
      obtain ⟨px, py, pe, _⟩ := hp8
      have := na p h
      rw [pe] at this
      cases this
    have nar : ¬ m.Has r := fun h => by
      have := na r h
      rw [hr8'] at this
      cases this
    have nadl : ¬ m.Has dl := fun h => by
      have := na dl h
      rw [hdl8] at this
      cases this
    have b18 : But p H1 G8 := b16.trans (b7.trans b8)
    have sm8 : Same H G8 := fun c o e => b18 c o (fun z => by rw [z, fpH] at e; cases e) (s1 c o e)
    have sm9 := sm8.trans s9
    have fm : ∀ c, m.Has c → H c = none := fun c hc => sm8.free (na c hc)
    -- book
    refine ⟨.ref r, rfl, r, _, rfl, .inl (.inl (.inl hr9')), fun r2 nr2 => ?_⟩
    have sf := same_upd (o := .lst (zs.map V.str)) nr2
    have hr2x : upd G9 r2 (.lst (zs.map V.str)) r2 = some (.lst (zs.map V.str)) := upd_same
    generalize upd G9 r2 (.lst (zs.map V.str)) = G10 at sf hr2x
    refine fun xb dy nx ndy nxy => ?_
    have sx : Same G10 (upd (upd G10 dy (.own xb)) xb (.ins C dy [])) := fun c o e => by
      rw [upd_ne (ne_of_none e nx), upd_ne (ne_of_none e ndy)]
      exact e
    refine ⟨xb, dy, r2, zs, rfl, upd_same, sx _ _ hr2x, nz, fun G11 b11 bk => ⟨rfl, ?_⟩⟩
    have s911 : Same G9 G11 := sf.trans fun c o e => b11 c o (ne_of_none e nx) (sx c o e)
    have b0 : BookAt K C G11 xb (bkOf zs (mdAt zs [])) := bk
    have ok0 := (Gd.new (zs := zs)).ok nz List.length_replicate List.length_replicate
    have my0 : manyM (bkOf zs (mdAt zs [])) ≤ 0 := (Gd.new (zs := zs)).my
    refine ⟨.ref dl, rfl, xb, _, dl, xs, ds, rfl, b0, ok0, s911 _ _ hdl9, DtAll.same s911 _ dd9, ods, by omega, fun b G12 s12 hb12 => ?_⟩
    have eb : List.foldl stepM (bkOf zs (mdAt zs [])) ds = bkOf zs (mdAt zs ds) := fold_eq zs ds (newMd zs.length)
    rw [eb] at hb12
    have s912 := s911.trans s12
    have hM12 := model_same hM9 s912
    have hp12 := hp9.same s912
    have hr12 := s912 _ _ hr9'
    have hdl12 := s912 _ _ hdl9
    have dd12 := DtAll.same s912 _ dd9
    have sm12 := sm9.trans s912
    have lx : xs.length = ds.length := by
      rw [dd12.len]
      unfold deedsD
      rw [List.length_map]
    have lds' : ds.length ≤ 13 := by omega
    refine ⟨_, _, rfl, ?_⟩
    have fh : ∀ {c : Addr}, m.Foot c → m.Has c := fun {c} f => by
      rcases f with rfl | f
      · exact .inr (.inr (.inl rfl))
      · exact .inr (.inr (.inr (.inr (.inr f))))
    refine ⟨.ref dl, rfl, dl, rfl, ⟨_, .inl (.inl hdl12)⟩, ?_⟩
    refine for_it (walk_list (K := K) (a := dl) (xs := xs)) (fun j σ H' => ∃ y8, σ = [some (.ref a0), some (.int (0 + i)), some (.ref p), some (.int sz), some (.ref r), some (.ref dl), some (.ref m.m), some (.ref b), y8, y9, y10, y11, y12, y13, y14] ∧ ButF m G12 H' ∧ ModelAt K H' zs m (mdAt zs (ds.take j))) ⟨_, rfl, (fun _ _ _ e => e), hM12⟩ (fun j σ H' _ hP => ?_) (fun j y σ He' He hj hP hY => ?_) (fun σ He hP => ?_)
    · obtain ⟨_, _, bf, _⟩ := hP
      exact .inl (.inl (bf _ _ (fun f => nadl (fh f)) hdl12))
    · obtain ⟨rfl, hx⟩ := hY
      obtain ⟨y8', rfl, bf, hMe⟩ := hP
      have hje : j < ds.length := by omega
      obtain ⟨v', gx, dx0⟩ := dd12.get (n := j) (d := deedD ds[j]) (map_get (List.getElem?_eq_getElem hje))
      rw [hx] at gx
      cases gx
      have dx := Dt.keepT (bf.kt hM12) _ (tup_deed _) dx0
      have gdj := md_at_good (zs := zs) (ds := ds.take j) (fun d hd => ods d (List.mem_of_mem_take hd)) (by rw [List.length_take]; omega)
      refine ⟨.ref m.m, rfl, y, rfl, m, _, zs, y, ds[j], rfl, hMe, dx, ods _ (List.getElem_mem hje), by have := nz.n1; omega, gdj.rows, fun Hf bff hMf => ⟨_, rfl, fun b o nn e => bff b o nn (bf b o nn e), ?_⟩⟩
      unfold mdAt
      rw [take_succ hje, List.foldl_append]
      exact hMf
    obtain ⟨y8', rfl, bf, hMe⟩ := hP
    rw [lx, List.take_length] at hMe
    have gd := md_at_good (zs := zs) (ds := ds) ods (by omega)
    have g0 := gd.gs nz hMe.lg hMe.ln
    have gb0 := gd.gb
    have bd0 := bd_up gd.bd lds'
    have hbe : BookAt K C He b (bkOf zs (mdAt zs ds)) := hb12.keep (bf.kp hM12)
    have st0 : St17 K C H He p r b zs m (mdAt zs ds) 13 := by
      refine ⟨fun c o e => bf c o (fun f => by have := fm c (fh f); rw [e] at this; cases this) (sm12 c o e), fpH, fm, ?_, bf _ _ (fun f => nar (fh f)) hr12, hMe, hbe, g0, gb0, bd0, nap, nar, rp⟩
      obtain ⟨px, py, pe, pr⟩ := hp12
      exact ⟨px, py, bf _ _ (fun f => nap (fh f)) pe, pr⟩
    generalize mdAt zs ds = D0 at st0
    clear g0 gb0 bd0 hbe gd hMe hb12 eb
    refine ⟨.ref p, rfl, p, 8, rfl, st0.hp, litM _ (by decide) (by decide), fun t3 G13 t30 t31 hp13 b13 => ⟨1, t3, rfl, rfl, ?_⟩⟩
    obtain ⟨n2, hn2, en2⟩ : ∃ n2 : Nat, n2 ≤ 8 ∧ 1 + t3 = (n2 : Int) := ⟨(1 + t3).toNat, by omega, by rw [Int.toNat_of_nonneg (by omega)]⟩
    refine ⟨n2, congrArg (fun z => [V.int z]) en2, by omega, by omega, ?_⟩
    have st1 := st0.but b13 hp13
    refine for_it walk_range (fun j σ H' => ∃ (m' : MdA) (b' : Addr) (D : Md) (y8 y9 y10 y11 y12 y13 y14 : Option V), σ = [some (.ref a0), some (.int (0 + i)), some (.ref p), some (.int sz), some (.ref r), some (.ref dl), some (.ref m'.m), some (.ref b'), y8, y9, y10, y11, y12, y13, y14] ∧ St17 K C H H' p r b' zs m' D (13 + j)) ⟨m, b, D0, _, _, _, _, _, _, _, rfl, st1⟩ (fun _ _ _ _ _ => trivial) (fun j x2 σ H1' Hs hj hP hY => ?_) (fun σ He hP => ?_)
    · obtain ⟨rfl, rfl⟩ := hY
      obtain ⟨m', b', D, z8, z9, z10, z11, z12, z13, z14, rfl, st⟩ := hP
      have hj' : j < 8 := by
        have : j < n2 := by simpa using hj
        omega
      have hM := st.hM
      -- more, spoilt
      refine ⟨.ref p, rfl, .ref m'.m, rfl, .ref p, rfl, .ref m'.m, rfl, p, m', D, zs, rfl, st.hp, hM, st.nap, st.g, st.gb, fun d0 ps0 Ha bta hpa nd0 d0p hd0 mo0 => ?_⟩
      have sta := st.but bta hpa
      refine ⟨p, d0, m', D, zs, ps0, rfl, hpa, sta.hM, st.nap, st.g, st.gb, d0p, hd0, mo0, fun v Hb hpb btb spt fr => ?_⟩
      have stb := sta.but btb hpb
      obtain ⟨⟨oo, thg⟩, kz, shown⟩ := spt
      have naM : ∀ d, v = .ref d → ¬ m'.Has d := fun d e h => by
        have h1 := (fr d e).1
        have : ∃ o, Ha d = some o := by
          rcases h with rfl | rfl | rfl | rfl | rfl | h
          · exact ⟨_, sta.hM.hm⟩
          · exact ⟨_, sta.hM.ho⟩
          · exact ⟨_, sta.hM.hg⟩
          · exact ⟨_, sta.hM.hf⟩
          · exact ⟨_, sta.hM.hn⟩
          · obtain ⟨i', ei⟩ := List.mem_iff_getElem?.mp h
            have hl' := (List.getElem?_eq_some_iff.mp ei).1
            obtain ⟨xs', e', _⟩ := sta.hM.rows i' d (D.notes[i']'(by rw [sta.hM.ln, ← sta.hM.lr]; exact hl')) ei (List.getElem?_eq_getElem _)
            exact ⟨_, e'⟩
        obtain ⟨o, e2⟩ := this
        rw [h1] at e2
        cases e2
      have frH : ∀ d, v = .ref d → H d = none ∧ d ≠ p := fun d e => ⟨sta.sm.free (fr d e).1, (fr d e).2⟩
      -- kept, key
      refine ⟨v, rfl, shown Hb (But.refl _ _) _ ?_⟩
      obtain ⟨dx, tn, on, wg, ws, wd, e, _⟩ := stb.hb.ex
      refine ⟨.ref b', rfl, b', dx, _, rfl, e, bf_no (NoF.mk' (by decide +kernel)), b', _, rfl, stb.hb, fun kv Hc sc dk => ⟨_, _, rfl, ?_⟩⟩
      have stc := stb.same sc
      have btc : But p Hb Hc := same_but sc
      -- wanted
      refine ⟨fun σ' He => ∃ Lw Lt, σ' = [some (V.ref a0), some (V.int (0 + i)), some (V.ref p), some (V.int sz), some (V.ref r), some (V.ref dl), some (V.ref m'.m), some (V.ref b'), z8, some (V.int (0 + j)), some v, some (V.str kz), some kv, some (V.ref Lw), some (V.ref Lt)] ∧ St17 K C H He p r b' zs m' D (13 + j) ∧ But p Hb He ∧ Dt K He kv (keyD (bkOf zs D)) ∧ Out17 K C H He p r zs m' D v Lw Lt, ?_, ?_⟩
      · refine ⟨.ref m'.m, rfl, v, rfl, m', D, zs, v, oo, rfl, stc.hM, st.g, st.gb, thg Hc btc, naM, fun eo Lw Hd sd nLw hLw => ?_, fun ps eo => ⟨fun z Lw Hd sh sd nLw hLw => ?_, fun m1 df Lw Hd cs sd nm1 ndf nLw hM1 hLw => ?_⟩⟩
        · have std := stc.same sd
          have btd : But p Hb Hd := btc.trans (same_but sd)
          refine ⟨.ref b', rfl, v, rfl, b', _, v, oo, rfl, std.hb, st.g.ok, thg Hd btd, fun _ Lt He se nLt hLt => ?_, fun ps e => by rw [eo] at e; cases e⟩
          exact ⟨_, _, rfl, _, _, rfl, std.same se, btd.trans (same_but se), Dt.same (sd.trans se) _ dk, .no (t0 := "no vector") (ts := []) (by decide) (fun t ht => by rw [List.mem_singleton.mp ht]; decide +kernel) (se _ _ hLw) hLt⟩
        · have std := stc.same sd
          have btd : But p Hb Hd := btc.trans (same_but sd)
          refine ⟨.ref b', rfl, v, rfl, b', _, v, oo, rfl, std.hb, st.g.ok, thg Hd btd, (fun e => by rw [eo] at e; cases e), fun ps' e => ?_⟩
          rw [eo] at e
          cases e
          refine ⟨fun z' Lt He sh' se nLt hLt => ?_, fun b1 Lt He cs se nb1 nLt hb1 hLt => ?_⟩
          · obtain rfl := short_one sh sh'
            have az : Asc z := by
              obtain ⟨i', a1, _⟩ := sh
              exact name_asc (st.g.nz.nm z (List.mem_of_getElem? (show zs[i']? = some z from a1)))
            exact ⟨_, _, rfl, _, _, rfl, std.same se, btd.trans (same_but se), Dt.same (sd.trans se) _ dk, .no (t0 := "short") (ts := [z]) (by decide) (fun t ht => by
              simp only [List.mem_cons, List.not_mem_nil, or_false] at ht
              rcases ht with rfl | rfl
              · decide +kernel
              · exact az) (se _ _ hLw) hLt⟩
          · obtain ⟨i', a1, a2, _⟩ := sh
            have := cs i' z a1
            omega
        · have std := stc.same sd
          have btd : But p Hb Hd := btc.trans (same_but sd)
          refine ⟨.ref b', rfl, v, rfl, b', _, v, oo, rfl, std.hb, st.g.ok, thg Hd btd, (fun e => by rw [eo] at e; cases e), fun ps' e => ?_⟩
          rw [eo] at e
          cases e
          refine ⟨fun z' Lt He sh' se nLt hLt => ?_, fun b1 Lt He cs' se nb1 nLt hb1 hLt => ?_⟩
          · obtain ⟨i', a1, a2, _⟩ := sh'
            have := cs i' z' a1
            omega
          · have thc := thg Hc btc
            rw [eo] at thc
            obtain ⟨d, ed, hd, rm⟩ : ∃ d, v = .ref d ∧ Hc d = some (.dK (moreK ps)) ∧ RightM (bkOf zs D) ps := by
              cases thc with
              | rgt a b => exact ⟨_, rfl, a, b⟩
            have s2 := sd.trans se
            have nH : ∀ c, Hc c = none → H c = none ∧ c ≠ p ∧ c ≠ r ∧ c ≠ d := fun c e => ⟨stc.sm.free e, stc.hp.ne e, (ne_of_none stc.hr e).symm, (ne_of_none hd e).symm⟩
            obtain ⟨q1, q2, q3, q4⟩ := nH m1 nm1
            obtain ⟨w1, w2, w3, w4⟩ := nH df ndf
            exact ⟨_, _, rfl, _, _, rfl, std.same se, btd.trans (same_but se), Dt.same s2 _ dk, .told ed (s2 _ _ hd) rm cs (se _ _ hLw) hLt (model_same hM1 se) q1 w1 q2 w2 q3 w3 q4 w4 hb1⟩
      · rintro σ' He ⟨Lw, Lt, rfl, ste, bte, dke, out⟩
        obtain ⟨t0, xw, xt, hLw, hLt⟩ : ∃ (t0 : Str) (xw xt : List V), He Lw = some (.lst (.str t0 :: xw)) ∧ He Lt = some (.lst (.str t0 :: xt)) := by
          cases out with
          | no _ _ a b => exact ⟨_, _, _, a, b⟩
          | told _ _ _ _ a b => exact ⟨_, _, _, a, b⟩
        refine ⟨.ref Lt, rfl, Lt, _, 0, .str t0, rfl, rfl, .inl (.inl hLt), atI_nat (j := 0) rfl, .ref Lw, rfl, Lw, _, 0, .str t0, rfl, rfl, .inl (.inl hLw), atI_nat (j := 0) rfl, rfl, _, rfl, iteNS rfl ?_⟩
        refine ⟨v, rfl, shown He bte _ ⟨.str kz, rfl, rfl, _, rfl, iteNS rfl ?_⟩⟩
        obtain ⟨dx2, tn2, on2, wg2, ws2, wd2, e2, _⟩ := ste.hb.ex
        refine ⟨.ref b', rfl, b', dx2, _, rfl, e2, bf_no (NoF.mk' (by decide +kernel)), b', _, rfl, ste.hb, fun kv2 Hf sf dk2 => ?_⟩
        have stf := ste.same sf
        have btf : But p Hb Hf := bte.trans (same_but sf)
        have dkf := Dt.same sf _ dke
        refine ⟨kv, rfl, keyD (bkOf zs D), keyD (bkOf zs D), Dt.dp _ (tup_key _) dk2, Dt.dp _ (tup_key _) dkf, st.g.key, st.g.key, _, rfl, ?_⟩
        rw [key_eqv st.g.key]
        refine iteF ?_
        have hLwf := sf _ _ hLw
        have hLtf := sf _ _ hLt
        refine ⟨.ref Lw, rfl, Lw, _, 0, .str t0, rfl, rfl, .inl (.inl hLwf), atI_nat (j := 0) rfl, rfl, _, rfl, ?_⟩
        cases out with
        | @no t0' ts nt at0 hw ht =>
          obtain ⟨rfl, rfl⟩ : t0 = t0' ∧ xw = ts.map V.str := by
            rw [hLw] at hw
            cases hw
            exact ⟨rfl, rfl⟩
          have hwf : Hf Lw = some (.lst ((t0 :: ts).map V.str)) := sf _ _ hw
          have htf : Hf Lt = some (.lst ((t0 :: ts).map V.str)) := sf _ _ ht
          by_cases c0 : t0 = ("short" : Str)
          · rw [if_pos (decide_eq_true (congrArg V.str c0))]
            refine ⟨.ref Lt, rfl, .ref Lw, rfl, .list ((t0 :: ts).map PyData.str), .list ((t0 :: ts).map PyData.str), strs_dp12 htf, strs_dp12 hwf, shaped12 at0, shaped12 at0, _, rfl, ?_⟩
            rw [eqv_strs, decide_eq_true rfl]
            refine iteF ?_
            refine ⟨.ref Lw, rfl, Lw, _, 0, .str t0, rfl, rfl, .inl (.inl hwf), atI_nat (j := 0) rfl, rfl, _, rfl, ?_⟩
            rw [decide_eq_false (fun e => nt (V.str.inj e))]
            exact iteF ⟨m', b', D, _, _, _, _, _, _, _, rfl, stf.up (by omega)⟩
          · rw [if_neg (fun e => c0 (V.str.inj (of_decide_eq_true e)))]
            refine ⟨.ref Lw, rfl, Lw, _, 0, .str t0, rfl, rfl, .inl (.inl hwf), atI_nat (j := 0) rfl, rfl, _, rfl, ?_⟩
            rw [decide_eq_false (fun e => nt (V.str.inj e))]
            exact iteF ⟨m', b', D, _, _, _, _, _, _, _, rfl, stf.up (by omega)⟩
        | @told d ps m1 df b1 ev hd rm cs hw ht hM1 fm1 fdf mp1 dfp mr1 dfr md1 dfd hb1 =>
          obtain ⟨rfl, rfl⟩ : t0 = ("told" : Str) ∧ xw = [.ref m1] := by
            rw [hLw] at hw
            cases hw
            exact ⟨rfl, rfl⟩
          obtain rfl : xt = [.ref b1] := by
            rw [hLt] at ht
            cases ht
            rfl
          rw [if_neg (by decide +kernel)]
          refine ⟨.ref Lw, rfl, Lw, _, 0, _, rfl, rfl, .inl (.inl hLwf), atI_nat (j := 0) rfl, rfl, _, rfl, ?_⟩
          rw [decide_eq_true rfl]
          refine iteT ?_
          have hM1f := model_same hM1 sf
          have hb1f := book_same hb1 sf
          have hdf := sf _ _ hd
          obtain ⟨g1, gb1, bd1⟩ := fell_ok stf.g stf.gb stf.bd rm cs
          refine ⟨.ref Lw, rfl, Lw, _, 1, .ref m1, rfl, rfl, .inl (.inl hLwf), atI_nat (j := 1) rfl, .ref Lt, rfl, Lt, _, 1, .ref b1, rfl, rfl, .inl (.inl hLtf), atI_nat (j := 1) rfl, ⟨m1, m'.lo, m'.dg, df, m'.dn, m'.rs⟩, fellA zs D ps, zs, b1, rfl, hM1f, hb1f, g1, gb1, fun Hg sg => ?_⟩
          subst ev
          have l100 : ps.length ≤ 100 := by
            have h1 := nd_len rm.nd (m := zs) (fun z hz => by
              obtain ⟨q, hq, rfl⟩ := List.mem_map.mp hz
              obtain ⟨j, _, _, a1, _⟩ := rm.kd q hq
              exact List.mem_of_getElem? a1)
            rw [List.length_map] at h1
            have := nz.n1
            omega
          have stg := stf.same sg
          refine ⟨_, rfl, iteF ⟨.ref b', rfl, .ref Lt, rfl, Lt, _, 1, .ref b1, rfl, rfl, .inl (.inl (sg _ _ hLtf)), atI_nat (j := 1) rfl, .ref d, rfl, b', b1, d, bkOf zs D, ps, rfl, stg.hb, stg.g.ok, sg _ _ hdf, rm, l100, cs, book_same hb1f sg, g1.key, fun Hh sh => ⟨_, rfl, iteF ?_⟩⟩⟩
          have sth := stg.same sh
          have sgh := sg.trans sh
          have hM1h := model_same hM1f sgh
          have hb1h := book_same hb1f sgh
          have hdh := sgh _ _ hdf
          have hLth := sgh _ _ hLtf
          have hLwh := sgh _ _ hLwf
          have dkh := Dt.same sgh _ dkf
          delta tNext
          dsimp only
          delta tSeq
          dsimp only
          refine by_no (Same Hh) (fun Q' hQ => ?_) ?_
          · refine ⟨.ref d, rfl, d, _, rfl, hdh, fun q nq => ?_⟩
            have sq := same_upd (o := valsO q d) nq
            refine ⟨q, d, moreK ps, ps.map (·.2), rfl, upd_same, sq _ _ hdh, vals_more ps, ⟨_, rfl, ?_⟩⟩
            by_cases ca : ((ps.map (·.2)).any fun n => n != 0) = true
            · rw [ca]
              refine iteT ⟨.ref Lt, rfl, Lt, _, 1, .ref b1, rfl, rfl, .inl (.inl (sq _ _ hLth)), atI_nat (j := 1) rfl, .ref b', rfl, b1, b', fallM (bkOf zs D) ps, bkOf zs D, rfl, rfl, book_same hb1h sq, book_same sth.hb sq, g1.key, sth.g.key, fun Hi si => ?_⟩
              have ne : PyData.eqv (keyD (fallM (bkOf zs D) ps)) (keyD (bkOf zs D)) = false := fell_other ste.g rm ca
              refine ⟨PyData.eqv (keyD (fallM (bkOf zs D) ps)) (keyD (bkOf zs D)), rfl, ?_⟩
              rw [ne]
              have hb1i := book_same hb1h (sq.trans si)
              obtain ⟨dx3, tn3, on3, wg3, ws3, wd3, e3, _⟩ := hb1i.ex
              refine iteF ⟨.ref Lt, rfl, Lt, _, 1, .ref b1, rfl, rfl, .inl (.inl (si _ _ (sq _ _ hLth))), atI_nat (j := 1) rfl, b1, dx3, _, rfl, e3, bf_no (NoF.mk' (by decide +kernel)), b1, _, rfl, hb1i, fun kv3 Hj sj dk3 => ⟨kv, rfl, _, _, Dt.dp _ (tup_key _) dk3, Dt.dp _ (tup_key _) (Dt.same (sq.trans (si.trans sj)) _ dkh), g1.key, sth.g.key, _, rfl, ?_⟩⟩
              rw [ne]
              exact hQ _ (sq.trans (si.trans sj))
            · rw [Bool.not_eq_true _ |>.mp ca]
              exact iteF (hQ _ sq)
          · intro Hz szz
            have stz := sth.same szz
            have hdz := szz _ _ hdh
            have hLtz := szz _ _ hLth
            have hLwz := szz _ _ hLwh
            obtain ⟨fd, dp⟩ := frH d rfl
            have bw : But d Hz (upd Hz d (.dK [])) := fun c o n e => by
              rw [upd_ne n]
              exact e
            have hc : ∀ c, (⟨m1, m'.lo, m'.dg, df, m'.dn, m'.rs⟩ : MdA).Has c → c = m1 ∨ c = df ∨ m'.Has c := fun c h => by
              rcases h with h | h | h | h | h | h
              · exact .inl h
              · exact .inr (.inr (.inr (.inl h)))
              · exact .inr (.inr (.inr (.inr (.inl h))))
              · exact .inr (.inl h)
              · exact .inr (.inr (.inr (.inr (.inr (.inr (.inl h))))))
              · exact .inr (.inr (.inr (.inr (.inr (.inr (.inr h))))))
            have stn : St17 K C H Hz p r b1 zs ⟨m1, m'.lo, m'.dg, df, m'.dn, m'.rs⟩ (fellA zs D ps) (13 + j) := by
              refine ⟨stz.sm, stz.fp, fun c h => ?_, stz.hp, stz.hr, model_same hM1h szz, book_same hb1h szz, g1, gb1, bd1, fun h => ?_, fun h => ?_, stz.rp⟩
              · rcases hc c h with rfl | rfl | h
                · exact fm1
                · exact fdf
                · exact stz.fm c h
              · rcases hc p h with e | e | h
                · exact mp1 e.symm
                · exact dfp e.symm
                · exact stz.nap h
              · rcases hc r h with e | e | h
                · exact mr1 e.symm
                · exact dfr e.symm
                · exact stz.nar h
            have stk := stn.butD bw hdz fd dp (fun h => by
              rcases hc d h with e | e | h
              · exact md1 e.symm
              · exact dfd e.symm
              · exact naM d rfl h)
            have hLw2 := bw _ _ (fun z => by rw [z, hdz] at hLwz; cases hLwz) hLwz
            have hLt2 := bw _ _ (fun z => by rw [z, hdz] at hLtz; cases hLtz) hLtz
            refine ⟨.ref d, rfl, d, _, rfl, hdz, ?_⟩
            generalize upd Hz d (.dK []) = Hk at stk hLw2 hLt2
            refine ⟨.ref Lw, rfl, Lw, _, 1, .ref m1, rfl, rfl, .inl (.inl hLw2), atI_nat (j := 1) rfl, .ref Lt, rfl, Lt, _, 1, .ref b1, rfl, rfl, .inl (.inl hLt2), atI_nat (j := 1) rfl, _, _, rfl, ?_⟩
            generalize hma : (⟨m1, m'.lo, m'.dg, df, m'.dn, m'.rs⟩ : MdA) = ma at stk
            obtain rfl : m1 = ma.m := by rw [← hma]
            generalize fellA zs D ps = D1 at stk
            refine ⟨fun σ' Hx => ∃ (b2 : Addr) (D2 : Md) (y8 : Option V), σ' = [some (V.ref a0), some (V.int (0 + i)), some (V.ref p), some (V.int sz), some (V.ref r), some (V.ref dl), some (V.ref ma.m), some (V.ref b2), y8, some (V.int (0 + j)), some (.ref d), some (V.str kz), some kv, some (V.ref Lw), some (V.ref Lt)] ∧ St17 K C H Hx p r b2 zs ma D2 (13 + (j + 1)), ?_, ?_⟩
            · refine ⟨.ref p, rfl, p, 3, rfl, stk.hp, litM _ (by decide) (by decide), fun u5 Hl u50 u51 hpl btl => ⟨rfl, _, rfl, ?_⟩⟩
              have stl := stk.but btl hpl
              by_cases cu : u5 = 0
              · rw [decide_eq_true (congrArg V.int cu)]
                refine iteT ⟨.ref p, rfl, .ref r, rfl, .int sz, rfl, p, r, zs, 1, sz, rfl, szOk, hpl, stl.rp, stl.hr, nz.n0, by have := nz.n1; omega, by omega, fun dl2 xs2 ds2 Hm ndl2 dlp2 hdl2 dd2 ld2 od2 hpm btm => ?_⟩
                have stm := stl.but btm hpm
                obtain ⟨dd, rfl⟩ := List.length_eq_one_iff.mp ld2
                obtain ⟨y, gx, dx0⟩ := dd2.get (n := 0) (d := deedD dd) rfl
                have odd := od2 dd List.mem_cons_self
                refine ⟨dl2, _, 0, y, rfl, rfl, .inl (.inl hdl2), atI_nat (j := 0) gx, ?_⟩
                have my1 : manyM (bkOf zs D1) ≤ 13 + j := stm.bd.my
                refine ⟨.ref b1, rfl, y, rfl, by show 1 ≤ sizeLine; decide, fun l2 nl2 => ?_⟩
                have sl2 := same_upd (o := .lst [y]) nl2
                have hl2 : upd Hm l2 (.lst [y]) l2 = some (.lst [y]) := upd_same
                generalize upd Hm l2 (.lst [y]) = Hn at sl2 hl2
                have st5 := stm.same sl2
                refine ⟨b1, _, l2, [y], [dd], rfl, st5.hb, st5.g.ok, hl2, .cons (Dt.same sl2 _ dx0) .nil, od2, by show manyM (bkOf zs D1) + 1 ≤ 60; omega, fun b2 Ho so hb2 => ?_⟩
                have st6 := st5.same so
                refine ⟨.ref ma.m, rfl, y, rfl, ma, D1, zs, y, dd, rfl, st6.hM, Dt.same so _ (Dt.same sl2 _ dx0), odd, by have := nz.n1; omega, st6.g.rows, fun Hq bf hMq => ⟨b2, _, _, rfl, st6.done hb2 odd (by omega) bf hMq⟩⟩
              · rw [decide_eq_false (fun e => cu (V.int.inj e))]
                exact iteF ⟨b1, D1, _, rfl, stl.up (by omega)⟩
            · rintro σ' Hx ⟨b2, D2, y8, rfl, stx⟩
              exact ⟨.ref ma.m, rfl, .ref b2, rfl, ma, D2, zs, b2, rfl, stx.hM, stx.hb, stx.g, stx.gb, fun Hy sy => ⟨_, rfl, iteF ⟨ma, b2, D2, _, _, _, _, _, _, _, rfl, stx.same sy⟩⟩⟩
    · obtain ⟨m', b', D, z8, z9, z10, z11, z12, z13, z14, rfl, st⟩ := hP
      exact ⟨_, _, _, _, _, _, _, _, _, _, _, _, _, _, rfl, st.sm⟩
end
end Rc

namespace Rc
open PySem PySem.Spec PyProof.Rows L2
theorem fnOr {P : Program} {w : World} {K : PySem.W.Frag} {mg : Str → Option Value} {base : Heap} {CX : CXT} {k : Nat} {f : Addr} {fd : FuncData} {ps : List Str} {sp sp' : Sp} (F : FnOk P w K mg base CX k f fd ps sp) (G : FnOk P w K mg base CX k f fd ps sp') :
    FnOk P w K mg base CX k f fd ps (fun vs H Q E => sp vs H Q E ∨ sp' vs H Q E) :=
  ⟨fun vs H Q E h => h.elim (F.len vs H Q E) (G.len vs H Q E), fun A outer s H args us vs Q E hr he hb hv hs => hs.elim (F.run A outer s H args us vs Q E hr he hb hv) (G.run A outer s H args us vs Q E hr he hb hv)⟩
end Rc

namespace Rc
open PySem PySem.Spec PyProof.Rows L2
theorem all1 {p : Str → Prop} {a : Str} (h : p a) : ∀ f ∈ [a], p f := fun f hf => by rw [List.mem_singleton.mp hf]; exact h
theorem all2 {p : Str → Prop} {a b : Str} (h : p a) (h' : p b) : ∀ f ∈ [a, b], p f := fun f hf => by
  rcases List.mem_cons.mp hf with e | e
  · rw [e]; exact h
  · rw [List.mem_singleton.mp e]; exact h'
/-- the top's facts of an own exception class -/
theorem mkCx {P : Program} {K : PySem.W.Frag} {h : Heap} {mg : Str → Option Value} {nm : Str} {st : Stmt} {fs : List Str} {B newId initId : String} {bmB : List Value} {C : Addr} (X : K.In h) (G : h.Ns mainGlobals mg)
    {fI : Addr} {oc : Value} {od : Option Addr} {qual : Str} {doc pm : Value} {an : Option Addr} {cda : Addr} {ct : Value} {cc : Addr} {osl : Array (Option Value)} {cl : Value} {cld : Option Addr} {csl : Array (Option Value)} {ccl : Value} {cdd : Option Addr} {vs : Array Value} {ccs : Array (Option Value)} {file : Str} {tf : Tok}
    (a : PySem.W.nsIn K mainGlobals nm = some (some (.ref C))) (a1 : PySem.W.excInitIn K C bmB newId = true) (a2 : PySem.W.excOver K C bmB = true) (a3 : PySem.W.hasDictIn K C = true)
    (a4 : PySem.W.findIn K (.ref C) "__setattr__" = some (some (.builtin "object.__setattr__"))) (a5 : PySem.W.findIn K (.ref C) "__getattribute__" = some (some (.builtin "BaseException.__getattribute__"))) (a6 : PySem.W.findIn K (.ref C) "__getattr__" = some none)
    (a7 : ∀ f ∈ fs, PySem.W.findIn K (.ref C) f = some none) (a8 : PySem.W.keepIn K (.ref C) = true) (a9 : PySem.W.subIn K (.ref C) (.type "BaseException") = some true) (b1 : PySem.W.typeIn K (.ref C) = some (.type "type")) (b2 : PySem.W.subIn K (.ref C) (.type B) = some true)
    (b3 : PySem.W.mroIn K C (.ref C) = some true) (b4 : PySem.W.nsIn K cStatics "thirdparty.any" = some none) (b5 : PySem.W.ks_superIn K C C "__init__" = some (some (.builtin initId))) (b6 : PySem.W.nsIn K mainGlobals "super" = some none) (b7 : (P.main.scope.names.lookup ("super" : Str)).isSome = false)
    (i1 : PySem.W.findIn K (.ref C) "__init__" = some (some (.ref fI))) (i2 : PySem.W.typeIn K (.ref fI) = some (.type "function"))
    (i3 : K.lookup fI = some ⟨oc, od, .func (PySem.W.ksFn "__init__" qual (defArgs st) (defBody st) (defScope st) .none .none doc pm an (.ref cda) ct cc), osl⟩) (i4 : PySem.W.codeIn K (.ref cda) qual = true)
    (i5 : K.lookup cc = some ⟨cl, cld, .cell (some (.ref C)), csl⟩) (i6 : K.lookup cda = some ⟨ccl, cdd, .fields vs, ccs⟩) (i7 : vs[2]? = some (.str file tf)) (i8 : ((P.main.file : Str) == file) = true) : EX.Cx' P K mg nm st fs B newId initId bmB C :=
  ⟨PySem.W.mg_of X G a, a1, a2, a3, a4, a5, a6, a7, a8, a9, b1, b2, b3, b4, b5, PySem.W.mg_none_of X G b6, b7, fI, oc, od, qual, doc, pm, an, cda, ct, cc, osl, i1, i2, i3, i4, ⟨_, _, _, i5⟩, _, _, _, _, _, _, i6, i7, i8⟩
theorem mkClsB {K : PySem.W.Frag} {h : Heap} {mg : Str → Option Value} {CB CN : Addr} (X : K.In h) (G : h.Ns mainGlobals mg) (a : PySem.W.nsIn K mainGlobals "BookError" = some (some (.ref CB))) (a1 : PySem.W.subIn K (.ref CB) (.type "BaseException") = some true) (a2 : PySem.W.hasDictIn K CB = true)
    (a3 : PySem.W.typeIn K (.ref CB) = some (.type "type")) (a4 : PySem.W.subIn K (.ref CN) (.ref CB) = some false) (a5 : PySem.W.subIn K (.ref CN) (.ref CN) = some true) (a6 : PySem.W.kitOne K (.ref CN) (.ref CB) = some false) (a7 : PySem.W.kitOne K (.ref CN) (.type "LookupError") = some true)
    (a8 : PySem.W.nsIn K mainGlobals "LookupError" = some none) (a9 : PySem.W.findIn K (.ref CN) "__class__" = some (some (.builtin "object.__class__"))) (b1 : PySem.W.specialIn K (.builtin "object.__class__") "__get__" = some (some (.builtin "getset_descriptor.__get__")))
    (b2 : PySem.W.takesIn K (.builtin "object.__class__") = some true) (b3 : PySem.W.mroIn K CN (.type "object") = some true) : ClsB K mg CB CN :=
  ⟨PySem.W.mg_of X G a, a1, a2, a3, a4, a5, a6, a7, PySem.W.mg_none_of X G a8, a9, b1, b2, b3⟩
end Rc

namespace Rc
open PySem PySem.Spec PyProof.Rows L2 RZ
theorem mkClsE {K : PySem.W.Frag} {C : Addr} (a : PySem.W.findIn K (.ref C) "__class__" = some (some (.builtin "object.__class__"))) (n : PySem.W.specialIn K (.builtin "object.__class__") "__get__" = some (some (.builtin "getset_descriptor.__get__")))
    (t : PySem.W.takesIn K (.builtin "object.__class__") = some true) (m : PySem.W.mroIn K C (.type "object") = some true) (e : PySem.W.findIn K (.ref C) "__ne__" = some (some (.builtin "object.__ne__"))) : ClsE K C := ⟨a, n, t, m, e⟩
end Rc

namespace Rc
open PySem PySem.Spec PyProof.Rows L2 RZ
structure Blt5 (mg : Str → Option Value) : Prop where
  any : mg "any" = none
theorem FnOk.up {P : Program} {w : World} {K : PySem.W.Frag} {mg : Str → Option Value} {base : Heap} {CX : CXT} {k : Nat} {f : Addr} {fd : FuncData} {ps : List Str} {sp : Sp} (F : FnOk P w K mg base CX0 k f fd ps sp) : FnOk P w K mg base CX k f fd ps sp :=
  ⟨F.len, fun A outer s H args us vs Q E hr he hb hv hs => PySem.codeAny_mono (F.run A outer s H args us vs Q E hr he hb hv hs) fun r s' h => by
    cases r with
    | ok c => cases c <;> exact h
    | error e => exact h.elim⟩
theorem mkX17 {P : Program} {K : PySem.W.Frag} {mg : Str → Option Value} {xV xH BE : Addr} (pV : ClsP K mg "NoVector" xV BE) (pH : ClsHV P K mg xH)
    (cl : PySem.W.findIn K (.ref xH) "__class__" = some (some (.builtin "object.__class__"))) (ob : PySem.W.mroIn K xH (.type "object") = some true) (wh : PySem.W.findIn K (.ref xH) "who" = some none)
    (kV : PySem.W.kitOne K (.ref xV) (.ref BE) = some true) (kH : PySem.W.kitOne K (.ref xH) (.ref BE) = some false)
    (sVV : PySem.W.subIn K (.ref xV) (.ref xV) = some true) (sHV : PySem.W.subIn K (.ref xH) (.ref xV) = some false) (sHH : PySem.W.subIn K (.ref xH) (.ref xH) = some true) :
    ∃ D S BE : Addr, ClsP K mg "NoVector" D BE ∧ ClsHV P K mg S ∧ X17 K mg D S BE :=
  ⟨xV, xH, BE, pV, pH, ⟨pV.gP, pH.gC, pV.gB, pV.exc, ⟨pH.ga, pH.gg, pH.exC, pH.hd, cl, pV.sp, pV.tk, ob⟩, ⟨pH.ga, pH.gg, pH.exC, pH.hd⟩, wh, kV, kH, PySem.W.exm_ref pV.bP pV.hd pV.tP sVV, PySem.W.exm_ref pV.bP pV.hd pV.tP sHV, PySem.W.exm_ref pH.exC pH.hd pH.tyC sHH⟩⟩
end Rc

namespace Rc
open PySem PySem.Spec PyProof.Rows L2
/-- a def of the text, by its name -/
def DefOf {K : PySem.W.Frag} {h : Heap} (_ : K.In h) (mg : Str → Option Value) (nm : Str) (st : Stmt) : Prop := ∃ f fd, Fun K nm nm st f fd ∧ mg nm = some (.ref f)
theorem mkDef {K : PySem.W.Frag} {h : Heap} {mg : Str → Option Value} (X : K.In h) (G : h.Ns mainGlobals mg) {nm : Str} {st : Stmt} {f : Addr} {oc : Value} {od an : Option Addr} {osl : Array (Option Value)} {kV doc pm cdv ct : Value}
    (a : PySem.W.nsIn K mainGlobals nm = some (some (.ref f)))
    (l : K.lookup f = some ⟨oc, od, .func (PySem.W.fnOf nm nm (defArgs st) (defBody st) (defScope st) .none kV doc pm an cdv ct), osl⟩)
    (c : PySem.W.codeIn K cdv nm = true) (k : PySem.W.keepIn K (.ref f) = true) : DefOf X mg nm st := ⟨f, _, fun_mk l c k, PySem.W.mg_of X G a⟩
/-- a method of the class C -/
def MethOf (K : PySem.W.Frag) (C : Addr) (nm qual : Str) (st : Stmt) : Prop := ∃ f fd, Fun K nm qual st f fd ∧ Meth K C nm f
theorem mkMeth {K : PySem.W.Frag} {C : Addr} {nm qual : Str} {st : Stmt} {f : Addr} {oc : Value} {od an : Option Addr} {osl : Array (Option Value)} {kV doc pm cdv ct : Value}
    (a : PySem.W.findIn K (.ref C) nm = some (some (.ref f))) (i : PySem.W.isFn K (.ref f) = true)
    (l : K.lookup f = some ⟨oc, od, .func (PySem.W.fnOf nm qual (defArgs st) (defBody st) (defScope st) .none kV doc pm an cdv ct), osl⟩)
    (c : PySem.W.codeIn K cdv qual = true) (k : PySem.W.keepIn K (.ref f) = true) : MethOf K C nm qual st := ⟨f, _, fun_mk l c k, a, i, k⟩
structure TopB (K : PySem.W.Frag) (mg : Str → Option Value) (C : Addr) : Prop where
  T : ClsF K C
  g : mg "Book" = some (.ref C)
  makes : PySem.W.makesIn K C = true
  kp : PySem.W.keepIn K (.ref C) = true
theorem mkTop {K : PySem.W.Frag} {h : Heap} {mg : Str → Option Value} {C : Addr} (X : K.In h) (G : h.Ns mainGlobals mg) (a : PySem.W.nsIn K mainGlobals "Book" = some (some (.ref C)))
    (pg : PySem.W.plainGet K C Str.empty = true) (hd : PySem.W.hasDictIn K C = true) (po : PySem.W.plainOver K C = true) (sa : PySem.W.findIn K (.ref C) "__setattr__" = some (some (.builtin "object.__setattr__"))) (mk : PySem.W.makesIn K C = true) (kc : PySem.W.keepIn K (.ref C) = true)
    (n1 : PySem.W.findIn K (.ref C) "names" = some none) (n2 : PySem.W.findIn K (.ref C) "gifts" = some none) (n3 : PySem.W.findIn K (.ref C) "stacks" = some none) (n4 : PySem.W.findIn K (.ref C) "drops" = some none) : TopB K mg C :=
  ⟨⟨⟨pg, hd, po, sa⟩, n1, n2, n3, n4⟩, PySem.W.mg_of X G a, mk, kc⟩
def ConOf (mg : Str → Option Value) (nm : Str) (v : V) : Prop := ∃ u, mg nm = some u ∧ RelV v u
theorem con_of {K : PySem.W.Frag} {h : Heap} {mg : Str → Option Value} (X : K.In h) (G : h.Ns mainGlobals mg) {nm : Str} {v : V} {u : Value} (a : PySem.W.nsIn K mainGlobals nm = some (some u)) (r : RelV v u) : ConOf mg nm v := ⟨u, PySem.W.mg_of X G a, r⟩
section
variable {K : PySem.W.Frag} {nm q x y z u4 : Str} {st : Stmt} {f : Addr} {fd : FuncData}
theorem bind1 (F : Fun K nm q st f fd)
    (h : ∀ (kV doc pm : Value) (an : Option Addr) (cdv ct v : Value), bindArgs (PySem.W.fnOf nm q (defArgs st) (defBody st) (defScope st) .none kV doc pm an cdv ct) ⟨[v], []⟩ = pure [(x, v)]) : Binds K fd [x] [] :=
  F.binds (ps := [x]) fun kV doc pm an cdv ct us hl => match us, hl with | [v], _ => h kV doc pm an cdv ct v
theorem bind2 (F : Fun K nm q st f fd)
    (h : ∀ (kV doc pm : Value) (an : Option Addr) (cdv ct u v : Value), bindArgs (PySem.W.fnOf nm q (defArgs st) (defBody st) (defScope st) .none kV doc pm an cdv ct) ⟨[u, v], []⟩ = pure [(x, u), (y, v)]) : Binds K fd [x, y] [] :=
  F.binds (ps := [x, y]) fun kV doc pm an cdv ct us hl => match us, hl with | [u, v], _ => h kV doc pm an cdv ct u v
theorem bind3 (F : Fun K nm q st f fd)
    (h : ∀ (kV doc pm : Value) (an : Option Addr) (cdv ct u v w : Value), bindArgs (PySem.W.fnOf nm q (defArgs st) (defBody st) (defScope st) .none kV doc pm an cdv ct) ⟨[u, v, w], []⟩ = pure [(x, u), (y, v), (z, w)]) : Binds K fd [x, y, z] [] :=
  F.binds (ps := [x, y, z]) fun kV doc pm an cdv ct us hl => match us, hl with | [u, v, w], _ => h kV doc pm an cdv ct u v w
theorem bind4 (F : Fun K nm q st f fd)
    (h : ∀ (kV doc pm : Value) (an : Option Addr) (cdv ct u v w t : Value), bindArgs (PySem.W.fnOf nm q (defArgs st) (defBody st) (defScope st) .none kV doc pm an cdv ct) ⟨[u, v, w, t], []⟩ = pure [(x, u), (y, v), (z, w), (u4, t)]) : Binds K fd [x, y, z, u4] [] :=
  F.binds (ps := [x, y, z, u4]) fun kV doc pm an cdv ct us hl => match us, hl with | [u, v, w, t], _ => h kV doc pm an cdv ct u v w t
end
section
variable {P : Program} {w : World} {K : PySem.W.Frag} {mg : Str → Option Value} {base : Heap} {C f : Addr} {fd : FuncData} {k : Nat} {nm : Str} {ps : List Str} {sp : Sp} {st : Stmt}
end
end Rc

namespace Rc
open PySem PySem.Spec PyProof.Rows L2
set_option maxHeartbeats 0 in
theorem all_mk {l : PySem.W.OpenLaw} {w : World} {K : PySem.W.Frag} {h : Heap} {mg : Str → Option Value} {fa C : Addr} (X : K.In h)
    (hfa : mg "law" = some (.ref fa))
    (TC : TopB K mg C)
    (d_is_name : DefOf X mg "is_name" (topS 11))
    (d_is_whole : DefOf X mg "is_whole" (topS 12))
    (d_is_amount : DefOf X mg "is_amount" (topS 13))
    (d_check_persons : DefOf X mg "check_persons" (topS 17))
    (d_check_amount : DefOf X mg "check_amount" (topS 18))
    (d_split_notes : DefOf X mg "split_notes" (topS 19))
    (d_with_changed : DefOf X mg "with_changed" (topS 20))
    (d_l_pot : DefOf X mg "_law_pot" (topS 23))
    (d_l_take : DefOf X mg "_law_take" (topS 24))
    (d_l_name : DefOf X mg "_law_name" (topS 25))
    (d_l_names : DefOf X mg "_law_names" (topS 26))
    (d_l_among : DefOf X mg "_law_among" (topS 27))
    (d_l_amount : DefOf X mg "_law_amount" (topS 28))
    (d_l_model : DefOf X mg "_law_model" (topS 29))
    (d_l_parted : DefOf X mg "_law_parted" (topS 30))
    (d_l_left : DefOf X mg "_law_left" (topS 31))
    (d_l_cash : DefOf X mg "_law_cash" (topS 32))
    (d_l_next : DefOf X mg "_law_next" (topS 33))
    (d_l_trail : DefOf X mg "_law_trail" (topS 34))
    (d_l_ring : DefOf X mg "_law_ring" (topS 35))
    (d_l_deeds : DefOf X mg "_law_deeds" (topS 36))
    (d_l_done : DefOf X mg "_law_done" (topS 37))
    (d_l_booked : DefOf X mg "_law_booked" (topS 38))
    (d_l_alike : DefOf X mg "_law_alike" (topS 39))
    (d_l_ends_of : DefOf X mg "_law_ends_of" (topS 40))
    (d_l_more : DefOf X mg "_law_more" (topS 41))
    (d_l_spoilt : DefOf X mg "_law_spoilt" (topS 42))
    (d_l_wanted : DefOf X mg "_law_wanted" (topS 43))
    (d_l_told : DefOf X mg "_law_told" (topS 44))
    (d_l_looks_right : DefOf X mg "_law_looks_right" (topS 45))
    (d_l_in_parts : DefOf X mg "_law_in_parts" (topS 46))
    (d_law : DefOf X mg "law" (topS 47))
    (m_init : MethOf K C "__init__" "Book.__init__" (inBook 0))
    (m_with_these : MethOf K C "with_these" "Book.with_these" (inBook 1))
    (m_has : MethOf K C "has" "Book.has" (inBook 4))
    (m_place_of : MethOf K C "place_of" "Book.place_of" (inBook 2))
    (m_persons : MethOf K C "persons" "Book.persons" (inBook 3))
    (m_given : MethOf K C "given" "Book.given" (inBook 5))
    (m_fallen : MethOf K C "fallen" "Book.fallen" (inBook 6))
    (m_notes : MethOf K C "notes" "Book.notes" (inBook 7))
    (m_pile : MethOf K C "pile" "Book.pile" (inBook 8))
    (m_fallen_to : MethOf K C "fallen_to" "Book.fallen_to" (inBook 10))
    (m_cash : MethOf K C "cash" "Book.cash" (inBook 11))
    (m_put : MethOf K C "put" "Book.put" (inBook 12))
    (m_give : MethOf K C "give" "Book.give" (inBook 13))
    (m_key : MethOf K C "key" "Book.key" (inBook 16))
    (m_whole_of : MethOf K C "whole_of" "Book.whole_of" (inBook 9))
    (m_may_fall : MethOf K C "may_fall" "Book.may_fall" (inBook 14))
    (m_let_fall : MethOf K C "let_fall" "Book.let_fall" (inBook 15))
    (m_eq : MethOf K C "__eq__" "Book.__eq__" (inBook 18))
    (m_notes_left : MethOf K C "notes_left" "Book.notes_left" (inBook 17))
    (m_len : MethOf K C "__len__" "Book.__len__" (inBook 19))
    (c_LETTERS : ConOf mg "LETTERS" (.str "abcdefghijklmnopqrstuvwxyz"))
    (c_LONGEST : ConOf mg "LONGEST" (.int 8))
    (c_MOST : ConOf mg "MOST" (.int 60))
    (c_MOST_PERSONS : ConOf mg "MOST_PERSONS" (.int 12))
    (B : Blt mg)
    (B2 : Blt2 mg)
    (B3 : Blt3 mg)
    (B5 : Blt5 mg)
    (xX17 : ∃ D S BE : Addr, ClsP K mg "NoVector" D BE ∧ ClsHV l.prog K mg S ∧ X17 K mg D S BE)
    (TE : ClsE K C) :
    ∃ fd : FuncData, (∀ (s : Shared) (v : Value), BindsTo s fd ⟨[v], []⟩ [("_law_script", v)]) ∧ ∀ base : Heap, K.In base → base.Ns mainGlobals mg → FnG l.prog w K mg base CX0 10 fa fd ["_law_script"] (spLaw K) := by
  obtain ⟨f_is_name, fd_is_name, F_is_name, g_is_name⟩ := d_is_name
  obtain ⟨f_is_whole, fd_is_whole, F_is_whole, g_is_whole⟩ := d_is_whole
  obtain ⟨f_is_amount, fd_is_amount, F_is_amount, g_is_amount⟩ := d_is_amount
  obtain ⟨f_check_persons, fd_check_persons, F_check_persons, g_check_persons⟩ := d_check_persons
  obtain ⟨f_check_amount, fd_check_amount, F_check_amount, g_check_amount⟩ := d_check_amount
  obtain ⟨f_split_notes, fd_split_notes, F_split_notes, g_split_notes⟩ := d_split_notes
  obtain ⟨f_with_changed, fd_with_changed, F_with_changed, g_with_changed⟩ := d_with_changed
  obtain ⟨f_l_pot, fd_l_pot, F_l_pot, g_l_pot⟩ := d_l_pot
  obtain ⟨f_l_take, fd_l_take, F_l_take, g_l_take⟩ := d_l_take
  obtain ⟨f_l_name, fd_l_name, F_l_name, g_l_name⟩ := d_l_name
  obtain ⟨f_l_names, fd_l_names, F_l_names, g_l_names⟩ := d_l_names
  obtain ⟨f_l_among, fd_l_among, F_l_among, g_l_among⟩ := d_l_among
  obtain ⟨f_l_amount, fd_l_amount, F_l_amount, g_l_amount⟩ := d_l_amount
  obtain ⟨f_l_model, fd_l_model, F_l_model, g_l_model⟩ := d_l_model
  obtain ⟨f_l_parted, fd_l_parted, F_l_parted, g_l_parted⟩ := d_l_parted
  obtain ⟨f_l_left, fd_l_left, F_l_left, g_l_left⟩ := d_l_left
  obtain ⟨f_l_cash, fd_l_cash, F_l_cash, g_l_cash⟩ := d_l_cash
  obtain ⟨f_l_next, fd_l_next, F_l_next, g_l_next⟩ := d_l_next
  obtain ⟨f_l_trail, fd_l_trail, F_l_trail, g_l_trail⟩ := d_l_trail
  obtain ⟨f_l_ring, fd_l_ring, F_l_ring, g_l_ring⟩ := d_l_ring
  obtain ⟨f_l_deeds, fd_l_deeds, F_l_deeds, g_l_deeds⟩ := d_l_deeds
  obtain ⟨f_l_done, fd_l_done, F_l_done, g_l_done⟩ := d_l_done
  obtain ⟨f_l_booked, fd_l_booked, F_l_booked, g_l_booked⟩ := d_l_booked
  obtain ⟨f_l_alike, fd_l_alike, F_l_alike, g_l_alike⟩ := d_l_alike
  obtain ⟨f_l_ends_of, fd_l_ends_of, F_l_ends_of, g_l_ends_of⟩ := d_l_ends_of
  obtain ⟨f_l_more, fd_l_more, F_l_more, g_l_more⟩ := d_l_more
  obtain ⟨f_l_spoilt, fd_l_spoilt, F_l_spoilt, g_l_spoilt⟩ := d_l_spoilt
  obtain ⟨f_l_wanted, fd_l_wanted, F_l_wanted, g_l_wanted⟩ := d_l_wanted
  obtain ⟨f_l_told, fd_l_told, F_l_told, g_l_told⟩ := d_l_told
  obtain ⟨f_l_looks_right, fd_l_looks_right, F_l_looks_right, g_l_looks_right⟩ := d_l_looks_right
  obtain ⟨f_l_in_parts, fd_l_in_parts, F_l_in_parts, g_l_in_parts⟩ := d_l_in_parts
  obtain ⟨f_law, fd_law, F_law, g_law⟩ := d_law
  obtain ⟨f_init, fd_init, F_init, M_init⟩ := m_init
  obtain ⟨f_with_these, fd_with_these, F_with_these, M_with_these⟩ := m_with_these
  obtain ⟨f_has, fd_has, F_has, M_has⟩ := m_has
  obtain ⟨f_place_of, fd_place_of, F_place_of, M_place_of⟩ := m_place_of
  obtain ⟨f_persons, fd_persons, F_persons, M_persons⟩ := m_persons
  obtain ⟨f_given, fd_given, F_given, M_given⟩ := m_given
  obtain ⟨f_fallen, fd_fallen, F_fallen, M_fallen⟩ := m_fallen
  obtain ⟨f_notes, fd_notes, F_notes, M_notes⟩ := m_notes
  obtain ⟨f_pile, fd_pile, F_pile, M_pile⟩ := m_pile
  obtain ⟨f_fallen_to, fd_fallen_to, F_fallen_to, M_fallen_to⟩ := m_fallen_to
  obtain ⟨f_cash, fd_cash, F_cash, M_cash⟩ := m_cash
  obtain ⟨f_put, fd_put, F_put, M_put⟩ := m_put
  obtain ⟨f_give, fd_give, F_give, M_give⟩ := m_give
  obtain ⟨f_key, fd_key, F_key, M_key⟩ := m_key
  obtain ⟨f_whole_of, fd_whole_of, F_whole_of, M_whole_of⟩ := m_whole_of
  obtain ⟨f_may_fall, fd_may_fall, F_may_fall, M_may_fall⟩ := m_may_fall
  obtain ⟨f_let_fall, fd_let_fall, F_let_fall, M_let_fall⟩ := m_let_fall
  obtain ⟨f_eq, fd_eq, F_eq, M_eq⟩ := m_eq
  obtain ⟨f_notes_left, fd_notes_left, F_notes_left, M_notes_left⟩ := m_notes_left
  obtain ⟨f_len, fd_len, F_len, M_len⟩ := m_len
  obtain ⟨u_LETTERS, g_LETTERS, t_LETTERS, rfl⟩ := c_LETTERS
  obtain ⟨u_LONGEST, g_LONGEST, t_LONGEST, rfl⟩ := c_LONGEST
  obtain ⟨u_MOST, g_MOST, t_MOST, rfl⟩ := c_MOST
  obtain ⟨u_MOST_PERSONS, g_MOST_PERSONS, t_MOST_PERSONS, rfl⟩ := c_MOST_PERSONS
  obtain ⟨XD, XS, XBE, XPV, XPH, X7⟩ := xX17
  have e := hfa.symm.trans g_law
  cases e
  refine ⟨fd_law, fun s v => ?_, fun base _ _ => ?_⟩
  · obtain ⟨oc, od, kV, doc, pm, an, cdv, ct, osl, rfl, lk, hcd⟩ := F_law.ex
    exact .of_eq rfl
  · have T := TC.T
    have NM : Has l.prog w K mg base 1 "is_name" ["thing"] (spBool K nameD) f_is_name fd_is_name := ⟨ok_name F_is_name B ⟨t_LETTERS, g_LETTERS⟩ ⟨t_LONGEST, g_LONGEST⟩, g_is_name, F_is_name.kp, (bind1 F_is_name fun _ _ _ _ _ _ _ => rfl)⟩
    have WH : Has l.prog w K mg base 1 "is_whole" ["thing"] (spBool K wholeD) f_is_whole fd_is_whole := ⟨ok_whole F_is_whole B, g_is_whole, F_is_whole.kp, (bind1 F_is_whole fun _ _ _ _ _ _ _ => rfl)⟩
    have AMT : Has l.prog w K mg base 2 "is_amount" ["thing"] (spBool K amountD) f_is_amount fd_is_amount := ⟨ok_amount F_is_amount F_is_whole (bind1 F_is_whole fun _ _ _ _ _ _ _ => rfl) g_is_whole B, g_is_amount, F_is_amount.kp, (bind1 F_is_amount fun _ _ _ _ _ _ _ => rfl)⟩
    have CKP : Has l.prog w K mg base 2 "check_persons" ["persons"] (spCheckP K) f_check_persons fd_check_persons := ⟨ok_checkP F_check_persons B B3 ⟨t_MOST_PERSONS, g_MOST_PERSONS⟩ NM, g_check_persons, F_check_persons.kp, (bind1 F_check_persons fun _ _ _ _ _ _ _ => rfl)⟩
    have CKA : Has l.prog w K mg base 3 "check_amount" ["amount"] (spCheckA K) f_check_amount fd_check_amount := ⟨ok_checkA F_check_amount AMT, g_check_amount, F_check_amount.kp, (bind1 F_check_amount fun _ _ _ _ _ _ _ => rfl)⟩
    have CHG : Has l.prog w K mg base 1 "with_changed" ["row", "place", "thing"] (spChg K) f_with_changed fd_with_changed := ⟨ok_chg F_with_changed, g_with_changed, F_with_changed.kp, (bind3 F_with_changed fun _ _ _ _ _ _ _ _ _ => rfl)⟩
    have SPL : Has l.prog w K mg base 1 "split_notes" ["notes", "fallen"] (spSplit K) f_split_notes fd_split_notes := ⟨ok_split F_split_notes B2, g_split_notes, F_split_notes.kp, (bind2 F_split_notes fun _ _ _ _ _ _ _ _ => rfl)⟩
    have GI : FnOk l.prog w K mg base CX0 3 f_init fd_init ["self", "persons"] (spInit K C) := ok_init F_init T B B3 CKP
    have bI : Binds K fd_init ["self", "persons"] [] := (bind2 F_init fun _ _ _ _ _ _ _ _ => rfl)
    have MK : Mk K C f_init := ⟨TC.makes, M_init.at_, M_init.fn, TC.kp⟩
    have WT : HasM l.prog w K mg base C 5 "with_these" ["self", "gifts", "stacks", "drops"] (spWith K C) f_with_these fd_with_these := ⟨ok_with F_with_these T B3 MK TC.g GI bI, M_with_these, (bind4 F_with_these fun _ _ _ _ _ _ _ _ _ _ => rfl)⟩
    have HS : HasM l.prog w K mg base C 2 "has" ["self", "who"] (spHas K C) f_has fd_has := ⟨ok_has F_has T NM, M_has, (bind2 F_has fun _ _ _ _ _ _ _ _ => rfl)⟩
    have PL : HasM l.prog w K mg base C 3 "place_of" ["self", "who"] (spPlace K C) f_place_of fd_place_of := ⟨ok_place F_place_of T HS, M_place_of, (bind2 F_place_of fun _ _ _ _ _ _ _ _ => rfl)⟩
    have PS : HasM l.prog w K mg base C 1 "persons" ["self"] (spPersons K C) f_persons fd_persons := ⟨ok_persons F_persons T B3, M_persons, (bind1 F_persons fun _ _ _ _ _ _ _ => rfl)⟩
    have GV : HasM l.prog w K mg base C 4 "given" ["self", "who"] (spNum K C Bk.gifts) f_given fd_given := ⟨ok_given F_given T PL, M_given, (bind2 F_given fun _ _ _ _ _ _ _ _ => rfl)⟩
    have FL : HasM l.prog w K mg base C 4 "fallen" ["self", "who"] (spNum K C Bk.drops) f_fallen fd_fallen := ⟨ok_fallen F_fallen T PL, M_fallen, (bind2 F_fallen fun _ _ _ _ _ _ _ _ => rfl)⟩
    have NT : HasM l.prog w K mg base C 4 "notes" ["self", "who"] (spRow K C fun l _ => l) f_notes fd_notes := ⟨ok_notes F_notes T B3 PL, M_notes, (bind2 F_notes fun _ _ _ _ _ _ _ _ => rfl)⟩
    have PI : HasM l.prog w K mg base C 5 "pile" ["self", "who"] (spRow K C leftN) f_pile fd_pile := ⟨ok_pile F_pile T SPL NT FL, M_pile, (bind2 F_pile fun _ _ _ _ _ _ _ _ => rfl)⟩
    have FT : HasM l.prog w K mg base C 4 "fallen_to" ["self", "who"] (spCalc K C fun M _ z => fallTo M z) f_fallen_to fd_fallen_to := ⟨ok_fallTo F_fallen_to T B3 PL SPL, M_fallen_to, (bind2 F_fallen_to fun _ _ _ _ _ _ _ _ => rfl)⟩
    have CS : HasM l.prog w K mg base C 5 "cash" ["self", "who"] (spCalc K C cashM) f_cash fd_cash := ⟨ok_cash F_cash T GV FT FL, M_cash, (bind2 F_cash fun _ _ _ _ _ _ _ _ => rfl)⟩
    have PU : HasM l.prog w K mg base C 6 "put" ["self", "who", "to", "amount"] (spPut K C) f_put fd_put := ⟨ok_put F_put T B B3 ⟨t_MOST, g_MOST⟩ PL CKA CHG WT, M_put, (bind4 F_put fun _ _ _ _ _ _ _ _ _ _ => rfl)⟩
    have GE : HasM l.prog w K mg base C 6 "give" ["self", "who", "amount"] (spGive K C) f_give fd_give := ⟨ok_give F_give T PL CKA CHG WT, M_give, (bind3 F_give fun _ _ _ _ _ _ _ _ _ => rfl)⟩
    have KY : HasM l.prog w K mg base C 1 "key" ["self"] (spKey K C) f_key fd_key := ⟨ok_key F_key T, M_key, (bind1 F_key fun _ _ _ _ _ _ _ => rfl)⟩
    have WO : HasM l.prog w K mg base C 5 "whole_of" ["self", "who"] (spCalc K C fun M j _ => wholeN (M.stacks.getD j [])) f_whole_of fd_whole_of := ⟨ok_whOf F_whole_of T B3 NT, M_whole_of, (bind2 F_whole_of fun _ _ _ _ _ _ _ _ => rfl)⟩
    have MF : HasM l.prog w K mg base C 6 "may_fall" ["self", "more"] (spMayT l.prog w K C) f_may_fall fd_may_fall := ⟨ok_mayT F_may_fall T B B3 HS WH FL WO, M_may_fall, (bind2 F_may_fall fun _ _ _ _ _ _ _ _ => rfl)⟩
    have LFT : HasM l.prog w K mg base C 7 "let_fall" ["self", "more"] (spLetT K C) f_let_fall fd_let_fall := ⟨ok_letT F_let_fall T B3 MF FL WT CS, M_let_fall, (bind2 F_let_fall fun _ _ _ _ _ _ _ _ => rfl)⟩
    have LFX : HasMX l.prog w K mg base C 7 "let_fall" ["self", "more"] (spLetX l.prog w K C XD XS) f_let_fall fd_let_fall := ⟨no_letT F_let_fall T B3 XPV XPH MF FL WT CS, M_let_fall, (bind2 F_let_fall fun _ _ _ _ _ _ _ _ => rfl)⟩
    have LFO : HasMX l.prog w K mg base C 7 "let_fall" ["self", "more"] (spLetO l.prog w K C XD XS) f_let_fall fd_let_fall := ⟨fnOr (FnOk.up LFT.ok) LFX.ok, M_let_fall, (bind2 F_let_fall fun _ _ _ _ _ _ _ _ => rfl)⟩
    have EQB : HasM l.prog w K mg base C 2 "__eq__" ["self", "other"] (spEqB K C) f_eq fd_eq := ⟨ok_eqB F_eq T TE B TC.g KY, M_eq, (bind2 F_eq fun _ _ _ _ _ _ _ _ => rfl)⟩
    have NLS : HasM l.prog w K mg base C 6 "notes_left" ["self"] (spLefts K C) f_notes_left fd_notes_left := ⟨ok_lefts F_notes_left T PI, M_notes_left, (bind1 F_notes_left fun _ _ _ _ _ _ _ => rfl)⟩
    have LEN : HasM l.prog w K mg base C 7 "__len__" ["self"] (spLenB K C) f_len fd_len := ⟨ok_lenB F_len T B NLS, M_len, (bind1 F_len fun _ _ _ _ _ _ _ => rfl)⟩
    have TK : HasTake l.prog w K mg base f_l_take fd_l_take := ⟨ok_take F_l_take B2, g_l_take, F_l_take.kp, (bind2 F_l_take fun _ _ _ _ _ _ _ _ => rfl)⟩
    have AM : HasAmong l.prog w K mg base f_l_among fd_l_among := ⟨ok_among F_l_among B TK, g_l_among, F_l_among.kp, (bind2 F_l_among fun _ _ _ _ _ _ _ _ => rfl)⟩
    have LP : Has l.prog w K mg base 3 "_law_pot" ["_law_script", "_law_k"] (spPot K) f_l_pot fd_l_pot := ⟨ok_pot F_l_pot B B2, g_l_pot, F_l_pot.kp, (bind2 F_l_pot fun _ _ _ _ _ _ _ _ => rfl)⟩
    have LNM : Has l.prog w K mg base 2 "_law_name" ["_law_pot_here", "_law_used"] spLNm f_l_name fd_l_name := ⟨ok_lnm F_l_name B B2 TK, g_l_name, F_l_name.kp, (bind2 F_l_name fun _ _ _ _ _ _ _ _ => rfl)⟩
    have LNS : Has l.prog w K mg base 3 "_law_names" ["_law_pot_here", "_law_many"] spLNms f_l_names fd_l_names := ⟨ok_lnms F_l_names B2 LNM, g_l_names, F_l_names.kp, (bind2 F_l_names fun _ _ _ _ _ _ _ _ => rfl)⟩
    have LAM : Has l.prog w K mg base 2 "_law_amount" ["_law_pot_here", "_law_size"] spLAm f_l_amount fd_l_amount := ⟨ok_lam F_l_amount TK, g_l_amount, F_l_amount.kp, (bind2 F_l_amount fun _ _ _ _ _ _ _ _ => rfl)⟩
    have LMD : Has l.prog w K mg base 1 "_law_model" ["_law_names_here"] (spLMd K) f_l_model fd_l_model := ⟨ok_lmd F_l_model B3, g_l_model, F_l_model.kp, (bind1 F_l_model fun _ _ _ _ _ _ _ => rfl)⟩
    have LPT : Has l.prog w K mg base 1 "_law_parted" ["_law_model_here", "_law_who"] (spLPt K) f_l_parted fd_l_parted := ⟨ok_lpt F_l_parted B B2, g_l_parted, F_l_parted.kp, (bind2 F_l_parted fun _ _ _ _ _ _ _ _ => rfl)⟩
    have LLF : Has l.prog w K mg base 2 "_law_left" ["_law_model_here", "_law_who"] (spLLf K) f_l_left fd_l_left := ⟨ok_llf F_l_left LPT, g_l_left, F_l_left.kp, (bind2 F_l_left fun _ _ _ _ _ _ _ _ => rfl)⟩
    have LNX : Has l.prog w K mg base 3 "_law_next" ["_law_model_here", "_law_who"] (spLNx K) f_l_next fd_l_next := ⟨ok_lnx F_l_next LLF, g_l_next, F_l_next.kp, (bind2 F_l_next fun _ _ _ _ _ _ _ _ => rfl)⟩
    have LTR : Has l.prog w K mg base 4 "_law_trail" ["_law_model_here", "_law_who"] (spLTr K) f_l_trail fd_l_trail := ⟨ok_ltr F_l_trail LNX, g_l_trail, F_l_trail.kp, (bind2 F_l_trail fun _ _ _ _ _ _ _ _ => rfl)⟩
    have LRG : Has l.prog w K mg base 5 "_law_ring" ["_law_model_here", "_law_who"] (spLRg K) f_l_ring fd_l_ring := ⟨ok_lrg F_l_ring B2 LNX LTR, g_l_ring, F_l_ring.kp, (bind2 F_l_ring fun _ _ _ _ _ _ _ _ => rfl)⟩
    have LCS : Has l.prog w K mg base 2 "_law_cash" ["_law_model_here", "_law_who"] (spLCs K) f_l_cash fd_l_cash := ⟨ok_lcs F_l_cash B3 LPT, g_l_cash, F_l_cash.kp, (bind2 F_l_cash fun _ _ _ _ _ _ _ _ => rfl)⟩
    have LDS : Has l.prog w K mg base 3 "_law_deeds" ["_law_pot_here", "_law_names_here", "_law_many", "_law_size"] (spLDs K) f_l_deeds fd_l_deeds := ⟨ok_lds F_l_deeds B2 TK AM LAM, g_l_deeds, F_l_deeds.kp, (bind4 F_l_deeds fun _ _ _ _ _ _ _ _ _ _ => rfl)⟩
    have LDN : Has l.prog w K mg base 1 "_law_done" ["_law_model_here", "_law_deed"] (spLDn K) f_l_done fd_l_done := ⟨ok_ldn F_l_done, g_l_done, F_l_done.kp, (bind2 F_l_done fun _ _ _ _ _ _ _ _ => rfl)⟩
    have LBK : Has l.prog w K mg base 7 "_law_booked" ["_law_book", "_law_deeds_here"] (spLBk K C) f_l_booked fd_l_booked := ⟨ok_lbk F_l_booked T GE PU, g_l_booked, F_l_booked.kp, (bind2 F_l_booked fun _ _ _ _ _ _ _ _ => rfl)⟩
    have LAL : HasG l.prog w K mg base 6 "_law_alike" ["_law_model_here", "_law_book"] (spLAl K C) f_l_alike fd_l_alike := ⟨ok_lal F_l_alike T B2 PS GV FL CS NT PI LCS LLF, g_l_alike, F_l_alike.kp, (bind2 F_l_alike fun _ _ _ _ _ _ _ _ => rfl)⟩
    have LEO : Has l.prog w K mg base 3 "_law_ends_of" ["_law_model_here", "_law_who"] (spLEn K) f_l_ends_of fd_l_ends_of := ⟨ok_len F_l_ends_of B2 LLF, g_l_ends_of, F_l_ends_of.kp, (bind2 F_l_ends_of fun _ _ _ _ _ _ _ _ => rfl)⟩
    have LMR : Has l.prog w K mg base 6 "_law_more" ["_law_pot_here", "_law_model_here"] (spLMo K) f_l_more fd_l_more := ⟨ok_lmo F_l_more B2 B3 TK AM LLF LCS LRG LEO, g_l_more, F_l_more.kp, (bind2 F_l_more fun _ _ _ _ _ _ _ _ => rfl)⟩
    have LSPT : Has l.prog w K mg base 3 "_law_spoilt" ["_law_pot_here", "_law_model_here", "_law_more_here"] (spLSp17 l.prog w K) f_l_spoilt fd_l_spoilt := ⟨ok_lsp17 F_l_spoilt B3 TK AM LLF, g_l_spoilt, F_l_spoilt.kp, (bind3 F_l_spoilt fun _ _ _ _ _ _ _ _ _ => rfl)⟩
    have LWA : Has l.prog w K mg base 3 "_law_wanted" ["_law_model_here", "_law_more_here"] (spLWa l.prog w K) f_l_wanted fd_l_wanted := ⟨ok_lwa F_l_wanted B B3 LLF LCS, g_l_wanted, F_l_wanted.kp, (bind2 F_l_wanted fun _ _ _ _ _ _ _ _ => rfl)⟩
    have LTO : Has l.prog w K mg base 8 "_law_told" ["_law_book", "_law_more_here"] (spLTo l.prog w K C) f_l_told fd_l_told := ⟨ok_lto F_l_told T B X7 LFO, g_l_told, F_l_told.kp, (bind2 F_l_told fun _ _ _ _ _ _ _ _ => rfl)⟩
    have LLR : HasG l.prog w K mg base 9 "_law_looks_right" ["_law_model_here", "_law_book"] (spLAl K C) f_l_looks_right fd_l_looks_right := ⟨ok_llr F_l_looks_right T B B2 B3 WO FT LCS LLF LAL LEN, g_l_looks_right, F_l_looks_right.kp, (bind2 F_l_looks_right fun _ _ _ _ _ _ _ _ => rfl)⟩
    have LIP : Has l.prog w K mg base 9 "_law_in_parts" ["_law_book", "_law_whole", "_law_more_here"] (spLIp K C) f_l_in_parts fd_l_in_parts := ⟨ok_lip F_l_in_parts T B3 LTO LFT EQB, g_l_in_parts, F_l_in_parts.kp, (bind3 F_l_in_parts fun _ _ _ _ _ _ _ _ _ => rfl)⟩
    exact ok_law F_law B B2 B3 B5.any T LP TK LNS LDS LMD LBK LDN LMR LSPT LWA LTO LLR LIP KY EQB MK TC.g GI bI
end Rc

set_option pp.maxSteps 300
set_option pp.deepTerms false
open PySem PySem.W PyProof.Rows
set_option maxHeartbeats 0 in
theorem PySem.Challenge.cw_ringclear_k17_whole_let_fall_holds : PySem.Challenge.rw_ringclear_k17_whole_let_fall.Holds := by
  w_on; o_law; k_head; (case hw => w_witness2)
  k_fill
  refine Rc.walk_ofG (l := PySem.Challenge.rw_ringclear_k17_whole_let_fall) (n := 63) (k := 10) (x := "_law_script") (CX := fun _ => L2.CX0) (sp := fun w => Rc.spLaw _) rfl (by decide) rfl ⟨rfl, by decide, by decide⟩ (fun w h Y => PySem.W.kIn_of Y) ?F (fun _ _ a ns hl _ hS => ⟨a, ns, rfl, hS, hl, fun _ => rfl⟩) (fun _ _ _ _ _ h => h)
  case F =>
    intro w mg fa h KX G hmg
    refine' Rc.all_mk KX hmg ?TC ?d_is_name ?d_is_whole ?d_is_amount ?d_check_persons ?d_check_amount ?d_split_notes ?d_with_changed ?d_l_pot ?d_l_take ?d_l_name ?d_l_names ?d_l_among ?d_l_amount ?d_l_model ?d_l_parted ?d_l_left ?d_l_cash ?d_l_next ?d_l_trail ?d_l_ring ?d_l_deeds ?d_l_done ?d_l_booked ?d_l_alike ?d_l_ends_of ?d_l_more ?d_l_spoilt ?d_l_wanted ?d_l_told ?d_l_looks_right ?d_l_in_parts ?d_law ?m_init ?m_with_these ?m_has ?m_place_of ?m_persons ?m_given ?m_fallen ?m_notes ?m_pile ?m_fallen_to ?m_cash ?m_put ?m_give ?m_key ?m_whole_of ?m_may_fall ?m_let_fall ?m_eq ?m_notes_left ?m_len ?c_LETTERS ?c_LONGEST ?c_MOST ?c_MOST_PERSONS ?B ?B2 ?B3 ?B5 ?xX17 ?TE
    case TC => (refine' Rc.mkTop KX G ?tcA ?tcPg ?tcHd ?tcPo ?tcSa ?tcMk ?tcKc ?tcN1 ?tcN2 ?tcN3 ?tcN4; (case tcA => k_is); (case tcPg => k_is); (case tcHd => k_is); (case tcPo => k_is); (case tcSa => k_is); (case tcMk => k_is); (case tcKc => k_is); (case tcN1 => k_is); (case tcN2 => k_is); (case tcN3 => k_is); (case tcN4 => k_is))
    case c_LETTERS => (refine' Rc.con_of KX G ?ca_LETTERS ?cr_LETTERS; (case ca_LETTERS => k_is); (case cr_LETTERS => exact ⟨_, rfl⟩))
    case c_LONGEST => (refine' Rc.con_of KX G ?ca_LONGEST ?cr_LONGEST; (case ca_LONGEST => k_is); (case cr_LONGEST => exact ⟨_, rfl⟩))
    case c_MOST => (refine' Rc.con_of KX G ?ca_MOST ?cr_MOST; (case ca_MOST => k_is); (case cr_MOST => exact ⟨_, rfl⟩))
    case c_MOST_PERSONS => (refine' Rc.con_of KX G ?ca_MOST_PERSONS ?cr_MOST_PERSONS; (case ca_MOST_PERSONS => k_is); (case cr_MOST_PERSONS => exact ⟨_, rfl⟩))
    case B => (refine' ⟨PySem.W.mg_none_of KX G ?Bz0, PySem.W.mg_none_of KX G ?Bz1, PySem.W.mg_none_of KX G ?Bz2, PySem.W.mg_none_of KX G ?Bz3, PySem.W.mg_none_of KX G ?Bz4, PySem.W.mg_none_of KX G ?Bz5⟩; (case Bz0 => k_is); (case Bz1 => k_is); (case Bz2 => k_is); (case Bz3 => k_is); (case Bz4 => k_is); (case Bz5 => k_is))
    case B2 => (refine' ⟨PySem.W.mg_none_of KX G ?B2z0, PySem.W.mg_none_of KX G ?B2z1, PySem.W.mg_none_of KX G ?B2z2, PySem.W.mg_none_of KX G ?B2z3, PySem.W.mg_none_of KX G ?B2z4, PySem.W.mg_none_of KX G ?B2z5⟩; (case B2z0 => k_is); (case B2z1 => k_is); (case B2z2 => k_is); (case B2z3 => k_is); (case B2z4 => k_is); (case B2z5 => k_is))
    case B3 => (refine' ⟨PySem.W.mg_none_of KX G ?B3z0, PySem.W.mg_none_of KX G ?B3z1, PySem.W.mg_none_of KX G ?B3z2, PySem.W.mg_none_of KX G ?B3z3, PySem.W.mg_none_of KX G ?B3z4, PySem.W.mg_none_of KX G ?B3z5⟩; (case B3z0 => k_is); (case B3z1 => k_is); (case B3z2 => k_is); (case B3z3 => k_is); (case B3z4 => k_is); (case B3z5 => k_is))
    case B5 => (refine' ⟨PySem.W.mg_none_of KX G ?B5z0⟩; (case B5z0 => k_is))
    case d_is_name => (refine' Rc.mkDef KX G ?a_d_is_name ?l_d_is_name ?c_d_is_name ?k_d_is_name; (case a_d_is_name => k_is); (case l_d_is_name => k_is); (case c_d_is_name => k_is); (case k_d_is_name => k_is))
    case d_is_whole => (refine' Rc.mkDef KX G ?a_d_is_whole ?l_d_is_whole ?c_d_is_whole ?k_d_is_whole; (case a_d_is_whole => k_is); (case l_d_is_whole => k_is); (case c_d_is_whole => k_is); (case k_d_is_whole => k_is))
    case d_is_amount => (refine' Rc.mkDef KX G ?a_d_is_amount ?l_d_is_amount ?c_d_is_amount ?k_d_is_amount; (case a_d_is_amount => k_is); (case l_d_is_amount => k_is); (case c_d_is_amount => k_is); (case k_d_is_amount => k_is))
    case d_check_persons => (refine' Rc.mkDef KX G ?a_d_check_persons ?l_d_check_persons ?c_d_check_persons ?k_d_check_persons; (case a_d_check_persons => k_is); (case l_d_check_persons => k_is); (case c_d_check_persons => k_is); (case k_d_check_persons => k_is))
    case d_check_amount => (refine' Rc.mkDef KX G ?a_d_check_amount ?l_d_check_amount ?c_d_check_amount ?k_d_check_amount; (case a_d_check_amount => k_is); (case l_d_check_amount => k_is); (case c_d_check_amount => k_is); (case k_d_check_amount => k_is))
    case d_split_notes => (refine' Rc.mkDef KX G ?a_d_split_notes ?l_d_split_notes ?c_d_split_notes ?k_d_split_notes; (case a_d_split_notes => k_is); (case l_d_split_notes => k_is); (case c_d_split_notes => k_is); (case k_d_split_notes => k_is))
    case d_with_changed => (refine' Rc.mkDef KX G ?a_d_with_changed ?l_d_with_changed ?c_d_with_changed ?k_d_with_changed; (case a_d_with_changed => k_is); (case l_d_with_changed => k_is); (case c_d_with_changed => k_is); (case k_d_with_changed => k_is))
    case d_l_pot => (refine' Rc.mkDef KX G ?a_d_l_pot ?l_d_l_pot ?c_d_l_pot ?k_d_l_pot; (case a_d_l_pot => k_is); (case l_d_l_pot => k_is); (case c_d_l_pot => k_is); (case k_d_l_pot => k_is))
    case d_l_take => (refine' Rc.mkDef KX G ?a_d_l_take ?l_d_l_take ?c_d_l_take ?k_d_l_take; (case a_d_l_take => k_is); (case l_d_l_take => k_is); (case c_d_l_take => k_is); (case k_d_l_take => k_is))
    case d_l_name => (refine' Rc.mkDef KX G ?a_d_l_name ?l_d_l_name ?c_d_l_name ?k_d_l_name; (case a_d_l_name => k_is); (case l_d_l_name => k_is); (case c_d_l_name => k_is); (case k_d_l_name => k_is))
    case d_l_names => (refine' Rc.mkDef KX G ?a_d_l_names ?l_d_l_names ?c_d_l_names ?k_d_l_names; (case a_d_l_names => k_is); (case l_d_l_names => k_is); (case c_d_l_names => k_is); (case k_d_l_names => k_is))
    case d_l_among => (refine' Rc.mkDef KX G ?a_d_l_among ?l_d_l_among ?c_d_l_among ?k_d_l_among; (case a_d_l_among => k_is); (case l_d_l_among => k_is); (case c_d_l_among => k_is); (case k_d_l_among => k_is))
    case d_l_amount => (refine' Rc.mkDef KX G ?a_d_l_amount ?l_d_l_amount ?c_d_l_amount ?k_d_l_amount; (case a_d_l_amount => k_is); (case l_d_l_amount => k_is); (case c_d_l_amount => k_is); (case k_d_l_amount => k_is))
    case d_l_model => (refine' Rc.mkDef KX G ?a_d_l_model ?l_d_l_model ?c_d_l_model ?k_d_l_model; (case a_d_l_model => k_is); (case l_d_l_model => k_is); (case c_d_l_model => k_is); (case k_d_l_model => k_is))
    case d_l_parted => (refine' Rc.mkDef KX G ?a_d_l_parted ?l_d_l_parted ?c_d_l_parted ?k_d_l_parted; (case a_d_l_parted => k_is); (case l_d_l_parted => k_is); (case c_d_l_parted => k_is); (case k_d_l_parted => k_is))
    case d_l_left => (refine' Rc.mkDef KX G ?a_d_l_left ?l_d_l_left ?c_d_l_left ?k_d_l_left; (case a_d_l_left => k_is); (case l_d_l_left => k_is); (case c_d_l_left => k_is); (case k_d_l_left => k_is))
    case d_l_cash => (refine' Rc.mkDef KX G ?a_d_l_cash ?l_d_l_cash ?c_d_l_cash ?k_d_l_cash; (case a_d_l_cash => k_is); (case l_d_l_cash => k_is); (case c_d_l_cash => k_is); (case k_d_l_cash => k_is))
    case d_l_next => (refine' Rc.mkDef KX G ?a_d_l_next ?l_d_l_next ?c_d_l_next ?k_d_l_next; (case a_d_l_next => k_is); (case l_d_l_next => k_is); (case c_d_l_next => k_is); (case k_d_l_next => k_is))
    case d_l_trail => (refine' Rc.mkDef KX G ?a_d_l_trail ?l_d_l_trail ?c_d_l_trail ?k_d_l_trail; (case a_d_l_trail => k_is); (case l_d_l_trail => k_is); (case c_d_l_trail => k_is); (case k_d_l_trail => k_is))
    case d_l_ring => (refine' Rc.mkDef KX G ?a_d_l_ring ?l_d_l_ring ?c_d_l_ring ?k_d_l_ring; (case a_d_l_ring => k_is); (case l_d_l_ring => k_is); (case c_d_l_ring => k_is); (case k_d_l_ring => k_is))
    case d_l_deeds => (refine' Rc.mkDef KX G ?a_d_l_deeds ?l_d_l_deeds ?c_d_l_deeds ?k_d_l_deeds; (case a_d_l_deeds => k_is); (case l_d_l_deeds => k_is); (case c_d_l_deeds => k_is); (case k_d_l_deeds => k_is))
    case d_l_done => (refine' Rc.mkDef KX G ?a_d_l_done ?l_d_l_done ?c_d_l_done ?k_d_l_done; (case a_d_l_done => k_is); (case l_d_l_done => k_is); (case c_d_l_done => k_is); (case k_d_l_done => k_is))
    case d_l_booked => (refine' Rc.mkDef KX G ?a_d_l_booked ?l_d_l_booked ?c_d_l_booked ?k_d_l_booked; (case a_d_l_booked => k_is); (case l_d_l_booked => k_is); (case c_d_l_booked => k_is); (case k_d_l_booked => k_is))
    case d_l_alike => (refine' Rc.mkDef KX G ?a_d_l_alike ?l_d_l_alike ?c_d_l_alike ?k_d_l_alike; (case a_d_l_alike => k_is); (case l_d_l_alike => k_is); (case c_d_l_alike => k_is); (case k_d_l_alike => k_is))
    case d_l_ends_of => (refine' Rc.mkDef KX G ?a_d_l_ends_of ?l_d_l_ends_of ?c_d_l_ends_of ?k_d_l_ends_of; (case a_d_l_ends_of => k_is); (case l_d_l_ends_of => k_is); (case c_d_l_ends_of => k_is); (case k_d_l_ends_of => k_is))
    case d_l_more => (refine' Rc.mkDef KX G ?a_d_l_more ?l_d_l_more ?c_d_l_more ?k_d_l_more; (case a_d_l_more => k_is); (case l_d_l_more => k_is); (case c_d_l_more => k_is); (case k_d_l_more => k_is))
    case d_l_spoilt => (refine' Rc.mkDef KX G ?a_d_l_spoilt ?l_d_l_spoilt ?c_d_l_spoilt ?k_d_l_spoilt; (case a_d_l_spoilt => k_is); (case l_d_l_spoilt => k_is); (case c_d_l_spoilt => k_is); (case k_d_l_spoilt => k_is))
    case d_l_wanted => (refine' Rc.mkDef KX G ?a_d_l_wanted ?l_d_l_wanted ?c_d_l_wanted ?k_d_l_wanted; (case a_d_l_wanted => k_is); (case l_d_l_wanted => k_is); (case c_d_l_wanted => k_is); (case k_d_l_wanted => k_is))
    case d_l_told => (refine' Rc.mkDef KX G ?a_d_l_told ?l_d_l_told ?c_d_l_told ?k_d_l_told; (case a_d_l_told => k_is); (case l_d_l_told => k_is); (case c_d_l_told => k_is); (case k_d_l_told => k_is))
    case d_l_looks_right => (refine' Rc.mkDef KX G ?a_d_l_looks_right ?l_d_l_looks_right ?c_d_l_looks_right ?k_d_l_looks_right; (case a_d_l_looks_right => k_is); (case l_d_l_looks_right => k_is); (case c_d_l_looks_right => k_is); (case k_d_l_looks_right => k_is))
    case d_l_in_parts => (refine' Rc.mkDef KX G ?a_d_l_in_parts ?l_d_l_in_parts ?c_d_l_in_parts ?k_d_l_in_parts; (case a_d_l_in_parts => k_is); (case l_d_l_in_parts => k_is); (case c_d_l_in_parts => k_is); (case k_d_l_in_parts => k_is))
    case d_law => (refine' Rc.mkDef KX G ?a_d_law ?l_d_law ?c_d_law ?k_d_law; (case a_d_law => k_is); (case l_d_law => k_is); (case c_d_law => k_is); (case k_d_law => k_is))
    case m_init => (refine' Rc.mkMeth ?a_m_init ?i_m_init ?l_m_init ?c_m_init ?k_m_init; (case a_m_init => k_is); (case i_m_init => k_is); (case l_m_init => k_is); (case c_m_init => k_is); (case k_m_init => k_is))
    case m_with_these => (refine' Rc.mkMeth ?a_m_with_these ?i_m_with_these ?l_m_with_these ?c_m_with_these ?k_m_with_these; (case a_m_with_these => k_is); (case i_m_with_these => k_is); (case l_m_with_these => k_is); (case c_m_with_these => k_is); (case k_m_with_these => k_is))
    case m_has => (refine' Rc.mkMeth ?a_m_has ?i_m_has ?l_m_has ?c_m_has ?k_m_has; (case a_m_has => k_is); (case i_m_has => k_is); (case l_m_has => k_is); (case c_m_has => k_is); (case k_m_has => k_is))
    case m_place_of => (refine' Rc.mkMeth ?a_m_place_of ?i_m_place_of ?l_m_place_of ?c_m_place_of ?k_m_place_of; (case a_m_place_of => k_is); (case i_m_place_of => k_is); (case l_m_place_of => k_is); (case c_m_place_of => k_is); (case k_m_place_of => k_is))
    case m_persons => (refine' Rc.mkMeth ?a_m_persons ?i_m_persons ?l_m_persons ?c_m_persons ?k_m_persons; (case a_m_persons => k_is); (case i_m_persons => k_is); (case l_m_persons => k_is); (case c_m_persons => k_is); (case k_m_persons => k_is))
    case m_given => (refine' Rc.mkMeth ?a_m_given ?i_m_given ?l_m_given ?c_m_given ?k_m_given; (case a_m_given => k_is); (case i_m_given => k_is); (case l_m_given => k_is); (case c_m_given => k_is); (case k_m_given => k_is))
    case m_fallen => (refine' Rc.mkMeth ?a_m_fallen ?i_m_fallen ?l_m_fallen ?c_m_fallen ?k_m_fallen; (case a_m_fallen => k_is); (case i_m_fallen => k_is); (case l_m_fallen => k_is); (case c_m_fallen => k_is); (case k_m_fallen => k_is))
    case m_notes => (refine' Rc.mkMeth ?a_m_notes ?i_m_notes ?l_m_notes ?c_m_notes ?k_m_notes; (case a_m_notes => k_is); (case i_m_notes => k_is); (case l_m_notes => k_is); (case c_m_notes => k_is); (case k_m_notes => k_is))
    case m_pile => (refine' Rc.mkMeth ?a_m_pile ?i_m_pile ?l_m_pile ?c_m_pile ?k_m_pile; (case a_m_pile => k_is); (case i_m_pile => k_is); (case l_m_pile => k_is); (case c_m_pile => k_is); (case k_m_pile => k_is))
    case m_fallen_to => (refine' Rc.mkMeth ?a_m_fallen_to ?i_m_fallen_to ?l_m_fallen_to ?c_m_fallen_to ?k_m_fallen_to; (case a_m_fallen_to => k_is); (case i_m_fallen_to => k_is); (case l_m_fallen_to => k_is); (case c_m_fallen_to => k_is); (case k_m_fallen_to => k_is))
    case m_cash => (refine' Rc.mkMeth ?a_m_cash ?i_m_cash ?l_m_cash ?c_m_cash ?k_m_cash; (case a_m_cash => k_is); (case i_m_cash => k_is); (case l_m_cash => k_is); (case c_m_cash => k_is); (case k_m_cash => k_is))
    case m_put => (refine' Rc.mkMeth ?a_m_put ?i_m_put ?l_m_put ?c_m_put ?k_m_put; (case a_m_put => k_is); (case i_m_put => k_is); (case l_m_put => k_is); (case c_m_put => k_is); (case k_m_put => k_is))
    case m_give => (refine' Rc.mkMeth ?a_m_give ?i_m_give ?l_m_give ?c_m_give ?k_m_give; (case a_m_give => k_is); (case i_m_give => k_is); (case l_m_give => k_is); (case c_m_give => k_is); (case k_m_give => k_is))
    case m_key => (refine' Rc.mkMeth ?a_m_key ?i_m_key ?l_m_key ?c_m_key ?k_m_key; (case a_m_key => k_is); (case i_m_key => k_is); (case l_m_key => k_is); (case c_m_key => k_is); (case k_m_key => k_is))
    case m_whole_of => (refine' Rc.mkMeth ?a_m_whole_of ?i_m_whole_of ?l_m_whole_of ?c_m_whole_of ?k_m_whole_of; (case a_m_whole_of => k_is); (case i_m_whole_of => k_is); (case l_m_whole_of => k_is); (case c_m_whole_of => k_is); (case k_m_whole_of => k_is))
    case m_may_fall => (refine' Rc.mkMeth ?a_m_may_fall ?i_m_may_fall ?l_m_may_fall ?c_m_may_fall ?k_m_may_fall; (case a_m_may_fall => k_is); (case i_m_may_fall => k_is); (case l_m_may_fall => k_is); (case c_m_may_fall => k_is); (case k_m_may_fall => k_is))
    case m_let_fall => (refine' Rc.mkMeth ?a_m_let_fall ?i_m_let_fall ?l_m_let_fall ?c_m_let_fall ?k_m_let_fall; (case a_m_let_fall => k_is); (case i_m_let_fall => k_is); (case l_m_let_fall => k_is); (case c_m_let_fall => k_is); (case k_m_let_fall => k_is))
    case m_eq => (refine' Rc.mkMeth ?a_m_eq ?i_m_eq ?l_m_eq ?c_m_eq ?k_m_eq; (case a_m_eq => k_is); (case i_m_eq => k_is); (case l_m_eq => k_is); (case c_m_eq => k_is); (case k_m_eq => k_is))
    case m_notes_left => (refine' Rc.mkMeth ?a_m_notes_left ?i_m_notes_left ?l_m_notes_left ?c_m_notes_left ?k_m_notes_left; (case a_m_notes_left => k_is); (case i_m_notes_left => k_is); (case l_m_notes_left => k_is); (case c_m_notes_left => k_is); (case k_m_notes_left => k_is))
    case m_len => (refine' Rc.mkMeth ?a_m_len ?i_m_len ?l_m_len ?c_m_len ?k_m_len; (case a_m_len => k_is); (case i_m_len => k_is); (case l_m_len => k_is); (case c_m_len => k_is); (case k_m_len => k_is))
    case xX17 => (refine' Rc.mkX17 (Rc.mkClsP KX G ?xsV_a ?xsV_a1 ?xsV_a2 ?xsV_a3 ?xsV_a4 ?xsV_a5 ?xsV_a6 ?xsV_a7 ?xsV_a8 ?xsV_a9 ?xsV_b1 ?xsV_b2 ?xsV_b3 ?xsV_b4 ?xsV_b5) (Rc.mkCx KX G ?xsH_a ?xsH_a1 ?xsH_a2 ?xsH_a3 ?xsH_a4 ?xsH_a5 ?xsH_a6 ?xsH_a7 ?xsH_a8 ?xsH_a9 ?xsH_b1 ?xsH_b2 ?xsH_b3 ?xsH_b4 ?xsH_b5 ?xsH_b6 ?xsH_b7 ?xsH_i1 ?xsH_i2 ?xsH_i3 ?xsH_i4 ?xsH_i5 ?xsH_i6 ?xsH_i7 ?xsH_i8) ?xsu_cl ?xsu_ob ?xsu_wh ?xsu_kV ?xsu_kH ?xsu_sVV ?xsu_sHV ?xsu_sHH; (case xsV_a => (first | k_is | kit_is)); (case xsV_a1 => k_exc); (case xsV_a2 => (first | k_is | kit_is)); (case xsV_a3 => (first | k_is | kit_is)); (case xsV_a4 => (first | k_is | kit_is)); (case xsV_a5 => (first | k_is | kit_is)); (case xsV_a6 => (first | k_is | kit_is)); (case xsV_a7 => (first | k_is | kit_is)); (case xsV_a8 => (first | k_is | kit_is)); (case xsV_a9 => (first | k_is | kit_is)); (case xsV_b1 => (first | k_is | kit_is)); (case xsV_b2 => (first | k_is | kit_is)); (case xsV_b3 => (first | k_is | kit_is)); (case xsV_b4 => (first | k_is | kit_is)); (case xsV_b5 => (first | k_is | kit_is)); (case xsH_a => k_is); (case xsH_a1 => kx_is); (case xsH_a2 => kx_is); (case xsH_a3 => k_is); (case xsH_a4 => k_is); (case xsH_a5 => k_is); (case xsH_a6 => k_is); (case xsH_a7 => (refine' Rc.all1 ?xsH_a7f0; (case xsH_a7f0 => k_is))); (case xsH_a8 => k_is); (case xsH_a9 => k_is); (case xsH_b1 => k_is); (case xsH_b2 => k_is); (case xsH_b3 => k_is); (case xsH_b4 => k_is); (case xsH_b5 => ks_is); (case xsH_b6 => k_is); (case xsH_b7 => (first | rfl | decide +kernel)); (case xsH_i1 => k_is); (case xsH_i2 => k_is); (case xsH_i3 => k_is); (case xsH_i4 => k_is); (case xsH_i5 => k_is); (case xsH_i6 => k_is); (case xsH_i7 => rfl); (case xsH_i8 => (first | rfl | decide +kernel)); (case xsu_cl => (first | k_is | kit_is)); (case xsu_ob => (first | k_is | kit_is)); (case xsu_wh => (first | k_is | kit_is)); (case xsu_kV => (first | k_is | kit_is)); (case xsu_kH => (first | k_is | kit_is)); (case xsu_sVV => (first | k_is | kit_is)); (case xsu_sHV => (first | k_is | kit_is)); (case xsu_sHH => (first | k_is | kit_is)))
    case TE => (refine' Rc.mkClsE ?xte_a ?xte_n ?xte_t ?xte_m ?xte_e; (case xte_a => k_is); (case xte_n => k_is); (case xte_t => k_is); (case xte_m => k_is); (case xte_e => k_is))

