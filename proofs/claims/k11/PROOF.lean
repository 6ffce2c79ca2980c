import PyProof.Rows.All
import Wide.All
import OpenK.AllK
import Wide.FinOn
import HandS.ForMost
import HandS.IsInst
import HandS.WideBits
import PyProof.ReprRoads
import HandS.Walk
import HandS.TupAny
import HandS.TupMul
import HandS.Strs
import HandS.Zip
import HandS.Codes
import HandS.Exc
import HandS.ExcField
import HandS.ExcSuper
import KE.KExcInit
import KE.KExcSuper
import HandS.ForExc
import HandS.ExcValue
import HandS.ExcIs
import KE.KExcIs
import HandS.More
import PyProof.StrOps2
import HandS.DictComp
import KE.KExcLine
import PySem.Challenge.RW_ringclear_k11_made_and_told
set_option Elab.async false
set_option linter.all false
set_option maxRecDepth 100000
namespace Rc
open PySem PySem.Spec PyProof.Rows L2

/-- a promise that is kept where no repr is under way -/
structure FnG (P : Program) (w : World) (K : PySem.W.Frag) (mg : Str → Option Value)
    (base : Heap) (CX : CXT) (k : Nat) (f : Addr) (fd : FuncData) (ps : List Str) (sp : Sp) : Prop where
  len : ∀ vs H Q E, sp vs H Q E → vs.length = ps.length
  go : ∀ (A : Around) (outer : List Env) (s : Shared) (H : Hp) (args : Args) (us : List Value)
    (vs : List V) (Q : VK) (E : XK), Room k A → A.guards = some [] →
    Env0 P w K mg base A outer s H → BindsTo s fd args (ps.zip us) → Vals vs us → sp vs H Q E →
    codeAny (model P w) A (.call (.ref f) args) (CR CX outer P w H s Q E) s

section
variable {P : Program} {w : World} {K : PySem.W.Frag} {mg : Str → Option Value} {base : Heap}

theorem FnG.of {CX : CXT} {k : Nat} {f : Addr} {fd : FuncData} {ps : List Str} {sp : Sp}
    (F : FnOk P w K mg base CX k f fd ps sp) : FnG P w K mg base CX k f fd ps sp :=
  ⟨F.len, fun A outer s H args us vs Q E hr _ e0 hb r h =>
    F.run A outer s H args us vs Q E hr e0 hb r h⟩

/-- a def by its body, no repr being under way -/
theorem okG {CX : CXT} {x qual : Str} {st : Stmt} {f : Addr} {fd : FuncData} {N ps : List Str} {k : Nat} {sp : Sp}
    (F : Fun K x qual st f fd) (S : FnScope N ps (defScope st))
    (len : ∀ vs H Q E, sp vs H Q E → vs.length = ps.length)
    (body : ∀ (cdv : Value) (A : Around) (outer : List Env) (s : Shared) (H : Hp) (vs : List V) (Q : VK) (E : XK),
      Room k (A.deeper (envOfC qual (defScope st) s.heap.objs.size f cdv)) → A.guards = some [] → sp vs H Q E →
      ∃ t, PSs (cxOf CX P w K mg base N qual (defScope st) f cdv A outer s H E) (defBody st) t ∧
        t { nx := fun _ H' => Q .non H', rt := Q } (start N vs) H) :
    FnG P w K mg base CX (k + 1) f fd ps sp := by
  obtain ⟨oc, od, kV, doc, pm, an, cdv, ct, osl, rfl, lk, hcd⟩ := F.ex
  refine ⟨len, fun A outer s H args us vs Q E hr hg e0 hb r hsp => ?_⟩
  have hl := len vs H Q E hsp
  have keep : ∀ b o, base.get? b = some o → s.heap.get? b = some o := fun b o e => (e0.bs b o e).1
  have KX : K.In s.heap := e0.mod.kin.keeps keep
  refine codeAny_call_function hr.depth (KX _ _ lk) rfl S.co S.gen rfl
    (PySem.W.codeRec_of KX hcd) (hb _ _ _ _ ?_)
  refine wpAny_newFunctionEnv_cells S.kind (fun y hy => ?_) fun env he s1 x => ?_
  · obtain ⟨n, v⟩ := y
    exact (S.par n (List.of_mem_zip hy).1).elim .inl fun q => .inr ⟨q, PySem.W.cellsFrom_some _ _ _ (.inl q)⟩
  · subst he
    refine ⟨(e0.mod.nolimit.keeps keep).keeps x.toInCall.keep, codeAny_func ?_⟩
    obtain ⟨t, ht, hq⟩ := body cdv A outer s H vs Q E (hr.deeper _) hg hsp
    have I := inv_start (CX := CX) (E := E) S hr.hd e0 hl r x
    refine wpAny_mono (ht.run [] s1 (start N vs) H _ I hq) (fun fl s' hs => ?_) fun _ _ z => z
    cases fl with
    | ret u =>
      obtain ⟨v, σ', H', J, rv, q⟩ := hs
      exact ⟨v, H', J.os, J.bare, J.base, J.hok, rv, q⟩
    | next =>
      obtain ⟨σ', H', J, q⟩ := hs
      exact ⟨.non, H', J.os, J.bare, J.base, J.hok, rfl, q⟩
    | brk =>
      obtain ⟨_, _, _, q⟩ := hs
      exact q.elim
    | cont =>
      obtain ⟨_, _, _, q⟩ := hs
      exact q.elim
/-- .. where nothing that is raised leaves it -/
theorem okG0 {x qual : Str} {st : Stmt} {f : Addr} {fd : FuncData} {N ps : List Str} {k : Nat} {sp : Sp}
    (F : Fun K x qual st f fd) (S : FnScope N ps (defScope st))
    (len : ∀ vs H Q E, sp vs H Q E → vs.length = ps.length)
    (body : ∀ (cdv : Value) (A : Around) (outer : List Env) (s : Shared) (H : Hp) (vs : List V) (Q : VK) (E : XK),
      Room k (A.deeper (envOfC qual (defScope st) s.heap.objs.size f cdv)) → A.guards = some [] → sp vs H Q E →
      ∃ t, PSs (cxOf CX0 P w K mg base N qual (defScope st) f cdv A outer s H E).nox (defBody st) t ∧
        t { nx := fun _ H' => Q .non H', rt := Q } (start N vs) H) :
    FnG P w K mg base CX0 (k + 1) f fd ps sp :=
  okG F S len fun cdv A outer s H vs Q E hr hg h =>
    let ⟨t, a, b⟩ := body cdv A outer s H vs Q E hr hg h
    ⟨t, a.nox, b⟩
end

section
variable {X : Cx} {CX : CXT} {k : Nat} {f : Addr} {fd : FuncData} {ps : List Str} {sp : Sp} {E : XK} {x : Str}
  {p pos : Pos} {e : Expr} {es : List Expr} {t : TA}

theorem runG {pins : List (Addr × Obj)} {σ : L2.St} {H : Hp} {s : Shared} {Q : VK} {us : List Value} {vs : List V} {ds : List Value} {dvs : List V}
    (F : FnG X.prog X.w X.K X.mg X.base CX k f fd ps sp) (hr : Room k X.A) (hg : X.A.guards = some [])
    (hb : Binds X.K fd ps ds) (hd : Vals dvs ds) (hx : Passes CX X E) (I : Inv X pins σ H s) (r : Vals vs us)
    (h : sp (vs ++ dvs) H Q E) :
    wpAny (model X.prog X.w) X.A (call (.ref f) us) (EP X pins σ Q) X.xe s := by
  have r2 : Vals (vs ++ dvs) (us ++ ds) := r.append hd
  have hl : (us ++ ds).length = ps.length := r2.length.symm.trans (F.len _ _ _ _ h)
  refine wpAny_call (codeAny_mono (F.go X.A X.stack s H ⟨us, []⟩ (us ++ ds) (vs ++ dvs) Q E hr hg
    I.env0 (hb s us I.kIn hl) r2 h) fun r s' hq => ?_)
  match r, hq with
  | .error e, hq => exact hx pins σ H s e s' I hq
  | .ok (.ret u), hq => exact I.after hq
  | .ok .next, hq => exact hq.elim
  | .ok .brk, hq => exact hq.elim
  | .ok .cont, hq => exact hq.elim

theorem pe_callG {ds : List Value} {dvs : List V} (F : FnG X.prog X.w X.K X.mg X.base CX k f fd ps sp) (hr : Room k X.A)
    (gd : X.A.guards = some []) (hg : Gl X x) (hm : X.mg x = some (.ref f)) (hk : PySem.W.keepIn X.K (.ref f) = true)
    (hb : Binds X.K fd ps ds) (hd : Vals dvs ds) (hx : Passes CX X E) (ha : PA X (e :: es) t)
    (hdb : (x == ("__debug__" : Str)) = false := by decide)
    (he : starEach (e :: es) X.env = (false, eval e X.env) :: starEach es X.env := by rfl)
    (hpl : (backTo pos (starEach es X.env)).any (·.1) = false := by rfl) :
    PE X (.Call (.Name x p) (e :: es) [] pos) (tCall sp dvs E t) := by
  refine ⟨fun pins s σ H Q I h => wpAny_Call_Name_kw (ld_glob I hg hm ?_ hdb)⟩
  refine PySem.W.callWith_K (h₀ := X.base) I.ok.mod.kin hk ?_ he hpl
  refine thn (ha.run pos pins s σ H _ I h) fun us s1 z => ?_
  obtain ⟨vs, H1, I1, r, q⟩ := z
  exact ⟨I1.kIn, runG F hr gd hb hd hx I1 r q⟩

/-- f(k = v, ..), no value by place -/
def tCallKw (sp : Sp) (E : XK) (n : Nat) (tk : TA) : TE := fun σ H Q => tk σ H fun zs H2 => zs.length = n ∧ sp zs H2 Q E
theorem pe_callKw {ks : List Str} {kws : List Keyword} {tk : TA} (F : FnOk X.prog X.w X.K X.mg X.base CX k f fd ps sp)
    (hr : Room k X.A) (hg : Gl X x) (hm : X.mg x = some (.ref f)) (hk : PySem.W.keepIn X.K (.ref f) = true)
    (hb : ∀ (s : Shared) (ws : List Value), ws.length = ks.length → BindsTo s fd ⟨[], ks.zip ws⟩ (ps.zip ws)) (hx : Passes CX X E)
    (hkw : PK X kws tk) (hall : (backToKw pos (keywordEach kws X.env)).all (·.1.isSome) = true := by rfl)
    (hks : (backToKw pos (keywordEach kws X.env)).filterMap (·.1) = ks := by rfl)
    (hdb : (x == ("__debug__" : Str)) = false := by decide)
    (hpl : ((backTo pos (starEach [] X.env)).any (·.1) || (backToKw pos (keywordEach kws X.env)).any (·.1.isNone)) = false := by rfl) :
    PE X (.Call (.Name x p) [] kws pos) (tCallKw sp E ks.length tk) := by
  refine ⟨fun pins s σ H Q I h => wpAny_Call_Name_kw (ld_glob I hg hm ?_ hdb)⟩
  refine PySem.W.callWith_KW0 (h₀ := X.base) I.ok.mod.kin hk hall ?_ hpl
  refine thn (hkw.run pos pins s σ H _ I h) fun ws s2 z => ?_
  obtain ⟨zs, H2, I2, rz, l, q⟩ := z
  refine ⟨I2.kIn, ?_⟩
  rw [hks]
  refine wpAny_call (codeAny_mono (F.run X.A X.stack s2 H2 ⟨[], ks.zip ws⟩ ws zs Q E hr I2.env0
    (hb s2 ws (rz.length.symm.trans l)) rz q) fun r s' hq => ?_)
  match r, hq with
  | .error e, hq => exact hx pins σ H2 s2 e s' I2 hq
  | .ok (.ret u), hq => exact I2.after hq
  | .ok .next, hq => exact hq.elim
  | .ok .brk, hq => exact hq.elim
  | .ok .cont, hq => exact hq.elim
end

/-! ### repr -/
/-- no object -/
inductive Flat : V → PyData → Prop
  | non : Flat .non .none
  | bl (b : Bool) : Flat (.bl b) (.bool b)
  | int (i : Int) : Flat (.int i) (.int i)
  | str (x : Str) : Flat (.str x) (.str x)
inductive Flats : List V → List PyData → Prop
  | nil : Flats [] []
  | cons {v : V} {vs : List V} {d : PyData} {ds : List PyData} : Flat v d → Flats vs ds → Flats (v :: vs) (d :: ds)
mutual
/-- data that stands in the heap: none, truths, ints, texts, lists, tuples, dicts with int and text keys -/
inductive Dt (K : PySem.W.Frag) (H : Hp) : V → PyData → Prop
  | non : Dt K H .non .none
  | bl (b : Bool) : Dt K H (.bl b) (.bool b)
  | int (i : Int) : Dt K H (.int i) (.int i)
  | str (x : Str) : Dt K H (.str x) (.str x)
  | lst {a : Addr} {xs : List V} {ds : List PyData} : SqL K H a xs → DtAll K H xs ds → Dt K H (.ref a) (.list ds)
  | tup {a : Addr} {xs : List V} {ds : List PyData} : SqT K H a xs → DtAll K H xs ds → Dt K H (.ref a) (.tuple ds)
  | dct {a : Addr} {kvs : List (Key × V)} {ps : List (PyData × PyData)} : H a = some (.dK kvs) →
      Flats (kvs.map fun p => kV p.1) (ps.map (·.1)) → Flats (kvs.map (·.2)) (ps.map (·.2)) →
      Dt K H (.ref a) (.dict ps)
inductive DtAll (K : PySem.W.Frag) (H : Hp) : List V → List PyData → Prop
  | nil : DtAll K H [] []
  | cons {v : V} {vs : List V} {d : PyData} {ds : List PyData} : Dt K H v d → DtAll K H vs ds → DtAll K H (v :: vs) (d :: ds)
end

theorem Flat.reads {h : Heap} {v : V} {d : PyData} {u : Value} (f : Flat v d) (r : RelV v u) : Reads h u d [] := by
  cases f with
  | non => cases r; exact .none
  | bl b => cases r; exact .bool b
  | int i => obtain ⟨t, rfl⟩ := r; exact .int i t
  | str x => obtain ⟨t, rfl⟩ := r; exact .str x t
theorem Flats.reads {h : Heap} : ∀ {vs : List V} {ds : List PyData} {us : List Value}, Flats vs ds → Vals vs us → ReadsAll h us ds []
  | _, _, _, .nil, .nil => .nil
  | _, _, _, .cons f fs, .cons r rs => .cons (f.reads r) (fs.reads rs)
theorem keys_rel {P : Program} {w : World} : ∀ {es : List DictEntry} {vs : List (Key × Value)} {kvs : List (Key × V)}, Pairs (mixKind P w) es vs → KV kvs vs →
    Vals (kvs.map fun p => kV p.1) (es.map (·.key)) ∧ Vals (kvs.map (·.2)) (es.map (·.val))
  | [], _, _, .nil, .nil => ⟨.nil, .nil⟩
  | e :: es, (k, x) :: vs, (k', y) :: kvs, .cons h1 h2 hp, .cons r rs => by
    obtain ⟨a, b⟩ := keys_rel hp rs
    obtain ⟨e1, e2⟩ := r
    have e1' : k' = k := e1
    subst e1'
    refine ⟨.cons ?_ a, .cons ?_ b⟩
    · rcases keyIs_shape h1 with ⟨i, t, q1, q2⟩ | ⟨z, t, q1, q2⟩
      · have q1' : k' = Sum.inl i := q1
        subst q1'
        exact ⟨t, q2⟩
      · have q1' : k' = Sum.inr z := q1
        subst q1'
        exact ⟨t, q2⟩
    · show L2.RelV y e.val
      rw [h2]
      exact e2
section
variable {X : Cx} {pins : List (Addr × Obj)} {σ : L2.St} {H : Hp} {s : Shared}
/-- a dict alone may hold a dict (itself) -/
def DictTop (d : PyData) : Prop := d.hasDict = false ∨ ∃ ps, d = .dict ps
mutual
theorem Dt.reads (I : Inv X pins σ H s) : ∀ (d : PyData) (v : V) (u : Value), Dt X.K H v d → RelV v u →
    ∃ as, Reads s.heap u d as ∧ ((∃ ps, d = .dict ps) → sysModules ∉ as)
  | .none, _, _, h, r => by
    cases h; cases r
    exact ⟨_, .none, fun z => by obtain ⟨_, z⟩ := z; cases z⟩
  | .bool b, _, _, h, r => by
    cases h; cases r
    exact ⟨_, .bool b, fun z => by obtain ⟨_, z⟩ := z; cases z⟩
  | .int i, _, _, h, r => by
    cases h
    obtain ⟨t, rfl⟩ := r
    exact ⟨_, .int i t, fun z => by obtain ⟨_, z⟩ := z; cases z⟩
  | .str x, _, _, h, r => by
    cases h
    obtain ⟨t, rfl⟩ := r
    exact ⟨_, .str x t, fun z => by obtain ⟨_, z⟩ := z; cases z⟩
  | .list ds, _, _, h, r => by
    cases h with
    | lst hs ha =>
      cases r
      obtain ⟨its, rv, ⟨o, n, ho, hc, _, hd⟩, _⟩ := I.list hs
      obtain ⟨as, q⟩ := Dt.readsAll I ds _ its ha rv
      exact ⟨_, .list ho hc hd q, fun z => by obtain ⟨_, z⟩ := z; cases z⟩
  | .tuple ds, _, _, h, r => by
    cases h with
    | tup hs ha =>
      cases r
      obtain ⟨its, rv, ⟨o, ho, hc, n, hd⟩, _⟩ := I.tuple hs
      obtain ⟨as, q⟩ := Dt.readsAll I ds _ its ha rv
      exact ⟨_, .tuple ho hc hd q, fun z => by obtain ⟨_, z⟩ := z; cases z⟩
  | .dict ps, _, _, h, r => by
    cases h with
    | dct e fk fv =>
      cases r
      obtain ⟨_, ns, vs, kv, o, es, ep, ho, hx, hd, _, hp, _⟩ := I.hok _ _ e
      obtain ⟨a, b⟩ := keys_rel hp kv
      refine ⟨_, .dict ho hx.1 hd (fk.reads a) (fv.reads b), fun _ z => ?_⟩
      have z' := List.mem_singleton.mp (by simpa using z)
      rw [← z'] at ns
      simp at ns
theorem Dt.readsAll (I : Inv X pins σ H s) : ∀ (ds : List PyData) (vs : List V) (us : List Value), DtAll X.K H vs ds → Vals vs us → ∃ as, ReadsAll s.heap us ds as
  | [], _, _, h, r => by
    cases h; cases r
    exact ⟨_, .nil⟩
  | d :: ds, _, _, h, r => by
    cases h with
    | cons h1 h2 =>
      cases r with
      | cons r1 r2 =>
        obtain ⟨as, q1, _⟩ := Dt.reads I d _ _ h1 r1
        obtain ⟨bs, q2⟩ := Dt.readsAll I ds _ _ h2 r2
        exact ⟨_, .cons q1 q2⟩
end
end
section
variable {X : Cx}
def rRepr (K : PySem.W.Frag) : List V → Hp → VK → Prop := fun xs H Q => ∃ v d, xs = [v] ∧ Dt K H v d ∧ d.showable = true ∧ DictTop d ∧ d.depth ≤ 20 ∧ ((∃ i, d = .int i) ∨ d.shown.length ≤ sizeLine) ∧ Q (.str d.shown) H
theorem notInt {d : PyData} {A : Prop} (h : (∃ i, d = .int i) ∨ A) (n : ∀ i, d ≠ .int i) : A := h.elim (fun z => let ⟨i, e⟩ := z; absurd e (n i)) id
theorem call_repr {k : Nat} (hr : Room k X.A) (hg : X.A.guards = some []) : CallR X (.builtin "repr") (rRepr X.K) := by
  intro pins s σ H xs us Q I r h
  obtain ⟨v, d, rfl, hd, hs, ht, hp, hz, q⟩ := h
  obtain ⟨u, rfl, ru⟩ := vals1 r
  obtain ⟨as, rd, nsm⟩ := Dt.reads I d v u hd ru
  have hu := hr.units
  have big : ∀ a, u = .ref a → d.shown.length ≤ sizeLine → wpAny (model X.prog X.w) X.A (call (.builtin "repr") [u]) (EP X pins σ Q) X.xe s := by
    rintro a rfl hz
    refine repr_of_reads' rd hs (fun hx => ?_) hg (by omega) (fun _ _ e => e) (fun h' t tk hk => ?_) hz
    · rcases ht with z | z
      · rw [z] at hx; cases hx
      · exact nsm z
    · exact ⟨.str _, H, I.kept hk, ⟨t, rfl⟩, q⟩
  cases hd with
  | non => cases ru; exact PySem.P.repr_of_none ⟨.str _, H, I.tok _, ⟨_, rfl⟩, q⟩
  | bl b => cases ru; exact PySem.P.repr_of_bool ⟨.str _, H, I.tok _, ⟨_, rfl⟩, q⟩
  | int i =>
    obtain ⟨t, rfl⟩ := ru
    exact PySem.P.repr_of_int (by simpa [PyData.showable] using hs) ⟨.str _, H, I.tok _, ⟨_, rfl⟩, by simpa [PyData.shown] using q⟩
  | str x =>
    obtain ⟨t, rfl⟩ := ru
    exact PySem.P.repr_of_str ⟨.str _, H, I.tok _, ⟨_, rfl⟩, by simpa [PyData.shown] using q⟩ (by simpa [PyData.shown] using notInt hz (fun _ z => nomatch z))
  | lst _ _ => exact big _ ru (notInt hz fun _ z => nomatch z)
  | tup _ _ => exact big _ ru (notInt hz fun _ z => nomatch z)
  | dct _ _ _ => exact big _ ru (notInt hz fun _ z => nomatch z)
end

/-! ### the law's own call -/
section
open PySem.W
/-- the abstract heap at the law's entry: the script alone, locked, or nothing where it is the module's own -/
def entryH (K : Frag) (a : Addr) (o : Obj) (xs : List V) : Hp := fun b => if b = a ∧ K.lookup a = none then some (.frz o (.lst xs)) else none
theorem entryH_at {K : Frag} {a b : Addr} {o : Obj} {xs : List V} {u : HO} (h : entryH K a o xs b = some u) : b = a ∧ K.lookup a = none ∧ u = .frz o (.lst xs) := by
  unfold entryH at h
  split at h
  · rename_i c
    exact ⟨c.1, c.2, (Option.some.inj h).symm⟩
  · cases h
theorem law_callG {P : Program} {w : World} {K : Frag} {mg mb : Str → Option Value} {CX : CXT} {k : Nat} {fa a : Addr} {fd : FuncData}
    {x : Str} {sp : Sp} {s₁ : Shared} {vs : List Value} {ns : List Int}
    (KX : K.In s₁.heap) (hns : s₁.heap.Ns mainGlobals mg) (hb : s₁.heap.Ns builtinsNs mb)
    (hbb : ∀ x : Str, x ≠ "__name__" → mb x = bootBuiltins x) (hlim : s₁.heap.NoLimit) (hg : s₁.gens = #[])
    (ha : s₁.heap.get? a = some { cls := .type "list", data := .seq vs.toArray }) (hi : IntsAre vs ns)
    (hl : ns.length ≤ sizeLine) (hr : Room k callerA)
    (F : ∀ base : Heap, K.In base → base.Ns mainGlobals mg → FnG P w K mg base CX k fa fd [x] sp)
    (hbind : ∀ (s : Shared) (u : Value), BindsTo s fd ⟨[u], []⟩ [(x, u)])
    (hsp : ∀ H : Hp, Only H → SqL K H a (ns.map V.int) → sp [.ref a] H (fun v _ => v = .bl true) fun _ _ _ => False)
    (hCX : ∀ H e s', CX [] H s₁ (fun _ _ _ => False) e s' → False) :
    codeAny (model P w) callerA (.call (.ref fa) ⟨[.ref a], []⟩)
      (fun r s' => r = .ok (.ret (.bool true)) ∧ OldK s₁.heap s'.heap ∧ s'.os = s₁.os ∧ AllBare s'.gens) s₁ := by
  have rv := vals_ints hi
  have lv := hi.length
  generalize hH : entryH K a { cls := .type "list", data := .seq vs.toArray } (ns.map V.int) = H
  have hat : ∀ {b : Addr} {u : HO}, H b = some u → b = a ∧ K.lookup a = none ∧ u = .frz { cls := .type "list", data := .seq vs.toArray } (.lst (ns.map V.int)) :=
    fun {b u} e => entryH_at (by rw [hH]; exact e)
  have only : Only H := fun b => by
    cases q : H b with
    | none => exact .inl rfl
    | some u =>
      obtain ⟨_, _, rfl⟩ := hat q
      exact .inr ⟨_, _, rfl⟩
  have sq : SqL K H a (ns.map V.int) := by
    cases hk : K.lookup a with
    | none =>
      refine .inl (.inr ⟨{ cls := .type "list", data := .seq vs.toArray }, ?_⟩)
      rw [← hH]
      exact if_pos ⟨rfl, hk⟩
    | some o =>
      have e := KX a o hk
      rw [ha] at e
      cases e
      exact .inr ⟨_, vs.toArray, _, hk, rfl, rfl, rfl, by rw [List.size_toArray, lv]; exact hl, by simpa using rv⟩
  have hok : HOk P w H s₁.heap := fun b u e => by
    obtain ⟨rfl, _, rfl⟩ := hat e
    exact ⟨ha, by rw [List.length_map]; exact hl, vs, _, rv, ha⟩
  have dictFree : ∀ {b : Addr} {o : Obj} {es : Array DictEntry} {ep : Nat}, s₁.heap.get? b = some o → o.data = .dict es ep → H b = none := fun {b o es ep} e d => by
    cases q : H b with
    | none => rfl
    | some u =>
      obtain ⟨rfl, _, _⟩ := hat q
      rw [ha] at e
      cases e
      cases d
  have nsK : ∀ {b : Addr} {m : Str → Option Value}, s₁.heap.Ns b m → (hidT s₁.heap H).Ns b m :=
    fun {b m} z => let ⟨o, es, ep, e, d, r⟩ := z; ⟨o, es, ep, hidT_get e (dictFree e d), d, r⟩
  have kb : K.In (hidT s₁.heap H) := fun b o e => hidT_get (KX b o e) (by
    cases q : H b with
    | none => rfl
    | some u =>
      obtain ⟨rfl, z, _⟩ := hat q
      rw [z] at e
      cases e)
  have md : Mod K mg (hidT s₁.heap H) := ⟨kb, nsK hns, ⟨mb, nsK hb, hbb⟩, let ⟨mc, h1, h2⟩ := hlim; ⟨mc, nsK h1, h2⟩⟩
  have e0 : Env0 P w K mg (hidT s₁.heap H) callerA [] s₁ H :=
    { frames := rfl, mod := md, bs := fun b o e => of_hidT e, bsz := Nat.le_of_eq (hidT_size _ _), funs := trivial, frf := fun b z => absurd (show b ∈ ([] : List Addr) from z) (by simp), hok := hok, bare := .of_eq hg }
  refine codeAny_mono ((F _ kb (nsK hns)).go callerA [] s₁ H ⟨[.ref a], []⟩ [.ref a] [.ref a] _ _ hr rfl e0 (hbind s₁ (.ref a)) (.cons rfl .nil) (hsp H only sq)) fun r s' h => ?_
  match r, h with
  | .error e, h => exact (hCX H e s' h).elim
  | .ok .next, h => exact h.elim
  | .ok .brk, h => exact h.elim
  | .ok .cont, h => exact h.elim
  | .ok (.ret u), h =>
    obtain ⟨v, H', os, bare, un, hok', r', q⟩ := h
    have q' : v = .bl true := q
    subst q'
    obtain rfl : u = Value.bool true := r'
    refine ⟨rfl, OldK.of_keep fun b o e => ?_, os, bare⟩
    cases z : H b with
    | none => exact un.keep b o e z (fun y => absurd (show b ∈ ([] : List Addr) from y) (by simp)) (by simp)
    | some u =>
      obtain ⟨rfl, _, rfl⟩ := hat z
      have z2 := un.frzs _ _ _ z
      have e2 := (hok' _ _ z2).1
      rw [ha] at e
      cases e
      exact e2
/-- as walk_of, no repr being under way -/
theorem walk_ofG {l : OpenLaw} {n k : Nat} {q : Program} {loose : List Str} {XP : (Str → Option Value) → Heap → Prop} {YP : World → Heap → Prop}
    {d : DefRec} {K : Params → Frag} {CX : World → CXT} {sp : World → Sp} {x : Str}
    (hn : l.most = some n) (hn2 : n ≤ sizeLine) (hdf : d.params.defaults = []) (hr : Room k callerA)
    (hY : ∀ (w : World) (h : Heap), YP w h → (K w.params).In h)
    (F : ∀ (w : World) (mg : Str → Option Value) (fa : Addr) (h : Heap), (K w.params).In h → h.Ns mainGlobals mg →
      mg d.name = some (.ref fa) → ∃ fd : FuncData, (∀ (s : Shared) (u : Value), BindsTo s fd ⟨[u], []⟩ [(x, u)]) ∧
        ∀ base : Heap, (K w.params).In base → base.Ns mainGlobals mg → FnG l.prog w (K w.params) mg base (CX w) k fa fd [x] (sp w))
    (hsp : ∀ (w : World) (H : Hp) (a : Addr) (ns : List Int), ns.length ≤ n → Only H → SqL (K w.params) H a (ns.map V.int) →
      sp w [.ref a] H (fun v _ => v = .bl true) fun _ _ _ => False)
    (hCX : ∀ (w : World) (H : Hp) (s : Shared) (e : Value) (s' : Shared), CX w [] H s (fun _ _ _ => False) e s' → False) :
    WalkO q loose XP YP l.row.toRowW d [] (fun f vs => PySem.call f vs) := by
  refine Att.attach_call hn hdf fun w s₀ s₁ mg mb fa o pm cd doc a vs ns G Y ho hd hcd hmg hobj hints hlen hg => ?_
  obtain ⟨fd, b1, b2⟩ := F w mg fa _ (hY w _ Y) G.T.g hmg
  exact law_callG (hY w _ Y) G.T.g G.T.b G.T.builtins G.T.nolimit hg hobj hints (Nat.le_trans hlen hn2) hr b2 b1
    (fun H hO hS => hsp w H a ns hlen hO hS) fun H e s' => hCX w H s₁ e s'
end
end Rc

set_option exponentiation.threshold 400
namespace Rc
open PySem PySem.Spec PyProof.Rows L2
/-! ### the mathematics -/
def abc : List Nat := (List.range 26).map (· + 97)
def nameT (z : Str) : Bool := decide (1 ≤ z.length) && decide (z.length ≤ 8) && z.cps.toList.all fun c => decide (c ∈ abc)
def nameD : PyData → Bool
  | .str z => nameT z
  | _ => false
def wholeD : PyData → Bool
  | .int _ => true
  | _ => false
def amountD : PyData → Bool
  | .int i => decide (1 ≤ i)
  | _ => false
def tyD : PyData → String
  | .none => "NoneType"
  | .bool _ => "bool"
  | .int _ => "int"
  | .str _ => "str"
  | .list _ => "list"
  | .tuple _ => "tuple"
  | .dict _ => "dict"
def strD : PyData → Bool
  | .str _ => true
  | _ => false
def boolD : PyData → Bool
  | .bool _ => true
  | _ => false
theorem Dt.ty {K : PySem.W.Frag} {H : Hp} {v : V} {d : PyData} (h : Dt K H v d) : TyX K H v (.type (tyD d)) := by
  cases h with
  | non => exact .base .non
  | bl b => exact .base (.bl b)
  | int i => exact .base (.int i)
  | str x => exact .base (.str x)
  | lst q _ =>
    rcases q with (q | ⟨o, q⟩) | ⟨o, its, n, hk, hc, _⟩
    · exact .base (.lst q)
    · exact .base (.frz q)
    · exact .kList hk hc
  | tup q _ =>
    rcases q with (q | ⟨o, q⟩) | ⟨o, its, n, hk, hc, _⟩
    · exact .base (.tup q)
    · exact .fTuple q
    · exact .kTuple hk hc
  | dct q _ _ => exact .base (.dK q)
theorem kit_str {K : PySem.W.Frag} (d : PyData) : PySem.W.kitOne K (.type (tyD d)) (.type "str") = some (strD d) :=
  match d with
  | PyData.none => kit_ty (a := "NoneType") (b := "str") (r := false) (by decide +kernel)
  | .bool _ => kit_ty (a := "bool") (b := "str") (r := false) (by decide +kernel)
  | .int _ => kit_ty (a := "int") (b := "str") (r := false) (by decide +kernel)
  | .str _ => kit_ty (a := "str") (b := "str") (r := true) (by decide +kernel)
  | .list _ => kit_ty (a := "list") (b := "str") (r := false) (by decide +kernel)
  | .tuple _ => kit_ty (a := "tuple") (b := "str") (r := false) (by decide +kernel)
  | .dict _ => kit_ty (a := "dict") (b := "str") (r := false) (by decide +kernel)
theorem kit_int {K : PySem.W.Frag} (d : PyData) : PySem.W.kitOne K (.type (tyD d)) (.type "int") = some (wholeD d || boolD d) :=
  match d with
  | PyData.none => kit_ty (a := "NoneType") (b := "int") (r := false) (by decide +kernel)
  | .bool _ => kit_ty (a := "bool") (b := "int") (r := true) (by decide +kernel)
  | .int _ => kit_ty (a := "int") (b := "int") (r := true) (by decide +kernel)
  | .str _ => kit_ty (a := "str") (b := "int") (r := false) (by decide +kernel)
  | .list _ => kit_ty (a := "list") (b := "int") (r := false) (by decide +kernel)
  | .tuple _ => kit_ty (a := "tuple") (b := "int") (r := false) (by decide +kernel)
  | .dict _ => kit_ty (a := "dict") (b := "int") (r := false) (by decide +kernel)
theorem kit_bool {K : PySem.W.Frag} (d : PyData) : PySem.W.kitOne K (.type (tyD d)) (.type "bool") = some (boolD d) :=
  match d with
  | PyData.none => kit_ty (a := "NoneType") (b := "bool") (r := false) (by decide +kernel)
  | .bool _ => kit_ty (a := "bool") (b := "bool") (r := true) (by decide +kernel)
  | .int _ => kit_ty (a := "int") (b := "bool") (r := false) (by decide +kernel)
  | .str _ => kit_ty (a := "str") (b := "bool") (r := false) (by decide +kernel)
  | .list _ => kit_ty (a := "list") (b := "bool") (r := false) (by decide +kernel)
  | .tuple _ => kit_ty (a := "tuple") (b := "bool") (r := false) (by decide +kernel)
  | .dict _ => kit_ty (a := "dict") (b := "bool") (r := false) (by decide +kernel)
theorem same_upd {H : Hp} {p : Addr} {o : HO} (h : H p = none) : Same H (upd H p o) := fun b x e => by
  rw [upd_ne (ne_of_none e h)]
  exact e
mutual
theorem Dt.same {K : PySem.W.Frag} {H H' : Hp} (e : Same H H') : ∀ {v : V} (d : PyData), Dt K H v d → Dt K H' v d
  | _, .none, h => by cases h; exact .non
  | _, .bool _, h => by cases h; exact .bl _
  | _, .int _, h => by cases h; exact .int _
  | _, .str _, h => by cases h; exact .str _
  | _, .list ds, h => by
    cases h with
    | lst q a => exact .lst (e.seq q) (DtAll.same e ds a)
  | _, .tuple ds, h => by
    cases h with
    | tup q a =>
      refine .tup ?_ (DtAll.same e ds a)
      rcases q with (q | ⟨o, q⟩) | q
      · exact .inl (.inl (e _ _ q))
      · exact .inl (.inr ⟨o, e _ _ q⟩)
      · exact .inr q
  | _, .dict ps, h => by
    cases h with
    | dct q a b => exact .dct (e _ _ q) a b
theorem DtAll.same {K : PySem.W.Frag} {H H' : Hp} (e : Same H H') : ∀ {vs : List V} (ds : List PyData), DtAll K H vs ds → DtAll K H' vs ds
  | _, [], h => by cases h; exact .nil
  | _, d :: ds, h => by
    cases h with
    | cons a b => exact .cons (Dt.same e d a) (DtAll.same e ds b)
end
theorem iteNot {b : Bool} {A B : Prop} (e : ¬ b = true) (h : B) : if b = true then A else B := by
  rw [if_neg e]
  exact h
theorem letters_abc : (("abcdefghijklmnopqrstuvwxyz" : String) : Str).cps.toList = abc := by decide +kernel
/-- a text that is short enough -/
def ShortD (d : PyData) : Prop := ∀ z, d = .str z → z.length ≤ 1000
theorem small_line {n : Nat} (h : n ≤ 1000) : n ≤ sizeLine := Nat.le_of_lt (small1000 h)
/-! ### written data -/
theorem PE.of {X : Cx} {e : Expr} {t t' : TE} (h : PE X e t) (i : ∀ σ H Q, t' σ H Q → t σ H Q) : PE X e t' :=
  ⟨fun pins s σ H Q I q => h.run pins s σ H Q I (i σ H Q q)⟩
theorem PA.of {X : Cx} {es : List Expr} {t t' : TA} (h : PA X es t) (i : ∀ σ H Q, t' σ H Q → t σ H Q) : PA X es t' :=
  ⟨fun pos pins s σ H Q I q => h.run pos pins s σ H Q I (i σ H Q q)⟩
/-- what stands in H' and did not in H -/
def minus (H' H : Hp) : Hp := fun b => if H b = none then H' b else none
theorem minus_some {H' H : Hp} {b : Addr} {o : HO} (h : minus H' H b = some o) : H b = none ∧ H' b = some o := by
  unfold minus at h
  split at h
  · rename_i c
    exact ⟨c, h⟩
  · cases h
theorem minus_mk {H' H : Hp} {b : Addr} {o : HO} (h : H b = none) (h' : H' b = some o) : minus H' H b = some o := by
  unfold minus
  rw [if_pos h]
  exact h'
theorem minus_sub {H' H : Hp} : Same (minus H' H) H' := fun _ _ e => (minus_some e).2
theorem minus_l {H H1 H2 : Hp} (s : Same H1 H2) : Same (minus H1 H) (minus H2 H) := fun b o e => minus_mk (minus_some e).1 (s b o (minus_some e).2)
theorem minus_r {H H1 H2 : Hp} (s : Same H H1) : Same (minus H2 H1) (minus H2 H) := fun b o e => minus_mk (s.free (minus_some e).1) (minus_some e).2
theorem minus_at {H H1 : Hp} {p : Addr} {o : HO} (s : Same H H1) (h : H1 p = none) : minus (upd H1 p o) H p = some o := minus_mk (s.free h) upd_same
/-- an expression that gives the datum d, of new objects alone, all else as it was -/
def tLit (K : PySem.W.Frag) (d : PyData) : TE := fun _ H Q => ∀ v H', Same H H' → Dt K (minus H' H) v d → Q v H'
def tLits (K : PySem.W.Frag) (ds : List PyData) : TA := fun _ H Q => ∀ vs H', Same H H' → DtAll K (minus H' H) vs ds → Q vs H'
theorem DtAll.len {K : PySem.W.Frag} {H : Hp} : ∀ {vs : List V} {ds : List PyData}, DtAll K H vs ds → vs.length = ds.length
  | _, _, .nil => rfl
  | _, _, .cons _ t => by rw [List.length_cons, List.length_cons, DtAll.len t]
section
variable {X : Cx} {pos : Pos} {j : Nat} {e : Expr} {es : List Expr} {d : PyData} {ds : List PyData}
theorem l_non {j} : PE X (.Constant .none j pos) (tLit X.K .none) := PE.of pe_non fun _ H _ q => q _ H (Same.refl _) .non
theorem l_bl {b j} : PE X (.Constant (.bool b) j pos) (tLit X.K (.bool b)) := PE.of pe_bl fun _ H _ q => q _ H (Same.refl _) (.bl _)
theorem l_int {i j} : PE X (.Constant (.int i) j pos) (tLit X.K (.int i)) := PE.of pe_int fun _ H _ q => q _ H (Same.refl _) (.int _)
theorem l_str {x j} : PE X (.Constant (.str x) j pos) (tLit X.K (.str x)) := PE.of pe_str fun _ H _ q => q _ H (Same.refl _) (.str _)
theorem l_neg {i j} {p : Pos} : PE X (.UnaryOp .USub (.Constant (.int i) j p) pos) (tLit X.K (.int (-i))) := PE.of (pe_un un_neg pe_int) fun _ H _ q => ⟨i, rfl, q _ H (Same.refl _) (.int _)⟩
theorem ls_nil : PA X [] (tLits X.K []) := PA.of pa_nil fun _ H _ q => q _ H (Same.refl _) .nil
theorem ls_cons (h : PE X e (tLit X.K d)) (hs : PA X es (tLits X.K ds)) (hx : starEach (e :: es) X.env = (false, eval e X.env) :: starEach es X.env := by rfl) : PA X (e :: es) (tLits X.K (d :: ds)) :=
  PA.of (pa_cons h hs hx) fun _ _ _ q v H1 s1 h1 vs H2 s2 h2 => q (v :: vs) H2 (s1.trans s2) (.cons (Dt.same (minus_l s2) _ h1) (DtAll.same (minus_r s1) _ h2))
theorem l_lst (hs : PA X es (tLits X.K ds)) (hz : ds.length ≤ 1000 := by decide) : PE X (.List es pos) (tLit X.K (.list ds)) :=
  PE.of (pe_lst hs) fun _ _ _ q vs H1 s1 h1 => ⟨by rw [h1.len]; exact small_line hz, fun p hp => q _ _ (s1.trans (same_upd hp)) (.lst (.inl (.inl (minus_at s1 hp))) (DtAll.same (minus_l (same_upd hp)) _ h1))⟩
theorem l_tup {k} (hs : PA X es (tLits X.K ds)) (hz : ds.length ≤ 1000 := by decide) : PE X (.Tuple es k pos) (tLit X.K (.tuple ds)) :=
  PE.of (pe_tup hs) fun _ _ _ q vs H1 s1 h1 => ⟨by rw [h1.len]; exact small_line hz, fun p hp => q _ _ (s1.trans (same_upd hp)) (.tup (.inl (.inl (minus_at s1 hp))) (DtAll.same (minus_l (same_upd hp)) _ h1))⟩
theorem l_dct0 : PE X (.Dict [] [] pos) (tLit X.K (.dict [])) :=
  PE.of pe_dnewK fun _ _ _ q p hp => q _ _ (same_upd hp) (.dct (minus_at (Same.refl _) hp) .nil .nil)
theorem l_dctS {z i j1 j2} {p1 p2 : Pos} : PE X (.Dict [some (.Constant (.str z) j1 p1)] [.Constant (.int i) j2 p2] pos) (tLit X.K (.dict [(.str z, .int i)])) :=
  PE.of (pe_disp (pps_cons pe_str pe_int pps_nil) (by rfl) (by rfl) (fun z => by cases z) (by show 1 ≤ 15; decide)) fun _ _ _ q p hp =>
    ⟨upd_same, [(.inr z, .int i)], rfl, by show 1 ≤ 15; decide, by
      rw [upd_upd]
      exact q _ _ (same_upd hp) (.dct (minus_at (Same.refl _) hp) (.cons (.str z) .nil) (.cons (.int i) .nil))⟩
theorem l_dctI {z i j1 j2} {p1 p2 : Pos} : PE X (.Dict [some (.Constant (.int i) j1 p1)] [.Constant (.str z) j2 p2] pos) (tLit X.K (.dict [(.int i, .str z)])) :=
  PE.of (pe_disp (pps_cons pe_int pe_str pps_nil) (by rfl) (by rfl) (fun z => by cases z) (by show 1 ≤ 15; decide)) fun _ _ _ q p hp =>
    ⟨upd_same, [(.inl i, .str z)], rfl, by show 1 ≤ 15; decide, by
      rw [upd_upd]
      exact q _ _ (same_upd hp) (.dct (minus_at (Same.refl _) hp) (.cons (.int i) .nil) (.cons (.str z) .nil))⟩
/-- a written list of data as a list -/
def tLitL (K : PySem.W.Frag) (ds : List PyData) : TE := fun _ H Q => ∀ l xs H', Same H H' → H l = none → H' l = some (.lst xs) → DtAll K (minus H' H) xs ds → Q (.ref l) H'
theorem l_list (hs : PA X es (tLits X.K ds)) (hz : ds.length ≤ 1000 := by decide) : PE X (.List es pos) (tLitL X.K ds) :=
  PE.of (pe_lst hs) fun _ _ _ q vs H1 s1 h1 => ⟨by rw [h1.len]; exact small_line hz, fun p hp => q p vs _ (s1.trans (same_upd hp)) (s1.free hp) upd_same (DtAll.same (minus_l (same_upd hp)) _ h1)⟩
end
theorem DtAll.append {K : PySem.W.Frag} {H : Hp} : ∀ {vs us : List V} {ds es : List PyData}, DtAll K H vs ds → DtAll K H us es → DtAll K H (vs ++ us) (ds ++ es)
  | _, _, _, _, .nil, h => h
  | _, _, _, _, .cons a t, h => .cons a (DtAll.append t h)
theorem DtAll.mem {K : PySem.W.Frag} {H : Hp} : ∀ {vs : List V} {ds : List PyData} {v : V}, DtAll K H vs ds → v ∈ vs → ∃ d, d ∈ ds ∧ Dt K H v d
  | _, _, _, .nil, h => by cases h
  | _, _, _, .cons a t, h => by
    rcases List.mem_cons.mp h with e | e
    · subst e
      exact ⟨_, List.mem_cons_self, a⟩
    · obtain ⟨d, h1, h2⟩ := DtAll.mem t e
      exact ⟨d, List.mem_cons_of_mem _ h1, h2⟩
/-- an item by a number in the bounds -/
theorem pick {α : Type} {xs : List α} {i : Int} (h0 : 0 ≤ i) (h1 : i < xs.length) : ∃ v, atI xs i = some v ∧ v ∈ xs := by
  obtain ⟨n, rfl⟩ := Int.eq_ofNat_of_zero_le h0
  have hn : n < xs.length := by omega
  exact ⟨xs[n], atI_nat (List.getElem?_eq_getElem hn), List.getElem_mem hn⟩
/-- a pot: two numbers -/
def Pot (H : Hp) (p : Addr) : Prop := ∃ x y : Int, H p = some (.lst [.int x, .int y]) ∧ 0 ≤ x ∧ 0 ≤ y ∧ y < 2147483648
/-- all but p as it was -/
def But (p : Addr) (H H' : Hp) : Prop := ∀ b o, b ≠ p → H b = some o → H' b = some o
theorem But.refl (p : Addr) (H : Hp) : But p H H := fun _ _ _ e => e
theorem But.trans {p : Addr} {H H1 H2 : Hp} (a : But p H H1) (b : But p H1 H2) : But p H H2 := fun c o n e => b c o n (a c o n e)
theorem But.new {p q : Addr} {H : Hp} {o : HO} (h : H q = none) : But p H (upd H q o) := fun b x _ e => same_upd h b x e
theorem But.at {p : Addr} {H : Hp} {o : HO} : But p H (upd H p o) := fun b x n e => by rw [upd_ne n]; exact e
theorem Pot.new {p q : Addr} {H : Hp} {o : HO} (h : H q = none) (P : Pot H p) : Pot (upd H q o) p := by
  obtain ⟨x, y, e, r⟩ := P
  exact ⟨x, y, same_upd h _ _ e, r⟩
theorem Pot.but {p q : Addr} {H H' : Hp} (P : Pot H p) (b : But q H H') (n : p ≠ q) : Pot H' p := by
  obtain ⟨x, y, e, r⟩ := P
  exact ⟨x, y, b _ _ n e, r⟩
def LitM (m : Int) : Prop := 0 < m ∧ m.natAbs.log2 < 9000
/-- all but p -/
def away (p : Addr) (H : Hp) : Hp := fun b => if b = p then none else H b
theorem away_some {p b : Addr} {H : Hp} {o : HO} (h : away p H b = some o) : b ≠ p ∧ H b = some o := by
  unfold away at h
  split at h
  · cases h
  · rename_i c
    exact ⟨c, h⟩
theorem away_mk {p b : Addr} {H : Hp} {o : HO} (n : b ≠ p) (h : H b = some o) : away p H b = some o := by
  unfold away
  rw [if_neg n]
  exact h
theorem But.away {p : Addr} {H H' : Hp} (b : But p H H') : Same (away p H) (away p H') := fun c o e => away_mk (away_some e).1 (b c o (away_some e).1 (away_some e).2)
theorem away_sub {p : Addr} {H : Hp} : Same (away p H) H := fun _ _ e => (away_some e).2
/-! ### texts that are drawn -/
def Tx (n : Nat) (z : Str) : Prop := z.length ≤ n ∧ ∀ c ∈ z.cps.toList, c < 128
theorem Tx.mono {n m : Nat} {z : Str} (h : Tx n z) (hn : n ≤ m) : Tx m z := ⟨Nat.le_trans h.1 hn, h.2⟩
theorem Tx.app {n m : Nat} {z y : Str} (h : Tx n z) (g : Tx m y) : Tx (n + m) (z ++ y) := by
  refine ⟨by rw [Str.length_append]; exact Nat.add_le_add h.1 g.1, fun c hc => ?_⟩
  rw [Str.cps_append, Array.toList_append, List.mem_append] at hc
  exact hc.elim (h.2 c) (g.2 c)
theorem Tx.cut {n : Nat} {z : Str} (h : Tx n z) (lo hi : Option Int) : Tx n (cutS z lo hi) :=
  ⟨Nat.le_trans (cutS_length z lo hi) h.1, fun c hc => h.2 c (List.mem_of_mem_drop (List.mem_of_mem_take hc))⟩
theorem joinL_ones : ∀ cs : List Nat, TL.joinL [] (cs.map fun c => [c]) = cs
  | [] => rfl
  | [_] => rfl
  | c :: d :: r => by
    show [c] ++ ([] ++ TL.joinL [] ((d :: r).map fun c => [c])) = c :: d :: r
    rw [joinL_ones (d :: r)]
    rfl
theorem join_ones (cs : List Nat) : (Txt.join "" (cs.map fun c => (⟨#[c]⟩ : Str))).cps.toList = cs := by
  rw [TL.join_eq]
  have h := TL.tl_join "" (cs.map fun c => (⟨#[c]⟩ : Str))
  have e : (cs.map fun c => (⟨#[c]⟩ : Str)).map TL.tl = cs.map fun c => [c] := by
    rw [List.map_map]
    rfl
  rw [e] at h
  exact h.trans (joinL_ones cs)
theorem Tx.join {cs : List Nat} {n : Nat} (hn : cs.length ≤ n) (h : ∀ c ∈ cs, c < 128) : Tx n (Txt.join "" (cs.map fun c => (⟨#[c]⟩ : Str))) := by
  have e := join_ones cs
  refine ⟨?_, fun c hc => h c (e ▸ hc)⟩
  show (Txt.join "" (cs.map fun c => (⟨#[c]⟩ : Str))).cps.size ≤ n
  rw [← Array.length_toList, e]
  exact hn
theorem lens_ones : ∀ cs : List Nat, ((cs.map fun c => (⟨#[c]⟩ : Str)).map (·.length)).sum = cs.length
  | [] => rfl
  | c :: r => by
    show 1 + ((r.map fun c => (⟨#[c]⟩ : Str)).map (·.length)).sum = r.length + 1
    rw [lens_ones r]
    omega
theorem litM (m : Int) (h : 0 < m) (h2 : m < 2 ^ 300) : LitM m := by
  refine ⟨h, ?_⟩
  have a : m.natAbs < 2 ^ 300 := by omega
  exact Nat.lt_trans (PySem.Flt.log2_lt_of (by decide) a) (by decide)
theorem same_but {p : Addr} {H H' : Hp} (s : Same H H') : But p H H' := fun b o _ e => s b o e
theorem Pot.same {p : Addr} {H H' : Hp} (h : Pot H p) (s : Same H H') : Pot H' p := by
  obtain ⟨x, y, e, r⟩ := h
  exact ⟨x, y, s _ _ e, r⟩
end Rc

namespace Rc
open PySem PySem.Spec PyProof.Rows L2
def topS (i : Nat) : Stmt := PySem.Challenge.pw_ringclear_k11_made_and_told.main.body.getD i (.Pass ⟨0, 0, 0, 0⟩)
section
variable {P : Program} {w : World} {K : PySem.W.Frag} {mg : Str → Option Value} {base : Heap}
/-! ### is_name -/
abbrev sName : Stmt := topS 19
theorem scName : FnScope ["thing", "sign"] ["thing"] (defScope sName) := ⟨rfl, rfl, rfl, by decide +kernel, rfl, by decide +kernel, by decide +kernel⟩
def spBool (K : PySem.W.Frag) (f : PyData → Bool) : Sp := fun vs H Q _ => ∃ v d, vs = [v] ∧ Dt K H v d ∧ ShortD d ∧ ∀ H', Same H H' → Q (.bl (f d)) H'
structure Blt (mg : Str → Option Value) : Prop where
  isi : mg "isinstance" = none
  str : mg "str" = none
  int : mg "int" = none
  bool : mg "bool" = none
  len : mg "len" = none
  all : mg "all" = none
theorem ok_name {f : Addr} {fd : FuncData} {k : Nat} (F : Fun K "is_name" "is_name" sName f fd) (B : Blt mg)
    (gL : ∃ t, mg "LETTERS" = some (.str "abcdefghijklmnopqrstuvwxyz" t)) (gM : ∃ t, mg "LONGEST" = some (.int 8 t)) :
    FnOk P w K mg base CX0 (k + 1) f fd ["thing"] (spBool K nameD) := by
  obtain ⟨tL, gL⟩ := gL
  obtain ⟨tM, gM⟩ := gM
  refine F.ok scName (fun vs H Q E h => ?_) (fun cdv A outer s H vs Q E hr h => ?_)
  · obtain ⟨v, d, rfl, _⟩ := h
    rfl
  · obtain ⟨v, d, rfl, hd, hz, q⟩ := h
    refine ⟨_, pss_cons (ps_if (pt_not (pt_val (pe_callB call_isi (by rfl) B.isi (by decide +kernel) (pa_cons (pv 0) (pa_cons (pe_bltn (v := .ty "str") (by rfl) B.str (by decide +kernel) rfl) pa_nil)))))
        (pss_one (ps_ret pe_bl)) pss_nil)
      (pss_cons (ps_if (PW.pt (pw_or (pt_cmpR op_lt (pe_callB call_len_str (by rfl) B.len PySem.boot_len (pa_cons (pv 0) pa_nil)) pe_int (nomark _))
          (pw_or1 (pt_cmpR op_gt (pe_callB call_len_str (by rfl) B.len PySem.boot_len (pa_cons (pv 0) pa_nil)) (pe_glob (v := .int 8) (by rfl) gM ⟨_, rfl⟩) (nomark _)))))
        (pss_one (ps_ret pe_bl)) pss_nil)
      (pss_one (ps_ret (pe_callB (cr_all rfl) (by rfl) B.all (by decide +kernel) (pa_cons
        (pe_lc (own := [("sign", 1)]) (g := gName 1) (tt := tYes) rfl scName.nd (pi_str (pv 0)) (blkOk_by (N := ["thing", "sign"]) (sc := defScope sName) (own := [("sign", 1)]) (by decide +kernel))
          (fun _ _ _ _ _ => pg_name (i := 1) scName.nd rfl (.inl rfl)) (fun _ _ _ _ _ => pts_nil)
          (fun _ _ _ _ _ => pe_cmpR op_in_sign (pv 1) (pe_glob (v := .str "abcdefghijklmnopqrstuvwxyz") (by rfl) gL ⟨_, rfl⟩) (by rfl))) pa_nil))))), ?_⟩
    refine ⟨v, rfl, v, .ty "str", _, _, strD d, rfl, .ty "str", hd.ty, kit_str d, _, rfl, ?_⟩
    cases hd with
    | str z =>
      refine iteF ?_
      have hz1 := hz z rfl
      have hz2 := small_line hz1
      refine ⟨.str z, rfl, z, rfl, hz2, _, _, rfl, rfl, _, rfl, ite2 (fun e => ?_) (fun e => ?_)⟩
      · refine iteT ?_
        have e1 : (z.length : Int) < 1 := of_decide_eq_true e
        have en : nameD (.str z) = false := by
          show nameT z = false
          unfold nameT
          rw [decide_eq_false (show ¬ 1 ≤ z.length by omega)]
          rfl
        rw [en] at q
        exact q _ (Same.refl _)
      · have e1 : ¬ (z.length : Int) < 1 := fun c => e (decide_eq_true c)
        refine ⟨.str z, rfl, z, rfl, hz2, _, _, rfl, rfl, _, rfl, ite2 (fun e2 => ?_) (fun e2 => ?_)⟩
        · have e3 : (8 : Int) < z.length := of_decide_eq_true e2
          have en : nameD (.str z) = false := by
            show nameT z = false
            unfold nameT
            rw [decide_eq_false (show ¬ z.length ≤ 8 by omega), Bool.and_false]
            rfl
          rw [en] at q
          exact q _ (Same.refl _)
        · have e3 : ¬ (8 : Int) < z.length := fun c => e2 (decide_eq_true c)
          refine ⟨.str z, rfl, z, rfl, fun D hD => lc_it walk_str (fun i H' => Same H H' ∧ H' D = some (.lst ((z.cps.toList.take i).map fun c => .bl (decide (c ∈ abc)))))
            ⟨same_upd hD, upd_same⟩ (fun _ _ _ _ => trivial) (fun i x H1 H2 hi hP hY => ?_) (fun H1 hP => ?_)⟩
          · obtain ⟨rfl, c, hc, rfl⟩ := hY
            refine ⟨rfl, .str ⟨#[c]⟩, rfl, c, _, rfl, rfl, _, hP.2, ?_, ?_, ?_⟩
            · rw [List.length_map, List.length_take]
              exact Nat.lt_of_le_of_lt (Nat.min_le_left _ _) (small1000 (by have : z.cps.size = z.length := rfl; omega))
            · intro b o eb
              rw [upd_ne (ne_of_none eb hD)]
              exact hP.1 b o eb
            · rw [upd_same, List.take_add_one, List.map_append]
              have g : z.cps.toList[i]? = some c := by rw [Array.getElem?_toList]; exact hc
              rw [g, letters_abc]
              rfl
          · refine ⟨D, z.cps.toList.map fun c => decide (c ∈ abc), rfl, .inl (.inl ?_), ?_⟩
            · have ez : z.cps.size = z.cps.toList.length := rfl
              rw [hP.2, ez, List.take_length, List.map_map]
              rfl
            · have en : nameD (.str z) = (z.cps.toList.map fun c => decide (c ∈ abc)).all id := by
                show nameT z = _
                unfold nameT
                rw [decide_eq_true (show 1 ≤ z.length by omega), decide_eq_true (show z.length ≤ 8 by omega), List.all_map]
                rfl
              rw [← en]
              exact q _ hP.1
    | _ => exact iteT (q _ (Same.refl _))
/-! ### is_whole, is_amount -/
abbrev sWhole : Stmt := topS 20
theorem scWhole : FnScope ["thing"] ["thing"] (defScope sWhole) := ⟨rfl, rfl, rfl, by decide +kernel, rfl, by decide +kernel, by decide +kernel⟩
theorem whole_eq (d : PyData) : (if (wholeD d || boolD d) = true then !boolD d else false) = wholeD d := by cases d <;> rfl
theorem ok_whole {f : Addr} {fd : FuncData} {k : Nat} (F : Fun K "is_whole" "is_whole" sWhole f fd) (B : Blt mg) :
    FnOk P w K mg base CX0 (k + 1) f fd ["thing"] (spBool K wholeD) := by
  refine F.ok scWhole (fun vs H Q E h => ?_) (fun cdv A outer s H vs Q E hr h => ?_)
  · obtain ⟨v, d, rfl, _⟩ := h
    rfl
  · obtain ⟨v, d, rfl, hd, hz, q⟩ := h
    refine ⟨_, pss_one (ps_ret (pe_and (pe_callB call_isi (by rfl) B.isi (by decide +kernel) (pa_cons (pv 0) (pa_cons (pe_bltn (v := .ty "int") (by rfl) B.int (by decide +kernel) rfl) pa_nil)))
      (pe_one (pe_not (pe_callB call_isi (by rfl) B.isi (by decide +kernel) (pa_cons (pv 0) (pa_cons (pe_bltn (v := .ty "bool") (by rfl) B.bool (by decide +kernel) rfl) pa_nil))))))), ?_⟩
    refine ⟨v, rfl, v, .ty "int", _, _, _, rfl, .ty "int", hd.ty, kit_int d, _, rfl, ?_⟩
    have e := whole_eq d
    have q1 := q H (Same.refl _)
    cases c : (wholeD d || boolD d) with
    | true =>
      rw [c, if_pos rfl] at e
      exact iteT ⟨v, rfl, v, .ty "bool", _, _, _, rfl, .ty "bool", hd.ty, kit_bool d, _, rfl, by rw [e]; exact q1⟩
    | false =>
      rw [c, if_neg Bool.false_ne_true] at e
      exact iteF (by rw [e]; exact q1)
abbrev sAmount : Stmt := topS 21
theorem scAmount : FnScope ["thing"] ["thing"] (defScope sAmount) := ⟨rfl, rfl, rfl, by decide +kernel, rfl, by decide +kernel, by decide +kernel⟩
theorem ok_amount {f fW : Addr} {fd fdW : FuncData} {k : Nat} (F : Fun K "is_amount" "is_amount" sAmount f fd) (FW : Fun K "is_whole" "is_whole" sWhole fW fdW)
    (bW : Binds K fdW ["thing"] []) (gW : mg "is_whole" = some (.ref fW)) (B : Blt mg) :
    FnOk P w K mg base CX0 (k + 2) f fd ["thing"] (spBool K amountD) := by
  have GW : FnOk P w K mg base CX0 (k + 1) fW fdW ["thing"] (spBool K wholeD) := ok_whole FW B
  refine F.ok scAmount (fun vs H Q E h => ?_) (fun cdv A outer s H vs Q E hr h => ?_)
  · obtain ⟨v, d, rfl, _⟩ := h
    rfl
  · obtain ⟨v, d, rfl, hd, hz, q⟩ := h
    refine ⟨_, pss_one (ps_ret (pe_and (pe_call GW hr (by rfl) gW FW.kp bW .nil pass0 (pa_cons (pv 0) pa_nil)) (pe_one (pe_cmpR op_ge (pv 0) pe_int (nomark _))))), ?_⟩
    refine ⟨v, rfl, v, d, rfl, hd, hz, fun H' sm => ⟨_, rfl, ?_⟩⟩
    have q1 := q H' sm
    cases hd with
    | int i => exact iteT ⟨_, rfl, i, 1, rfl, rfl, q1⟩
    | _ => exact iteF q1
end
end Rc

namespace Rc
open PySem PySem.Spec PyProof.Rows L2
section
variable {P : Program} {w : World} {K : PySem.W.Frag} {mg : Str → Option Value} {base : Heap}
structure Blt2 (mg : Str → Option Value) : Prop where
  abs : mg "abs" = none
  max : mg "max" = none
  min : mg "min" = none
  divmod : mg "divmod" = none
  range : mg "range" = none
  repr : mg "repr" = none
/-! ### _law_pot -/
abbrev sPot : Stmt := topS 31
theorem scPot : FnScope ["_law_script", "_law_k", "_law_cell"] ["_law_script", "_law_k"] (defScope sPot) := ⟨rfl, rfl, rfl, by decide +kernel, rfl, by decide +kernel, by decide +kernel⟩
def spPot (K : PySem.W.Frag) : Sp := fun vs H Q _ => ∃ (a : Addr) (ns : List Int) (k : Int), vs = [.ref a, .int k] ∧ SqL K H a (ns.map V.int) ∧ 0 ≤ k ∧ k ≤ 1000 ∧
  ∀ p o, H p = none → Pot (upd H p o) p → Q (.ref p) (upd H p o)
theorem ok_pot {f : Addr} {fd : FuncData} {k : Nat} (F : Fun K "_law_pot" "_law_pot" sPot f fd) (B : Blt mg) (B2 : Blt2 mg) :
    FnOk P w K mg base CX0 (k + 1) f fd ["_law_script", "_law_k"] (spPot K) := by
  refine F.ok scPot (fun vs H Q E h => ?_) (fun cdv A outer s H vs Q E hr h => ?_)
  · obtain ⟨a, ns, k, rfl, _⟩ := h
    rfl
  · obtain ⟨a, ns, k, rfl, hS, k0, k1, q⟩ := h
    refine ⟨_, pss_cons (ps_set (i := 2) scPot.nd rfl (.inl rfl) pe_int)
      (pss_cons (ps_if (pt_cmpR op_lt (pv 1) (pe_callB call_len_seq (by rfl) B.len PySem.boot_len (pa_cons (pv 0) pa_nil)) (nomark _))
        (pss_one (ps_set (i := 2) scPot.nd rfl (.inl rfl) (pe_callB call_abs (by rfl) B2.abs (by decide +kernel) (pa_cons (pe_ix ix_list (pv 0) (pv 1) (fun _ _ => rfl)) pa_nil)))) pss_nil)
      (pss_one (ps_ret (pe_lst (pa_cons (pe_callB (call_max2 rfl) (by rfl) B2.max (by decide +kernel) (pa_cons pe_int (pa_cons (pe_op op_sub (pv 2) (pe_op op_pow pe_int pe_int)) pa_nil)))
        (pa_cons (pe_op op_add (pe_op op_mod (pe_op op_pow (pe_op op_add (pe_op op_add (pe_op op_mod (pv 2) pe_int) (pe_op op_mul pe_int (pv 1))) pe_int) pe_int) pe_int) pe_int) pa_nil)))))), ?_⟩
    have fin : ∀ c : Int, 0 ≤ c → ∃ v, ([some (.ref a), some (.int k), some (.int c)] : List (Option V))[2]? = some (some v) ∧ v = .int c := fun c _ => ⟨_, rfl, rfl⟩
    have three : ∀ c : Int, 0 ≤ c → 0 ≤ c % 2147483549 + 101 * k + 1 ∧ (c % 2147483549 + 101 * k + 1).natAbs < 2 ^ 64 := fun c h0 => by
      have a1 : 0 ≤ c % 2147483549 := Int.emod_nonneg _ (by decide)
      have a2 : c % 2147483549 < 2147483549 := Int.emod_lt_of_pos _ (by decide)
      omega
    refine ⟨_, rfl, .ref a, rfl, a, _, rfl, .inl hS, _, _, rfl, rfl, _, rfl, ite2 (fun e => ?_) (fun e => ?_)⟩
    · have e1 : k < (ns.map V.int).length := of_decide_eq_true e
      rw [List.length_map] at e1
      obtain ⟨n, rfl⟩ := Int.eq_ofNat_of_zero_le k0
      have hn : n < ns.length := by omega
      have g : (ns.map V.int)[n]? = some (.int ns[n]) := by
        rw [List.getElem?_map, List.getElem?_eq_getElem hn]
        rfl
      refine ⟨.ref a, rfl, .int n, rfl, a, _, _, _, rfl, rfl, hS, atI_nat g, _, rfl, ?_⟩
      have c0 : 0 ≤ (if ns[n] < 0 then -ns[n] else ns[n]) := by split <;> omega
      generalize (if ns[n] < 0 then -ns[n] else ns[n]) = c at c0
      obtain ⟨t1, t2⟩ := three c c0
      refine ⟨.int c, rfl, _, _, rfl, rfl, ⟨by decide, by decide, by decide⟩, _, _, rfl, rfl, _, _, rfl, .int c, rfl, _, _, rfl, rfl, (show (0 : Int) < 2147483549 by decide), .int n, rfl, _, _, rfl, rfl, .inl ⟨by decide, by decide⟩, _, _, rfl, rfl, _, _, rfl, rfl, _, _, rfl, rfl, ⟨by decide, by decide, t2⟩, _, _, rfl, rfl, (show (0 : Int) < 2147483543 by decide), _, _, rfl, rfl, by show 2 ≤ sizeLine; decide, fun p np => ?_⟩
      refine q p _ np ⟨_, _, upd_same, ?_, ?_, ?_⟩
      · split <;> omega
      · have := Int.emod_nonneg ((c % 2147483549 + 101 * n + 1) ^ (2 : Int).toNat) (show (2147483543 : Int) ≠ 0 by decide)
        omega
      · have := Int.emod_lt_of_pos ((c % 2147483549 + 101 * n + 1) ^ (2 : Int).toNat) (show (0 : Int) < 2147483543 by decide)
        omega
    · obtain ⟨t1, t2⟩ := three 0 (Int.le_refl _)
      refine ⟨.int 0, rfl, _, _, rfl, rfl, ⟨by decide, by decide, by decide⟩, _, _, rfl, rfl, _, _, rfl, .int 0, rfl, _, _, rfl, rfl, (show (0 : Int) < 2147483549 by decide), .int k, rfl, _, _, rfl, rfl, .inl ⟨by decide, by decide⟩, _, _, rfl, rfl, _, _, rfl, rfl, _, _, rfl, rfl, ⟨by decide, by decide, t2⟩, _, _, rfl, rfl, (show (0 : Int) < 2147483543 by decide), _, _, rfl, rfl, by show 2 ≤ sizeLine; decide, fun p np => ?_⟩
      refine q p _ np ⟨_, _, upd_same, ?_, ?_, ?_⟩
      · split <;> omega
      · have := Int.emod_nonneg (((0 : Int) % 2147483549 + 101 * k + 1) ^ (2 : Int).toNat) (show (2147483543 : Int) ≠ 0 by decide)
        omega
      · have := Int.emod_lt_of_pos (((0 : Int) % 2147483549 + 101 * k + 1) ^ (2 : Int).toNat) (show (0 : Int) < 2147483543 by decide)
        omega
/-! ### _law_take -/
abbrev sTake : Stmt := topS 32
theorem scTake : FnScope ["_law_pot_here", "_law_many", "_law_digit"] ["_law_pot_here", "_law_many"] (defScope sTake) := ⟨rfl, rfl, rfl, by decide +kernel, rfl, by decide +kernel, by decide +kernel⟩
def spTake : Sp := fun vs H Q _ => ∃ (p : Addr) (m : Int), vs = [.ref p, .int m] ∧ Pot H p ∧ LitM m ∧ ∀ d H', 0 ≤ d → d < m → Pot H' p → But p H H' → Q (.int d) H'
theorem ok_take {f : Addr} {fd : FuncData} {k : Nat} (F : Fun K "_law_take" "_law_take" sTake f fd) (B2 : Blt2 mg) :
    FnOk P w K mg base CX0 (k + 1) f fd ["_law_pot_here", "_law_many"] spTake := by
  refine F.ok scTake (fun vs H Q E h => ?_) (fun cdv A outer s H vs Q E hr h => ?_)
  · obtain ⟨a, m, rfl, _⟩ := h
    rfl
  · obtain ⟨p, m, rfl, ⟨x, y, hp, x0, y0, y1⟩, ⟨m0, m1⟩, q⟩ := h
    refine ⟨_, pss_cons (ps_if (pt_cmpR op_gt (pe_ix ix_list (pv 0) pe_int (fun _ _ => rfl)) pe_int (nomark _))
        (pss_cons (ps_asg (pe_callB call_divmodW (by rfl) B2.divmod (by decide +kernel) (pa_cons (pe_ix ix_list (pv 0) pe_int (fun _ _ => rfl)) (pa_cons (pv 1) pa_nil)))
            (pg_tup rfl (pgs_cons (pg_sub (pv 0) pe_int set_list) (pgs_cons (pg_name (i := 2) scTake.nd rfl (.inl rfl)) pgs_nil))))
          (pss_one (ps_ret (pv 2)))) pss_nil)
      (pss_cons (ps_asg (pe_op op_mod (pe_op op_add (pe_op op_mul (pe_ix ix_list (pv 0) pe_int (fun _ _ => rfl)) pe_int) pe_int) pe_int) (pg_sub (pv 0) pe_int set_list))
      (pss_one (ps_ret (pe_op op_mod (pe_op op_fdiv (pe_op op_mod (pe_op op_mul (pe_ix ix_list (pv 0) pe_int (fun _ _ => rfl)) (pe_ix ix_list (pv 0) pe_int (fun _ _ => rfl))) pe_int) pe_int) (pv 1))))), ?_⟩
    have sq : SqL K H p [.int x, .int y] := .inl (.inl hp)
    refine ⟨.ref p, rfl, p, _, 0, .int x, rfl, rfl, sq, rfl, _, _, rfl, rfl, _, rfl, ite2 (fun e => ?_) (fun e => ?_)⟩
    · have e1 : 0 < x := of_decide_eq_true e
      refine ⟨.ref p, rfl, p, _, 0, .int x, rfl, rfl, sq, rfl, .int m, rfl, x, m, rfl, ⟨m0, PyProof.noPylong_of_log2 m1⟩, fun T hT => ?_⟩
      refine ⟨T, _, rfl, .inl (.inl upd_same), rfl, _, _, rfl, .ref p, rfl, p, _, 0, 0, rfl, rfl, same_upd hT _ _ hp, rfl, _, _, rfl, rfl, ?_⟩
      refine ⟨_, rfl, q _ _ (Int.emod_nonneg _ (by omega)) (Int.emod_lt_of_pos _ m0) ⟨x / m, y, upd_same, Int.ediv_nonneg x0 (by omega), y0, y1⟩ ?_⟩
      exact (But.new hT).trans But.at
    · have c0 : 0 ≤ (y * 48271 + 10007) % 2147483587 := Int.emod_nonneg _ (by decide)
      have c1 : (y * 48271 + 10007) % 2147483587 < 2147483587 := Int.emod_lt_of_pos _ (by decide)
      refine ⟨.ref p, rfl, p, _, 1, .int y, rfl, rfl, sq, rfl, _, _, rfl, rfl, .inl ⟨by omega, by omega⟩, _, _, rfl, rfl, _, _, rfl, rfl, (show (0 : Int) < 2147483587 by decide), .ref p, rfl, p, _, 1, 1, rfl, rfl, hp, rfl, ?_⟩
      have sq2 : SqL K (upd H p (.lst ([V.int x, V.int y].set 1 (.int ((y * 48271 + 10007) % 2147483587))))) p [.int x, .int ((y * 48271 + 10007) % 2147483587)] := .inl (.inl upd_same)
      refine ⟨.ref p, rfl, p, _, 1, _, rfl, rfl, sq2, rfl, .ref p, rfl, p, _, 1, _, rfl, rfl, sq2, rfl, _, _, rfl, rfl, .inl ⟨by omega, by omega⟩, _, _, rfl, rfl, (show (0 : Int) < 2147483563 by decide), _, _, rfl, rfl, ⟨by decide, by decide⟩, .int m, rfl, _, _, rfl, rfl, m0, ?_⟩
      exact q _ _ (Int.emod_nonneg _ (by omega)) (Int.emod_lt_of_pos _ m0) ⟨x, _, upd_same, x0, c0, by omega⟩ But.at
/-- what the callers of _law_take have -/
structure HasTake (P : Program) (w : World) (K : PySem.W.Frag) (mg : Str → Option Value) (base : Heap) (f : Addr) (fd : FuncData) : Prop where
  ok : FnOk P w K mg base CX0 1 f fd ["_law_pot_here", "_law_many"] spTake
  g : mg "_law_take" = some (.ref f)
  kp : PySem.W.keepIn K (.ref f) = true
  b : Binds K fd ["_law_pot_here", "_law_many"] []
end
end Rc

namespace Rc
open PySem PySem.Spec PyProof.Rows L2
/-! ### what no list and no dict touches -/
def Fix : HO → Prop
  | .lst _ | .dK _ | .dT _ | .set _ _ => False
  | _ => True
/-- all but lists and dicts as it was -/
def Kp (H H' : Hp) : Prop := ∀ b o, H b = some o → Fix o → H' b = some o
theorem Kp.refl (H : Hp) : Kp H H := fun _ _ e _ => e
theorem Kp.trans {H H1 H2 : Hp} (a : Kp H H1) (b : Kp H1 H2) : Kp H H2 := fun c o e f => b c o (a c o e f) f
theorem Same.kp {H H' : Hp} (s : Same H H') : Kp H H' := fun b o e _ => s b o e
theorem But.kp {p : Addr} {H H' : Hp} {xs : List V} (s : But p H H') (h : H p = some (.lst xs)) : Kp H H' := fun b o e f => s b o (fun z => by
  rw [z, h] at e
  cases e
  exact f) e
/-- all tuples as they were -/
def TupO : HO → Prop
  | .tup _ | .frz _ _ => True
  | _ => False
def KT (H H' : Hp) : Prop := ∀ b o, H b = some o → TupO o → H' b = some o
theorem Kp.kt {H H' : Hp} (k : Kp H H') : KT H H' := fun b o e t => k b o e (by cases o <;> first | exact t.elim | exact trivial)
theorem kt_same {H H' : Hp} (s : Same H H') : KT H H' := fun b o e _ => s b o e
theorem KT.trans {H H1 H2 : Hp} (a : KT H H1) (b : KT H1 H2) : KT H H2 := fun c o e f => b c o (a c o e f) f
theorem kt_upd {H : Hp} {x : Addr} {o o' : HO} (h : H x = some o) (n : ¬ TupO o) : KT H (upd H x o') := fun b u e t => by
  have nb : b ≠ x := fun z => by
    rw [z, h] at e
    cases e
    exact n t
  rw [upd_ne nb]
  exact e
mutual
/-- no list, no dict in it -/
def tupD : PyData → Bool
  | .list _ | .dict _ => false
  | .tuple ds => tupDs ds
  | .none | .bool _ | .int _ | .str _ => true
def tupDs : List PyData → Bool
  | [] => true
  | d :: ds => tupD d && tupDs ds
end
mutual
theorem Dt.keepT {K : PySem.W.Frag} {H H' : Hp} (e : KT H H') : ∀ {v : V} (d : PyData), tupD d = true → Dt K H v d → Dt K H' v d
  | _, .none, _, h => by cases h; exact .non
  | _, .bool _, _, h => by cases h; exact .bl _
  | _, .int _, _, h => by cases h; exact .int _
  | _, .str _, _, h => by cases h; exact .str _
  | _, .list ds, t, h => by simp [tupD] at t
  | _, .dict ps, t, h => by simp [tupD] at t
  | _, .tuple ds, t, h => by
    cases h with
    | tup q a =>
      refine .tup ?_ (DtAll.keepT e ds (by simpa [tupD] using t) a)
      rcases q with (q | ⟨o, q⟩) | q
      · exact .inl (.inl (e _ _ q trivial))
      · exact .inl (.inr ⟨o, e _ _ q trivial⟩)
      · exact .inr q
theorem DtAll.keepT {K : PySem.W.Frag} {H H' : Hp} (e : KT H H') : ∀ {vs : List V} (ds : List PyData), tupDs ds = true → DtAll K H vs ds → DtAll K H' vs ds
  | _, [], _, h => by cases h; exact .nil
  | _, d :: ds, t, h => by
    cases h with
    | cons a b =>
      have t' : tupD d = true ∧ tupDs ds = true := by simpa [tupDs] using t
      exact .cons (Dt.keepT e d t'.1 a) (DtAll.keepT e ds t'.2 b)
end
theorem Dt.keep {K : PySem.W.Frag} {H H' : Hp} (e : Kp H H') {v : V} (d : PyData) (t : tupD d = true) (h : Dt K H v d) : Dt K H' v d := Dt.keepT e.kt d t h
theorem DtAll.keep {K : PySem.W.Frag} {H H' : Hp} (e : Kp H H') {vs : List V} (ds : List PyData) (t : tupDs ds = true) (h : DtAll K H vs ds) : DtAll K H' vs ds := DtAll.keepT e.kt ds t h
theorem tupDs_map {α : Type} {f : α → PyData} (h : ∀ x, tupD (f x) = true) : ∀ l : List α, tupDs (l.map f) = true
  | [] => rfl
  | x :: r => by
    rw [List.map_cons]
    simp only [tupDs, h x, tupDs_map h r, Bool.and_self]
theorem DtAll.drop {K : PySem.W.Frag} {H : Hp} : ∀ {vs : List V} {ds : List PyData} (n : Nat), DtAll K H vs ds → DtAll K H (vs.drop n) (ds.drop n)
  | _, _, 0, h => h
  | _, _, _ + 1, .nil => .nil
  | _, _, n + 1, .cons _ t => DtAll.drop n t
theorem DtAll.take {K : PySem.W.Frag} {H : Hp} : ∀ {vs : List V} {ds : List PyData} (n : Nat), DtAll K H vs ds → DtAll K H (vs.take n) (ds.take n)
  | _, _, 0, h => .nil
  | _, _, _ + 1, .nil => .nil
  | _, _, n + 1, .cons a t => .cons a (DtAll.take n t)
theorem DtAll.get {K : PySem.W.Frag} {H : Hp} : ∀ {vs : List V} {ds : List PyData} {n : Nat} {d : PyData}, DtAll K H vs ds → ds[n]? = some d → ∃ v, vs[n]? = some v ∧ Dt K H v d
  | _, _, _, _, .nil, e => by simp at e
  | _, _, 0, _, .cons a _, e => by
    simp at e
    subst e
    exact ⟨_, rfl, a⟩
  | _, _, n + 1, _, .cons _ t, e => by
    obtain ⟨v, h1, h2⟩ := DtAll.get (n := n) t (by simpa using e)
    exact ⟨v, by simpa using h1, h2⟩
theorem DtAll.rep {K : PySem.W.Frag} {H : Hp} {v : V} {d : PyData} (h : Dt K H v d) : ∀ n : Nat, DtAll K H (List.replicate n v) (List.replicate n d)
  | 0 => .nil
  | n + 1 => .cons h (DtAll.rep h n)
theorem DtAll.strs {K : PySem.W.Frag} {H : Hp} : ∀ zs : List Str, DtAll K H (zs.map V.str) (zs.map PyData.str)
  | [] => .nil
  | z :: r => .cons (.str z) (DtAll.strs r)
theorem DtAll.ints {K : PySem.W.Frag} {H : Hp} : ∀ zs : List Int, DtAll K H (zs.map V.int) (zs.map PyData.int)
  | [] => .nil
  | z :: r => .cons (.int z) (DtAll.ints r)
theorem DtAll.strs_eq {K : PySem.W.Frag} {H : Hp} : ∀ {vs : List V} {zs : List Str}, DtAll K H vs (zs.map PyData.str) → vs = zs.map V.str
  | _, [], h => by cases h; rfl
  | _, z :: r, h => by
    cases h with
    | cons a t =>
      cases a
      rw [DtAll.strs_eq t]
      rfl
theorem DtAll.ints_eq {K : PySem.W.Frag} {H : Hp} : ∀ {vs : List V} {zs : List Int}, DtAll K H vs (zs.map PyData.int) → vs = zs.map V.int
  | _, [], h => by cases h; rfl
  | _, z :: r, h => by
    cases h with
    | cons a t =>
      cases a
      rw [DtAll.ints_eq t]
      rfl
/-! ### rules by data -/
theorem Dt.tup_inv {K : PySem.W.Frag} {H : Hp} {v : V} {ds : List PyData} (h : Dt K H v (.tuple ds)) : ∃ a xs, v = .ref a ∧ SqT K H a xs ∧ DtAll K H xs ds := by
  cases h with
  | tup q a => exact ⟨_, _, rfl, q, a⟩
theorem Dt.lst_inv {K : PySem.W.Frag} {H : Hp} {v : V} {ds : List PyData} (h : Dt K H v (.list ds)) : ∃ a xs, v = .ref a ∧ SqL K H a xs ∧ DtAll K H xs ds := by
  cases h with
  | lst q a => exact ⟨_, _, rfl, q, a⟩
section
variable {X : Cx}
def rCatD (K : PySem.W.Frag) : R2 := fun x y H Q => ∃ ds es, Dt K H x (.tuple ds) ∧ Dt K H y (.tuple es) ∧ ds.length + es.length ≤ 1000 ∧ ∀ v H', Same H H' → Dt K H' v (.tuple (ds ++ es)) → Q v H'
theorem op_catD : OpR X (binaryOp .Add) (rCatD X.K) := by
  intro pins s σ H x y v u Q I rx ry h
  obtain ⟨ds, es, h1, h2, hz, q⟩ := h
  obtain ⟨a, xs, rfl, qa, da⟩ := h1.tup_inv
  obtain ⟨b, ys, rfl, qb, db⟩ := h2.tup_inv
  refine op_catA pins s σ H _ _ v u Q I rx ry ⟨a, b, xs, ys, rfl, rfl, qa, qb, small_line (by rw [da.len, db.len]; exact hz), fun e => ?_, fun _ e => ?_, fun _ _ p hp => ?_⟩
  · subst e
    cases da
    exact q _ H (Same.refl _) h2
  · subst e
    cases db
    rw [List.append_nil] at q
    exact q _ H (Same.refl _) h1
  · exact q _ _ (same_upd hp) (.tup (.inl (.inl upd_same)) ((DtAll.same (same_upd hp) _ da).append (DtAll.same (same_upd hp) _ db)))
/-- t[n], n from 0 on -/
def rIxD (K : PySem.W.Frag) : R2 := fun x y H Q => ∃ ds n d, Dt K H x (.tuple ds) ∧ y = .int (n : Nat) ∧ ds[n]? = some d ∧ ∀ v, Dt K H v d → Q v H
theorem ix_tupD : IxR X (rIxD X.K) := by
  intro value slice pins s σ H x y v u Q I rx ry h hs
  obtain ⟨ds, n, d, h1, rfl, e, q⟩ := h
  obtain ⟨a, xs, rfl, qa, da⟩ := h1.tup_inv
  obtain ⟨z, e1, e2⟩ := da.get e
  exact ix_tup value slice pins s σ H _ _ v u Q I rx ry ⟨a, xs, n, z, rfl, rfl, qa, atI_nat e1, q z e2⟩ hs
/-- t[:n], t[n:] -/
def rSlD (K : PySem.W.Frag) : V → Option Int → Option Int → Hp → VK → Prop := fun x lo hi H Q => ∃ ds, Dt K H x (.tuple ds) ∧
  ((∃ n : Nat, lo = none ∧ hi = some (n : Int) ∧ ∀ v H', Same H H' → Dt K H' v (.tuple (ds.take n)) → Q v H') ∨ (∃ n : Nat, lo = some (n : Int) ∧ hi = none ∧ ∀ v H', Same H H' → Dt K H' v (.tuple (ds.drop n)) → Q v H'))
theorem cut_take (xs : List V) (n : Nat) : cutV xs none (some (n : Int)) = xs.take n := by
  unfold cutV
  rw [HT.sIx_nat, HT.sIx_none]
  rw [List.drop_zero, Nat.sub_zero]
  by_cases h : n ≤ xs.length
  · rw [Nat.min_eq_left h]
  · rw [Nat.min_eq_right (by omega), List.take_length, List.take_of_length_le (by omega)]
theorem cut_drop (xs : List V) (n : Nat) : cutV xs (some (n : Int)) none = xs.drop n := by
  unfold cutV
  rw [HT.sIx_nat, HT.sIx_none]
  by_cases h : n ≤ xs.length
  · rw [Nat.min_eq_left h]
    exact List.take_of_length_le (by rw [List.length_drop]; omega)
  · rw [Nat.min_eq_right (by omega), List.drop_length, List.drop_of_length_le (by omega), List.take_nil]
theorem sl_tupD : SlR X (rSlD X.K) := by
  intro pins s σ H x v vl vu lo hi sl Q I rx hs pl pu h
  obtain ⟨ds, h1, h⟩ := h
  obtain ⟨a, xs, rfl, qa, da⟩ := h1.tup_inv
  rcases h with ⟨n, rfl, rfl, q⟩ | ⟨n, rfl, rfl, q⟩
  · refine sl_tupA pins s σ H _ v vl vu _ _ sl Q I rx hs pl pu ⟨a, xs, rfl, qa, fun e => ?_, fun _ p hp => ?_⟩
    · have e2 := e.2
      rw [HT.sIx_nat] at e2
      refine q _ H (Same.refl _) ?_
      rw [List.take_of_length_le (by rw [← da.len]; omega)]
      exact h1
    · rw [cut_take]
      exact q _ _ (same_upd hp) (.tup (.inl (.inl upd_same)) (DtAll.same (same_upd hp) _ (da.take n)))
  · refine sl_tupA pins s σ H _ v vl vu _ _ sl Q I rx hs pl pu ⟨a, xs, rfl, qa, fun e => ?_, fun _ p hp => ?_⟩
    · have e1 := e.1
      rw [HT.sIx_nat] at e1
      refine q _ H (Same.refl _) ?_
      rcases Nat.min_eq_zero_iff.mp e1 with z | z
      · rw [z]
        exact h1
      · have : ds = [] := List.eq_nil_of_length_eq_zero (by rw [← da.len]; exact z)
        subst this
        rw [List.drop_nil]
        exact h1
    · rw [cut_drop]
      exact q _ _ (same_upd hp) (.tup (.inl (.inl upd_same)) (DtAll.same (same_upd hp) _ (da.drop n)))
/-- list(t), tuple(l) of tuples and lists of data: a new list; a tuple -/
def rListD (K : PySem.W.Frag) : List V → Hp → VK → Prop := fun vs H Q => ∃ v ds, vs = [v] ∧ (Dt K H v (.tuple ds) ∨ Dt K H v (.list ds)) ∧ ∀ l xs, H l = none → DtAll K H xs ds → Q (.ref l) (upd H l (.lst xs))
theorem call_listD : CallR X (.type "list") (rListD X.K) := by
  intro pins s σ H xs us Q I r h
  obtain ⟨v, ds, rfl, h1, q⟩ := h
  rcases h1 with h1 | h1
  · obtain ⟨a, ys, rfl, qa, da⟩ := h1.tup_inv
    exact call_list_of pins s σ H _ us Q I r ⟨a, ys, rfl, .inr qa, fun l hl => q l ys hl da⟩
  · obtain ⟨a, ys, rfl, qa, da⟩ := h1.lst_inv
    exact call_list_of pins s σ H _ us Q I r ⟨a, ys, rfl, .inl qa, fun l hl => q l ys hl da⟩
def rTupD (K : PySem.W.Frag) : List V → Hp → VK → Prop := fun vs H Q => ∃ v ds, vs = [v] ∧ Dt K H v (.list ds) ∧ ∀ t H', Same H H' → Dt K H' t (.tuple ds) → Q t H'
theorem call_tupD : CallR X (.type "tuple") (rTupD X.K) := by
  intro pins s σ H xs us Q I r h
  obtain ⟨v, ds, rfl, h1, q⟩ := h
  obtain ⟨a, ys, rfl, qa, da⟩ := h1.lst_inv
  exact call_tuple_of pins s σ H _ us Q I r ⟨a, ys, rfl, .inl ⟨qa, fun l hl => q _ _ (same_upd hl) (.tup (.inl (.inl upd_same)) (DtAll.same (same_upd hl) _ da))⟩⟩
end
open AutoSeq1 (wpAny_loadPart') in
theorem tuple_mul1 (l : Addr) (items : Array Value) (n : Nat) (dd : Option Addr) (sl : Array (Option Value)) (u : Tok) :
    Meets (Builtin.«tuple.__mul__» ⟨[.ref l, .int 1 u], []⟩) (fun _ R s => s.heap.get? l = some { cls := .type "tuple", dict := dd, data := .seq items n, slots := sl } ∧ R (.ok (.ret (Value.ref l))) s) :=
  .of_wp fun prog w A R s h => by
    obtain ⟨hp, g, d, tk, os⟩ := s
    obtain ⟨hl, h⟩ := h
    have f1 := AutoSeq1.idx_int
    wp_walk using wpAny_loadPart' hl
    exact ⟨_, rfl, h⟩
section
variable {X : Cx}
/-- (d,) * k, k from 1 on -/
def rRepD (K : PySem.W.Frag) : R2 := fun x y H Q => ∃ (d : PyData) (k : Nat), Dt K H x (.tuple [d]) ∧ y = .int (k : Nat) ∧ 1 ≤ k ∧ k ≤ 1000 ∧ ∀ v H', Same H H' → Dt K H' v (.tuple (List.replicate k d)) → Q v H'
theorem rep_one {v : V} : ∀ k : Nat, (List.replicate k [v]).flatten = List.replicate k v
  | 0 => rfl
  | k + 1 => by
    rw [List.replicate_succ, List.flatten_cons, rep_one k]
    rfl
theorem op_repD : OpR X (binaryOp .Mult) (rRepD X.K) := by
  intro pins s σ H x y v u Q I rx ry h
  obtain ⟨d, k, h1, rfl, k1, k2, q⟩ := h
  obtain ⟨l, xs, rfl, qa, da⟩ := h1.tup_inv
  by_cases hk : k = 1
  · subst hk
    cases rx
    obtain ⟨t, rfl⟩ := ry
    obtain ⟨its, r, ⟨⟨cls, dd, data, sl⟩, ho, hc, n, hd⟩, hs⟩ := I.tuple qa
    simp only at hc hd
    subst hc hd
    refine wpAny_binaryOp_repeat_ref (T := "tuple") (U := "int") (by decide) ⟨_, ho, rfl⟩ (fun s' => typeIs_int s' _ t) noFill_tuple_mul F.fills_int_mul F.slot_int_rmul repeat_tuple F.slot_int_index.lookup
      (call_meets F.slot_int_rmul (typeIs_int s _ t) F.entry_int_rmul (F.args_int_rmul_2 _ _) (int_rmul_tuple _ t l its.toArray n dd sl)
        ⟨ho, rfl, ⟨_, ho, rfl⟩, call_meets F.slot_tuple_mul ⟨_, ho, rfl⟩ F.entry_tuple_mul (F.args_tuple_mul_2 _ _) (tuple_mul1 l its.toArray n dd sl t) ⟨ho, ?_⟩⟩)
    exact ⟨.ref l, H, I, rfl, q _ H (Same.refl _) h1⟩
  · cases da with
    | cons a b =>
      cases b
      refine op_repT pins s σ H _ _ v u Q I rx ry ⟨l, k, _, rfl, rfl, qa, by simp, by omega, by omega, by simp, fun p hp => ?_⟩
      rw [rep_one]
      exact q _ _ (same_upd hp) (.tup (.inl (.inl upd_same)) (DtAll.rep (Dt.same (same_upd hp) _ a) k))
end
/-! ### a book's data -/
structure Bk where
  names : List Str
  gifts : List Int
  stacks : List (List (Str × Int))
  drops : List Int
def noteD (n : Str × Int) : PyData := .tuple [.str n.1, .int n.2]
def notesD (l : List (Str × Int)) : List PyData := l.map noteD
def stackD (l : List (Str × Int)) : PyData := .tuple (notesD l)
theorem tup_note (n : Str × Int) : tupD (noteD n) = true := by simp [noteD, tupD, tupDs]
theorem tup_notes (l : List (Str × Int)) : tupDs (notesD l) = true := tupDs_map tup_note l
theorem tup_stack (l : List (Str × Int)) : tupD (stackD l) = true := by
  unfold stackD
  simpa [tupD] using tup_notes l
theorem tup_stacks (l : List (List (Str × Int))) : tupD (.tuple (l.map stackD)) = true := by simpa [tupD] using tupDs_map tup_stack l
theorem tup_strs (l : List Str) : tupD (.tuple (l.map PyData.str)) = true := by simpa [tupD] using tupDs_map (f := PyData.str) (fun _ => by simp [tupD]) l
theorem tup_ints (l : List Int) : tupD (.tuple (l.map PyData.int)) = true := by simpa [tupD] using tupDs_map (f := PyData.int) (fun _ => by simp [tupD]) l
def bf (a b c d : V) : List (Str × V) := [("names", a), ("gifts", b), ("stacks", c), ("drops", d)]
theorem lk_hit {f : Str} {v : V} {r : List (Str × V)} : List.lookup f ((f, v) :: r) = some v := by simp [List.lookup]
theorem lk_miss {f g : Str} {v : V} {r : List (Str × V)} (h : (f == g) = false) : List.lookup f ((g, v) :: r) = List.lookup f r := by simp [List.lookup, h]
theorem bf_names {a b c d : V} : (bf a b c d).lookup ("names" : Str) = some a := lk_hit
theorem bf_gifts {a b c d : V} : (bf a b c d).lookup ("gifts" : Str) = some b := (lk_miss (by decide +kernel)).trans lk_hit
theorem bf_stacks {a b c d : V} : (bf a b c d).lookup ("stacks" : Str) = some c := (lk_miss (by decide +kernel)).trans ((lk_miss (by decide +kernel)).trans lk_hit)
theorem bf_drops {a b c d : V} : (bf a b c d).lookup ("drops" : Str) = some d := (lk_miss (by decide +kernel)).trans ((lk_miss (by decide +kernel)).trans ((lk_miss (by decide +kernel)).trans lk_hit))
/-- a name that is no field -/
def NoF (m : Str) : Prop := (m == "names") = false ∧ (m == "gifts") = false ∧ (m == "stacks") = false ∧ (m == "drops") = false
theorem bf_no {a b c d : V} {m : Str} (h : NoF m) : (bf a b c d).lookup m = none := (lk_miss h.1).trans ((lk_miss h.2.1).trans ((lk_miss h.2.2.1).trans ((lk_miss h.2.2.2).trans rfl)))
structure BookAt (K : PySem.W.Frag) (C : Addr) (H : Hp) (b : Addr) (M : Bk) : Prop where
  ex : ∃ dx tn on vg vs vd, H b = some (.ins C dx (bf (.ref tn) vg vs vd)) ∧ H tn = some (.frz on (.tup (M.names.map V.str))) ∧ on.dict = none ∧ Dt K H vg (.tuple (M.gifts.map .int)) ∧ Dt K H vs (.tuple (M.stacks.map stackD)) ∧ Dt K H vd (.tuple (M.drops.map .int))
theorem BookAt.keep {K : PySem.W.Frag} {C : Addr} {H H' : Hp} {b : Addr} {M : Bk} (h : BookAt K C H b M) (k : Kp H H') : BookAt K C H' b M := by
  obtain ⟨dx, tn, on, vg, vs, vd, e, h1, hn, h2, h3, h4⟩ := h.ex
  exact ⟨dx, tn, on, vg, vs, vd, k _ _ e trivial, k _ _ h1 trivial, hn, Dt.keep k _ (tup_ints _) h2, Dt.keep k _ (tup_stacks _) h3, Dt.keep k _ (tup_ints _) h4⟩
/-- a book that may be -/
structure Bk.Ok (M : Bk) : Prop where
  n0 : 1 ≤ M.names.length
  n1 : M.names.length ≤ 12
  nd : M.names.Nodup
  nm : ∀ z ∈ M.names, nameT z = true
  lg : M.gifts.length = M.names.length
  ls : M.stacks.length = M.names.length
  ld : M.drops.length = M.names.length
  many : (M.stacks.map List.length).sum ≤ 60
end Rc

namespace Rc
open PySem PySem.Spec PyProof.Rows L2
section
variable {X : Cx}
/-- tuple(l), the tuple known to the object -/
def rTupF (K : PySem.W.Frag) : List V → Hp → VK → Prop := fun vs H Q => ∃ p ys, vs = [.ref p] ∧ SqL K H p ys ∧ ∀ l o, H l = none → o.dict = none → Q (.ref l) (upd H l (.frz o (.tup ys)))
theorem call_tupF : CallR X (.type "tuple") (rTupF X.K) := by
  intro pins s σ H xs us Q I r h
  obtain ⟨p, ys, rfl, hq, q⟩ := h
  obtain ⟨u, rfl, rx⟩ := vals1 r
  cases rx
  obtain ⟨its, r', pl, hz⟩ := I.list hq
  have hlen := r'.length
  refine call_tuple_list pl.isList (fun h' kp => ?_) (by simp only [List.size_toArray] <;> omega)
  have I1 : L2.Inv X pins σ H { s with heap := h' } := I.kept (t' := s.toks) kp
  have e0 : (h'.push { cls := .type "tuple", data := .seq its.toArray }).get? h'.objs.size = some { cls := .type "tuple", data := .seq its.toArray } := Heap.get?_push_size _ rfl
  have I2 := I1.laid (a := h'.objs.size) (o := .frz { cls := .type "tuple", data := .seq its.toArray } (.tup ys)) (t' := s.toks) (h' := h'.push { cls := .type "tuple", data := .seq its.toArray })
    (fun b o e => Heap.get?_push_of_some _ e) (Nat.le_refl _) ⟨e0, hz, its, r', IsTup.new _ _⟩
  exact ⟨.ref h'.objs.size, _, I2, rfl, q _ _ (I1.hok.fresh (Nat.le_refl _)) rfl⟩
/-- t.m(e), t such a tuple -/
def tBMF (r : V → List V → Hp → VK → Prop) (to : TE) (t : TA) : TE := fun σ H Q => to σ H fun x H1 => ∃ p o xs, x = .ref p ∧ H1 p = some (.frz o (.tup xs)) ∧ o.dict = none ∧ t σ H1 fun vs H2 => r x vs H2 Q
theorem pe_bmF {o e : Expr} {es : List Expr} {to : TE} {t : TA} {name : Str} {apos cpos : Pos} {id : String} {r : V → List V → Hp → VK → Prop} (slot : Slot "tuple" name id) (hty : typeOf (.builtin id) = pure (.type "method_descriptor")) (hm : MtR X id r)
    (ho : PE X o to) (ha : PA X (e :: es) t) (hbase : attributeBase o name X.env (eval o X.env) = eval o X.env := by rfl)
    (hfew : ((backTo cpos (starEach (e :: es) X.env)).all (fun x => !x.1) && (backToKw cpos (keywordEach [] X.env)).all (fun x => x.1.isSome) &&
      decide ((e :: es).length + ([] : List Keyword).length + (if ([] : List Keyword).isEmpty then 0 else 1) < 30)) = true := by rfl)
    (hline : (apos.endLine == cpos.line) = true := by rfl) (hs : starEach (e :: es) X.env = (false, eval e X.env) :: starEach es X.env := by rfl)
    (hplain : (backTo cpos (starEach es X.env)).any (·.1) = false := by rfl) : PE X (.Call (.Attribute o name apos) (e :: es) [] cpos) (tBMF r to t) := by
  refine ⟨fun pins s σ H Q I h => wpAny_Call_method_late hbase hfew hline rfl (thn (ho.run pins s σ H _ I h) fun v s1 z => ?_)⟩
  obtain ⟨x, H1, I1, r1, p, ob, xs, rfl, hp, hd, q1⟩ := z
  cases r1
  obtain ⟨g1, _, its, rv, hT⟩ := I1.hok p _ hp
  obtain ⟨o2, g2, c2, _⟩ := hT
  rw [g1] at g2
  cases g2
  refine ⟨"tuple", id, PySem.F.plainAttrs_tuple, slot, hty, ⟨ob, g1, c2⟩, fun a e => ?_, ?_⟩
  · cases e
    exact ⟨ob, g1, hd⟩
  have hA := ha.run cpos pins s1 σ H1 _ I1 q1
  rw [hs] at hA ⊢
  refine Calls.callWith_builtin (by show (false || (backTo cpos (starEach es X.env)).any (·.1)) = false; rw [hplain] <;> rfl) (Calls.evalArgs_plain (thn hA fun us s2 z => ?_))
  obtain ⟨vs, H2, I2, r2, q2⟩ := z
  exact hm pins s2 σ H2 (.ref p) vs _ us Q I2 rfl r2 q2
/-- one of two readings of what is walked -/
theorem PI.or {tg e : Expr} {t1 t2 : TI} (h1 : PI X tg e t1) (h2 : PI X tg e t2) : PI X tg e (fun σ H R => t1 σ H R ∨ t2 σ H R) :=
  ⟨fun pins s σ H R I q => q.elim (h1.run pins s σ H R I) (h2.run pins s σ H R I)⟩
end
theorem inV_strs (z : Str) (zs : List Str) : inV (.str z) (zs.map V.str) = decide (z ∈ zs) := by
  unfold inV
  rw [List.any_map]
  induction zs with
  | nil => rfl
  | cons y r ih =>
    rw [List.any_cons, ih]
    show ((y == z) || decide (z ∈ r)) = decide (z ∈ y :: r)
    by_cases h : y = z
    · subst h
      simp
    · have h' : ¬ z = y := fun e => h e.symm
      rw [beq_eq_false_iff_ne.mpr h]
      simp [h']
end Rc

namespace Rc
open PySem PySem.Spec PyProof.Rows L2
/-- a def that is called -/
structure Has (P : Program) (w : World) (K : PySem.W.Frag) (mg : Str → Option Value) (base : Heap) (k : Nat) (nm : Str) (ps : List Str) (sp : Sp) (f : Addr) (fd : FuncData) : Prop where
  ok : FnOk P w K mg base CX0 k f fd ps sp
  g : mg nm = some (.ref f)
  kp : PySem.W.keepIn K (.ref f) = true
  b : Binds K fd ps []
/-- a method that is called -/
structure HasM (P : Program) (w : World) (K : PySem.W.Frag) (mg : Str → Option Value) (base : Heap) (C : Addr) (k : Nat) (nm : Str) (ps : List Str) (sp : Sp) (f : Addr) (fd : FuncData) : Prop where
  ok : FnOk P w K mg base CX0 k f fd ps sp
  m : Meth K C nm f
  b : Binds K fd ps []
structure Blt3 (mg : Str → Option Value) : Prop where
  list : mg "list" = none
  tuple : mg "tuple" = none
  enumerate : mg "enumerate" = none
  zip : mg "zip" = none
  sum : mg "sum" = none
  dict : mg "dict" = none
structure ClsF (K : PySem.W.Frag) (C : Addr) : Prop where
  cl : Cls K C
  n1 : NoAttr K C "names"
  n2 : NoAttr K C "gifts"
  n3 : NoAttr K C "stacks"
  n4 : NoAttr K C "drops"
section
variable {P : Program} {w : World} {K : PySem.W.Frag} {mg : Str → Option Value} {base : Heap}
/-! ### check_persons -/
abbrev sCheckP : Stmt := topS 25
theorem scCheckP : FnScope ["persons", "place", "name"] ["persons"] (defScope sCheckP) := ⟨rfl, rfl, rfl, by decide +kernel, rfl, by decide +kernel, by decide +kernel⟩
/-- names of which a book may be made -/
structure NamesOk (zs : List Str) : Prop where
  n0 : 1 ≤ zs.length
  n1 : zs.length ≤ 12
  nd : zs.Nodup
  nm : ∀ z ∈ zs, nameT z = true
theorem nameT_len {z : Str} (h : nameT z = true) : 1 ≤ z.length ∧ z.length ≤ 8 := by
  unfold nameT at h
  simp only [Bool.and_eq_true, decide_eq_true_eq] at h
  exact h.1
def spCheckP (K : PySem.W.Frag) : Sp := fun vs H Q _ => ∃ a zs, vs = [.ref a] ∧ H a = some (.lst (zs.map V.str)) ∧ NamesOk zs ∧ ∀ H', Same H H' → Q .non H'
theorem ok_checkP {f fN : Addr} {fd fdN : FuncData} (F : Fun K "check_persons" "check_persons" sCheckP f fd) (B : Blt mg) (B3 : Blt3 mg) (gM : ∃ t, mg "MOST_PERSONS" = some (.int 12 t))
    (N : Has P w K mg base 1 "is_name" ["thing"] (spBool K nameD) fN fdN) : FnOk P w K mg base CX0 2 f fd ["persons"] (spCheckP K) := by
  obtain ⟨tM, gM⟩ := gM
  refine F.ok scCheckP (fun vs H Q E h => ?_) (fun cdv A outer s H vs Q E hr h => ?_)
  · obtain ⟨a, zs, rfl, _⟩ := h
    rfl
  · obtain ⟨a, zs, rfl, ha, ok, q⟩ := h
    refine ⟨_, pss_cons (ps_if (PW.pt (pw_or (pt_not (pt_val (pe_callB call_isi (by rfl) B.isi (by decide +kernel) (pa_cons (pv 0) (pa_cons (pe_bltn (v := .ty "list") (by rfl) B3.list (by decide +kernel) rfl) pa_nil)))))
        (pw_or (pt_cmpR op_lt (pe_callB call_len_seq (by rfl) B.len PySem.boot_len (pa_cons (pv 0) pa_nil)) pe_int (nomark _))
        (pw_or1 (pt_cmpR op_gt (pe_callB call_len_seq (by rfl) B.len PySem.boot_len (pa_cons (pv 0) pa_nil)) (pe_glob (v := .int 12) (by rfl) gM ⟨_, rfl⟩) (nomark _)))))) pss_never pss_nil)
      (pss_one (ps_for PassesOwn.never rfl (pi_enum (by rfl) B3.enumerate (pa_cons (pv 0) pa_nil)) (pg_tup rfl (pgs_cons (pg_name (i := 1) scCheckP.nd rfl (.inl rfl)) (pgs_cons (pg_name (i := 2) scCheckP.nd rfl (.inl rfl)) pgs_nil)))
        (pss_cons (ps_if (pt_not (pt_val (pe_call N.ok hr (by rfl) N.g N.kp N.b .nil pass0 (pa_cons (pv 2) pa_nil)))) pss_never pss_nil)
        (pss_one (ps_if (pt_cmpR op_in_seq (pv 2) (pe_slice sl_list (pv 0) po_none (po_some (pv 1))) (by rfl)) pss_never pss_nil))))), ?_⟩
    have sq : SqL K H a (zs.map V.str) := .inl (.inl ha)
    refine ⟨.ref a, rfl, _, .ty "list", _, _, true, rfl, .ty "list", .base (.lst ha), kit_ty (by decide +kernel), _, rfl, iteF ?_⟩
    refine ⟨.ref a, rfl, a, _, rfl, .inl sq, _, _, rfl, rfl, _, rfl, ?_⟩
    have l0 := ok.n0
    have l1 := ok.n1
    rw [show decide (((zs.map V.str).length : Int) < 1) = false from decide_eq_false (by rw [List.length_map]; omega)]
    refine iteF ⟨.ref a, rfl, a, _, rfl, .inl sq, _, _, rfl, rfl, _, rfl, ?_⟩
    rw [show decide ((12 : Int) < ((zs.map V.str).length : Int)) = false from decide_eq_false (by rw [List.length_map]; omega)]
    refine iteF ⟨.ref a, rfl, a, _, rfl, sq, ?_⟩
    refine for_it (walk_enum (xs := zs.map V.str)) (fun i σ H' => ∃ y1 y2, σ = [some (.ref a), y1, y2] ∧ Same H H') ⟨_, _, rfl, Same.refl _⟩ (fun i σ H' _ hP => ?_) (fun i x σ H1' H1 hi hP hY => ?_) (fun σ H' hP => ?_)
    · obtain ⟨_, _, _, s⟩ := hP
      exact s.seq sq
    · obtain ⟨T, x1, x2, rfl, nT, rfl, e1, e2⟩ := hY
      obtain ⟨y1, y2, rfl, s1⟩ := hP
      cases e1
      have s2 := s1.trans (same_upd (o := .tup [V.int (i : Nat), x2]) nT)
      rw [List.length_map] at hi
      have ex : x2 = .str zs[i] := by
        have e2' : (zs.map V.str)[i]? = some x2 := e2
        rw [List.getElem?_map, List.getElem?_eq_getElem hi] at e2'
        exact (Option.some.inj e2').symm
      subst ex
      have hm : zs[i] ∈ zs := List.getElem_mem hi
      have nm := ok.nm _ hm
      refine ⟨T, _, rfl, .inl (.inl upd_same), rfl, _, _, rfl, _, _, rfl, rfl, ?_⟩
      refine ⟨.str zs[i], rfl, .str zs[i], .str zs[i], rfl, .str _, fun z e => by cases e; have := (nameT_len nm).2; omega, fun H2 sm => ⟨_, rfl, ?_⟩⟩
      have e3 : nameD (.str zs[i]) = true := nm
      rw [e3]
      refine iteF ⟨.str zs[i], rfl, .ref a, rfl, .int (i : Nat), rfl, _, rfl, a, _, rfl, sm.seq (s2.seq sq), fun p np => ?_⟩
      rw [cut_take, ← List.map_take]
      refine ⟨p, _, rfl, .inl (.inl (.inl upd_same)), rfl, flat_strs _, _, rfl, ?_⟩
      have no : ¬ zs[i] ∈ zs.take i := fun z => by
        obtain ⟨j, hj, e⟩ := List.getElem_of_mem z
        rw [List.length_take] at hj
        rw [List.getElem_take] at e
        have := (List.getElem_inj ok.nd).mp e
        omega
      show if inV (.str zs[i]) ((zs.take i).map V.str) = true then _ else _
      rw [inV_strs, decide_eq_false no]
      exact iteF ⟨_, _, rfl, s2.trans (sm.trans (same_upd np))⟩
    · obtain ⟨_, _, rfl, s⟩ := hP
      exact q _ s
/-! ### check_amount -/
abbrev sCheckA : Stmt := topS 26
theorem scCheckA : FnScope ["amount"] ["amount"] (defScope sCheckA) := ⟨rfl, rfl, rfl, by decide +kernel, rfl, by decide +kernel, by decide +kernel⟩
def spCheckA (K : PySem.W.Frag) : Sp := fun vs H Q _ => ∃ n : Int, vs = [.int n] ∧ 1 ≤ n ∧ ∀ H', Same H H' → Q .non H'
theorem ok_checkA {f fN : Addr} {fd fdN : FuncData} (F : Fun K "check_amount" "check_amount" sCheckA f fd)
    (N : Has P w K mg base 2 "is_amount" ["thing"] (spBool K amountD) fN fdN) : FnOk P w K mg base CX0 3 f fd ["amount"] (spCheckA K) := by
  refine F.ok scCheckA (fun vs H Q E h => ?_) (fun cdv A outer s H vs Q E hr h => ?_)
  · obtain ⟨a, rfl, _⟩ := h
    rfl
  · obtain ⟨n, rfl, n1, q⟩ := h
    refine ⟨_, pss_one (ps_if (pt_not (pt_val (pe_call N.ok hr (by rfl) N.g N.kp N.b .nil pass0 (pa_cons (pv 0) pa_nil)))) pss_never pss_nil), ?_⟩
    refine ⟨_, rfl, _, .int n, rfl, .int n, (fun z e => by cases e), fun H' sm => ⟨_, rfl, ?_⟩⟩
    have e : amountD (.int n) = true := decide_eq_true n1
    rw [e]
    exact iteF (q _ sm)
/-! ### with_changed -/
abbrev sChg : Stmt := topS 28
theorem scChg : FnScope ["row", "place", "thing"] ["row", "place", "thing"] (defScope sChg) := ⟨rfl, rfl, rfl, by decide +kernel, rfl, by decide +kernel, by decide +kernel⟩
def spChg (K : PySem.W.Frag) : Sp := fun vs H Q _ => ∃ v ds n t d, vs = [v, .int (n : Nat), t] ∧ Dt K H v (.tuple ds) ∧ Dt K H t d ∧ n < ds.length ∧ ds.length ≤ 100 ∧ ∀ v' H', Same H H' → Dt K H' v' (.tuple (ds.set n d)) → Q v' H'
theorem set_parts {α : Type} (ds : List α) (n : Nat) (d : α) (h : n < ds.length) : ds.take n ++ [d] ++ ds.drop (n + 1) = ds.set n d := by
  rw [List.set_eq_take_append_cons_drop, if_pos h, List.append_assoc]
  rfl
theorem ok_chg {f : Addr} {fd : FuncData} (F : Fun K "with_changed" "with_changed" sChg f fd) : FnOk P w K mg base CX0 1 f fd ["row", "place", "thing"] (spChg K) := by
  refine F.ok scChg (fun vs H Q E h => ?_) (fun cdv A outer s H vs Q E hr h => ?_)
  · obtain ⟨_, _, _, _, _, rfl, _⟩ := h
    rfl
  · obtain ⟨v, ds, n, t, d, rfl, hv, ht, hn, hz, q⟩ := h
    refine ⟨_, pss_one (ps_ret (pe_op op_catD (pe_op op_catD (pe_slice sl_tupD (pv 0) po_none (po_some (pv 1))) (pe_tup (pa_cons (pv 2) pa_nil))) (pe_slice sl_tupD (pv 0) (po_some (pe_op op_add (pv 1) pe_int)) po_none))), ?_⟩
    refine ⟨v, rfl, .int (n : Nat), rfl, (n : Nat), rfl, ds, hv, .inl ⟨n, rfl, rfl, fun v1 H1 s1 d1 => ?_⟩⟩
    refine ⟨t, rfl, by show 1 ≤ sizeLine; decide, fun p np => ⟨ds.take n, [d], Dt.same (same_upd np) _ d1, .tup (.inl (.inl upd_same)) (.cons (Dt.same (s1.trans (same_upd np)) _ ht) .nil), ?_, fun v2 H2 s2 d2 => ?_⟩⟩
    · rw [List.length_take, List.length_singleton]
      omega
    have s02 := s1.trans ((same_upd np).trans s2)
    refine ⟨v, rfl, .int (n : Nat), rfl, _, _, rfl, rfl, _, rfl, ds, Dt.same s02 _ hv, .inr ⟨n + 1, rfl, rfl, fun v3 H3 s3 d3 => ⟨_, _, Dt.same s3 _ d2, d3, ?_, fun v4 H4 s4 d4 => ?_⟩⟩⟩
    · rw [List.length_append, List.length_take, List.length_drop, List.length_singleton]
      omega
    · rw [set_parts ds n d hn] at d4
      exact q _ _ (s02.trans (s3.trans s4)) d4
end
end Rc

namespace Rc
open PySem PySem.Spec PyProof.Rows L2
/-- a list (k) or a tuple -/
def Sq (K : PySem.W.Frag) (k : Bool) (H : Hp) (a : Addr) (xs : List V) : Prop := if k = true then SqL K H a xs else SqT K H a xs
theorem same_seqT {K : PySem.W.Frag} {H H' : Hp} {a : Addr} {xs : List V} (e : Same H H') (h : SqT K H a xs) : SqT K H' a xs := by
  rcases h with (h | ⟨o, h⟩) | h
  · exact .inl (.inl (e _ _ h))
  · exact .inl (.inr ⟨o, e _ _ h⟩)
  · exact .inr h
theorem Sq.same {K : PySem.W.Frag} {k : Bool} {H H' : Hp} {a : Addr} {xs : List V} (h : Sq K k H a xs) (e : Same H H') : Sq K k H' a xs := by
  cases k with
  | true => exact e.seq h
  | false => exact same_seqT e h
/-- a list or a tuple that stands in slot i -/
def iSeqV (K : PySem.W.Frag) (i : Nat) : TI := fun σ H R => ∃ a xs k, σ[i]? = some (some (.ref a)) ∧ Sq K k H a xs ∧ ∀ J G, Walk J xs.length G (YAt xs) → (∀ H', Sq K k H' a xs → G H') → R J H
theorem pi_seqV {X : Cx} {tg : Expr} (i : Nat) {x : Str} {pos : Pos} (h : PE X (.Name x pos) (tVar i)) : PI X tg (.Name x pos) (iSeqV X.K i) := by
  refine ⟨fun pins s σ H R I q => ?_⟩
  obtain ⟨a, xs, k, e, hq, q⟩ := q
  cases k with
  | true => exact (pi_list h).run pins s σ H R I ⟨_, e, a, rfl, ⟨xs, hq⟩, q _ _ walk_list fun H' z => z⟩
  | false => exact (pi_tup h).run pins s σ H R I ⟨_, e, a, rfl, ⟨xs, hq⟩, q _ _ walk_tup fun H' z => z⟩
/-! ### notes that fall from above -/
def partOf (a f : Int) : Int := if f < a then f else a
def goneN : List (Str × Int) → Int → List (Str × Int)
  | [], _ => []
  | (t, a) :: r, f => (if 0 < partOf a f then [(t, partOf a f)] else []) ++ goneN r (f - partOf a f)
def leftN : List (Str × Int) → Int → List (Str × Int)
  | [], _ => []
  | (t, a) :: r, f => (if partOf a f < a then [(t, a - partOf a f)] else []) ++ leftN r (f - partOf a f)
theorem goneN_nil (f : Int) : goneN [] f = [] := rfl
theorem leftN_nil (f : Int) : leftN [] f = [] := rfl
theorem goneN_cons (t : Str) (a f : Int) (r : List (Str × Int)) : goneN ((t, a) :: r) f = (if 0 < partOf a f then [(t, partOf a f)] else []) ++ goneN r (f - partOf a f) := rfl
theorem leftN_cons (t : Str) (a f : Int) (r : List (Str × Int)) : leftN ((t, a) :: r) f = (if partOf a f < a then [(t, a - partOf a f)] else []) ++ leftN r (f - partOf a f) := rfl
theorem goneN_len : ∀ (l : List (Str × Int)) (f : Int), (goneN l f).length ≤ l.length
  | [], _ => Nat.le_refl _
  | (t, a) :: r, f => by
    have := goneN_len r (f - partOf a f)
    unfold goneN
    rw [List.length_append, List.length_cons]
    split <;> simp <;> omega
theorem leftN_len : ∀ (l : List (Str × Int)) (f : Int), (leftN l f).length ≤ l.length
  | [], _ => Nat.le_refl _
  | (t, a) :: r, f => by
    have := leftN_len r (f - partOf a f)
    unfold leftN
    rw [List.length_append, List.length_cons]
    split <;> simp <;> omega
theorem DtAll.notes_get {K : PySem.W.Frag} {H : Hp} {xs : List V} {l : List (Str × Int)} {i : Nat} {x : V} (h : DtAll K H xs (notesD l)) (e : xs[i]? = some x) : ∃ (hi : i < l.length), Dt K H x (noteD l[i]) := by
  have hl := h.len
  have hi : i < xs.length := (List.getElem?_eq_some_iff.mp e).1
  have hi' : i < l.length := by
    unfold notesD at hl
    rw [List.length_map] at hl
    omega
  refine ⟨hi', ?_⟩
  have g : (notesD l)[i]? = some (noteD l[i]) := by
    unfold notesD
    rw [List.getElem?_map, List.getElem?_eq_getElem hi']
    rfl
  obtain ⟨v, e1, e2⟩ := h.get g
  rw [e] at e1
  cases e1
  exact e2
theorem note_inv {K : PySem.W.Frag} {H : Hp} {v : V} {n : Str × Int} (h : Dt K H v (noteD n)) : ∃ a, v = .ref a ∧ SqT K H a [.str n.1, .int n.2] := by
  obtain ⟨a, xs, rfl, q, d⟩ := h.tup_inv
  cases d with
  | cons d1 d2 =>
    cases d1
    cases d2 with
    | cons d3 d4 =>
      cases d3
      cases d4
      exact ⟨a, rfl, q⟩
section
variable {P : Program} {w : World} {K : PySem.W.Frag} {mg : Str → Option Value} {base : Heap}
abbrev sSplit : Stmt := topS 27
abbrev nSplit : List Str := ["notes", "fallen", "gone", "left", "to", "amount", "part"]
theorem scSplit : FnScope nSplit ["notes", "fallen"] (defScope sSplit) := ⟨rfl, rfl, rfl, by decide +kernel, rfl, by decide +kernel, by decide +kernel⟩
def spSplit (K : PySem.W.Frag) : Sp := fun vs H Q _ => ∃ a xs kd l f, vs = [.ref a, .int f] ∧ Sq K kd H a xs ∧ DtAll K H xs (notesD l) ∧ l.length ≤ 100 ∧
  ∀ t g m gx mx H', Same H H' → H' t = some (.tup [.ref g, .ref m]) → H g = none → H m = none → g ≠ m → H' g = some (.lst gx) → H' m = some (.lst mx) → DtAll K H' gx (notesD (goneN l f)) → DtAll K H' mx (notesD (leftN l f)) → Q (.ref t) H'
theorem ok_split {f : Addr} {fd : FuncData} (F : Fun K "split_notes" "split_notes" sSplit f fd) (B2 : Blt2 mg) : FnOk P w K mg base CX0 1 f fd ["notes", "fallen"] (spSplit K) := by
  refine F.ok scSplit (fun vs H Q E h => ?_) (fun cdv A outer s H vs Q E hr h => ?_)
  · obtain ⟨_, _, _, _, _, rfl, _⟩ := h
    rfl
  · obtain ⟨a, xs, kd, l, f, rfl, hq, hd, hz, q⟩ := h
    refine ⟨_, pss_cons (ps_set (i := 2) scSplit.nd rfl (.inl rfl) (pe_lst pa_nil)) (pss_cons (ps_set (i := 3) scSplit.nd rfl (.inl rfl) (pe_lst pa_nil))
      (pss_cons (ps_for PassesOwn.never rfl (pi_seqV 0 (pv 0)) (pg_tup rfl (pgs_cons (pg_name (i := 4) scSplit.nd rfl (.inl rfl)) (pgs_cons (pg_name (i := 5) scSplit.nd rfl (.inl rfl)) pgs_nil)))
        (pss_cons (ps_set (i := 6) scSplit.nd rfl (.inl rfl) (pe_callB (call_min2 rfl) (by rfl) B2.min (by decide +kernel) (pa_cons (pv 5) (pa_cons (pv 1) pa_nil))))
        (pss_cons (ps_aug (i := 1) scSplit.nd rfl (.inl rfl) (pv 6) ip_sub)
        (C8.pss_cut (ps_if (pt_cmpR op_gt (pv 6) pe_int (nomark _)) (pss_one (ps_expr (pe_bm PySem.F.plainAttrs_list PySem.F.slot_list_append PySem.F.type_list_append mt_append (pv 2) (pa_cons (pe_tup (pa_cons (pv 4) (pa_cons (pv 6) pa_nil))) pa_nil)))) pss_nil)
        (pss_one (ps_if (pt_cmpR op_lt (pv 6) (pv 5) (nomark _)) (pss_one (ps_expr (pe_bm PySem.F.plainAttrs_list PySem.F.slot_list_append PySem.F.type_list_append mt_append (pv 3) (pa_cons (pe_tup (pa_cons (pv 4) (pa_cons (pe_op op_sub (pv 5) (pv 6)) pa_nil))) pa_nil)))) pss_nil))))))
      (pss_one (ps_ret (pe_tup (pa_cons (pv 2) (pa_cons (pv 3) pa_nil))))))), ?_⟩
    refine ⟨Nat.zero_le _, fun g ng => ⟨Nat.zero_le _, fun m nm => ?_⟩⟩
    have gm : g ≠ m := fun z => by
      rw [← z, upd_same] at nm
      cases nm
    have nmH : H m = none := by
      rw [upd_ne gm.symm] at nm
      exact nm
    have s0 : Same H (upd (upd H g (.lst [])) m (.lst [])) := (same_upd ng).trans (same_upd nm)
    refine ⟨a, xs, kd, rfl, hq.same s0, fun J G wk hG => ?_⟩
    have fresh : ∀ b o, H b = some o → b ≠ g ∧ b ≠ m := fun b o e => ⟨ne_of_none e ng, ne_of_none e nmH⟩
    refine for_it wk (fun i σ H' => ∃ y4 y5 y6 fi gx mx Gs Ms, σ = [some (.ref a), some (.int fi), some (.ref g), some (.ref m), y4, y5, y6] ∧ Same H H' ∧ H' g = some (.lst gx) ∧ H' m = some (.lst mx) ∧
        DtAll K H' gx (notesD Gs) ∧ DtAll K H' mx (notesD Ms) ∧ Gs.length ≤ i ∧ Ms.length ≤ i ∧ Gs ++ goneN (l.drop i) fi = goneN l f ∧ Ms ++ leftN (l.drop i) fi = leftN l f)
      ⟨_, _, _, f, [], [], [], [], rfl, s0, by rw [upd_ne gm, upd_same], upd_same, .nil, .nil, Nat.le_refl _, Nat.le_refl _, rfl, rfl⟩ (fun i σ H' _ hP => ?_) (fun i x σ H1' H1 hi hP hY => ?_) (fun σ H' hP => ?_)
    · obtain ⟨_, _, _, _, _, _, _, _, _, s1, _⟩ := hP
      exact hG _ (hq.same s1)
    · obtain ⟨rfl, ex⟩ := hY
      obtain ⟨y4, y5, y6, fi, gx, mx, Gs, Ms, rfl, s1, hg, hm, dg, dm, lg, lm, eg, em⟩ := hP
      obtain ⟨hil, dn⟩ := (DtAll.same s1 _ hd).notes_get ex
      obtain ⟨ta, rfl, qt⟩ := note_inv dn
      have ed : l.drop i = l[i] :: l.drop (i + 1) := List.drop_eq_getElem_cons hil
      rw [ed] at eg em
      obtain ⟨t, am, el⟩ : ∃ t am, l[i] = (t, am) := ⟨_, _, rfl⟩
      rw [el] at eg em qt
      rw [goneN_cons] at eg
      rw [leftN_cons] at em
      have dgl := dg.len
      have dml := dm.len
      unfold notesD at dgl dml
      rw [List.length_map] at dgl dml
      refine ⟨ta, _, rfl, qt, rfl, _, _, rfl, _, _, rfl, rfl, ?_⟩
      refine ⟨.int am, rfl, .int fi, rfl, _, _, rfl, ?_⟩
      have ep : (if fi < am then fi else am) = partOf am fi := rfl
      rw [ep]
      generalize partOf am fi = pt at eg em
      refine ⟨_, rfl, _, rfl, _, _, rfl, rfl, ?_⟩
      refine ⟨fun σ2 H2 => ∃ gx2 Gs2, σ2 = [some (V.ref a), some (V.int (fi - pt)), some (V.ref g), some (V.ref m), some (V.str t), some (V.int am), some (V.int pt)] ∧ Same H H2 ∧ H2 g = some (.lst gx2) ∧ H2 m = some (.lst mx) ∧ DtAll K H2 gx2 (notesD Gs2) ∧ DtAll K H2 mx (notesD Ms) ∧
        Gs2.length ≤ i + 1 ∧ Gs2 ++ goneN (l.drop (i + 1)) (fi - pt) = goneN l f, ?_, ?_⟩
      · refine ⟨.int pt, rfl, _, _, rfl, rfl, _, rfl, ite2 (fun e => ?_) (fun e => ?_)⟩
        · have e' := of_decide_eq_true e
          rw [if_pos e'] at eg
          refine ⟨.ref g, rfl, .inl ⟨rfl, _, .inl (.inl hg)⟩, .str t, rfl, .int pt, rfl, by show 2 ≤ sizeLine; decide, fun p np => ⟨g, gx, _, rfl, rfl, ?_, small1000 (by omega), ?_⟩⟩
          · rw [upd_ne (ne_of_none hg np)]
            exact hg
          have pm : p ≠ m := (ne_of_none hm np).symm
          have pg : p ≠ g := (ne_of_none hg np).symm
          have kp : Kp H1 (upd (upd H1 p (.tup [.str t, .int pt])) g (.lst (gx ++ [.ref p]))) := fun b o e fx => by
            have nb : b ≠ g := fun z => by
              rw [z, hg] at e
              cases e
              exact fx
            rw [upd_ne nb, upd_ne (ne_of_none e np)]
            exact e
          refine ⟨gx ++ [.ref p], Gs ++ [(t, pt)], rfl, fun b o e => ?_, upd_same, ?_, ?_, DtAll.keep kp _ (tup_notes _) dm, ?_, ?_⟩
          · rw [upd_ne (fresh b o e).1, upd_ne (ne_of_none (s1 b o e) np)]
            exact s1 b o e
          · rw [upd_ne gm.symm, upd_ne pm.symm]
            exact hm
          · unfold notesD
            rw [List.map_append]
            refine (DtAll.keep kp _ (tup_notes _) dg).append (.cons (.tup (.inl (.inl ?_)) (.cons (.str _) (.cons (.int _) .nil))) .nil)
            rw [upd_ne pg, upd_same]
          · rw [List.length_append]
            exact Nat.add_le_add_right lg 1
          · rw [List.append_assoc]
            exact eg
        · have e' : ¬ 0 < pt := fun c => e (decide_eq_true c)
          rw [if_neg e'] at eg
          exact ⟨gx, Gs, rfl, s1, hg, hm, dg, dm, Nat.le_succ_of_le lg, eg⟩
      · rintro σ2 H2 ⟨gx2, Gs2, rfl, s2, hg2, hm2, dg2, dm2, lg2, eg2⟩
        refine ⟨.int pt, rfl, .int am, rfl, _, _, rfl, rfl, _, rfl, ite2 (fun e => ?_) (fun e => ?_)⟩
        · have e' := of_decide_eq_true e
          rw [if_pos e'] at em
          refine ⟨.ref m, rfl, .inl ⟨rfl, _, .inl (.inl hm2)⟩, .str t, rfl, .int am, rfl, .int pt, rfl, _, _, rfl, rfl, by show 2 ≤ sizeLine; decide, fun p np => ⟨m, mx, _, rfl, rfl, ?_, small1000 (by omega), ?_⟩⟩
          · rw [upd_ne (ne_of_none hm2 np)]
            exact hm2
          have pm : p ≠ m := (ne_of_none hm2 np).symm
          have pg : p ≠ g := (ne_of_none hg2 np).symm
          have kp : Kp H2 (upd (upd H2 p (.tup [.str t, .int (am - pt)])) m (.lst (mx ++ [.ref p]))) := fun b o e fx => by
            have nb : b ≠ m := fun z => by
              rw [z, hm2] at e
              cases e
              exact fx
            rw [upd_ne nb, upd_ne (ne_of_none e np)]
            exact e
          refine ⟨_, _, _, fi - pt, gx2, mx ++ [.ref p], Gs2, Ms ++ [(t, am - pt)], rfl, fun b o e => ?_, ?_, upd_same, DtAll.keep kp _ (tup_notes _) dg2, ?_, lg2, ?_, eg2, ?_⟩
          · rw [upd_ne (fresh b o e).2, upd_ne (ne_of_none (s2 b o e) np)]
            exact s2 b o e
          · rw [upd_ne gm, upd_ne pg.symm]
            exact hg2
          · unfold notesD
            rw [List.map_append]
            refine (DtAll.keep kp _ (tup_notes _) dm2).append (.cons (.tup (.inl (.inl ?_)) (.cons (.str _) (.cons (.int _) .nil))) .nil)
            rw [upd_ne pm, upd_same]
          · rw [List.length_append]
            exact Nat.add_le_add_right lm 1
          · rw [List.append_assoc]
            exact em
        · have e' : ¬ pt < am := fun c => e (decide_eq_true c)
          rw [if_neg e'] at em
          exact ⟨_, _, _, fi - pt, gx2, mx, Gs2, Ms, rfl, s2, hg2, hm2, dg2, dm2, lg2, Nat.le_succ_of_le lm, eg2, em⟩
    · obtain ⟨y4, y5, y6, fi, gx, mx, Gs, Ms, rfl, s1, hg, hm, dg, dm, lg, lm, eg, em⟩ := hP
      have hx : l.drop xs.length = [] := List.drop_of_length_le (by
        have := hd.len
        unfold notesD at this
        rw [List.length_map] at this
        omega)
      rw [hx] at eg em
      rw [goneN_nil, List.append_nil] at eg
      rw [leftN_nil, List.append_nil] at em
      subst eg em
      refine ⟨.ref g, rfl, .ref m, rfl, by show 2 ≤ sizeLine; decide, fun t nt => ?_⟩
      have st := same_upd (o := .tup [.ref g, .ref m]) nt
      exact q t g m gx mx _ (s1.trans st) upd_same ng nmH gm (st _ _ hg) (st _ _ hm) (DtAll.same st _ dg) (DtAll.same st _ dm)
end
end Rc

namespace Rc
open PySem PySem.Spec PyProof.Rows L2
abbrev inBook (i : Nat) : Stmt := inClass (topS 29) i
theorem Bk.Ok.names {M : Bk} (h : M.Ok) : NamesOk M.names := ⟨h.n0, h.n1, h.nd, h.nm⟩
def newBk (zs : List Str) : Bk := ⟨zs, List.replicate zs.length 0, List.replicate zs.length [], List.replicate zs.length 0⟩
theorem putF_miss {f g : Str} {v x : V} {r : List (Str × V)} (h : ¬ g = f) : putF f v ((g, x) :: r) = (g, x) :: putF f v r := by
  show (if g = f then (g, v) :: r else (g, x) :: putF f v r) = _
  rw [if_neg h]
theorem putF_hit {f : Str} {v x : V} {r : List (Str × V)} : putF f v ((f, x) :: r) = (f, v) :: r := by
  show (if f = f then (f, v) :: r else (f, x) :: putF f v r) = _
  rw [if_pos rfl]
theorem put1 (a : V) : putF "names" a [] = ([("names", a)] : List (Str × V)) := rfl
theorem put2 (a b : V) : putF "gifts" b [("names", a)] = ([("names", a), ("gifts", b)] : List (Str × V)) := by
  rw [putF_miss (by decide +kernel)]
  rfl
theorem put3 (a b c : V) : putF "stacks" c [("names", a), ("gifts", b)] = ([("names", a), ("gifts", b), ("stacks", c)] : List (Str × V)) := by
  rw [putF_miss (by decide +kernel), putF_miss (by decide +kernel)]
  rfl
theorem put4 (a b c d : V) : putF "drops" d [("names", a), ("gifts", b), ("stacks", c)] = bf a b c d := by
  rw [putF_miss (by decide +kernel), putF_miss (by decide +kernel), putF_miss (by decide +kernel)]
  rfl
theorem putG (a b c d e : V) : putF "gifts" e (bf a b c d) = bf a e c d := by
  unfold bf
  rw [putF_miss (by decide +kernel), putF_hit]
theorem putS (a b c d e : V) : putF "stacks" e (bf a b c d) = bf a b e d := by
  unfold bf
  rw [putF_miss (by decide +kernel), putF_miss (by decide +kernel), putF_hit]
theorem putD (a b c d e : V) : putF "drops" e (bf a b c d) = bf a b c e := by
  unfold bf
  rw [putF_miss (by decide +kernel), putF_miss (by decide +kernel), putF_miss (by decide +kernel), putF_hit]
theorem bf_len (a b c d : V) : (bf a b c d).length < 1000 := by
  show 4 < 1000
  decide
section
variable {P : Program} {w : World} {K : PySem.W.Frag} {mg : Str → Option Value} {base : Heap}
/-! ### __init__ -/
abbrev sInit : Stmt := inBook 0
theorem scInit : FnScope ["self", "persons"] ["self", "persons"] (defScope sInit) := ⟨rfl, rfl, rfl, by decide +kernel, rfl, by decide +kernel, by decide +kernel⟩
def spInit (K : PySem.W.Frag) (C : Addr) : Sp := fun vs H Q _ => ∃ x dx a zs, vs = [.ref x, .ref a] ∧ H x = some (.ins C dx []) ∧ H a = some (.lst (zs.map V.str)) ∧ NamesOk zs ∧ ∀ H', But x H H' → BookAt K C H' x (newBk zs) → Q .non H'
theorem ok_init {f fc C : Addr} {fd fdc : FuncData} (F : Fun K "__init__" "Book.__init__" sInit f fd) (T : ClsF K C) (B : Blt mg) (B3 : Blt3 mg)
    (CP : Has P w K mg base 2 "check_persons" ["persons"] (spCheckP K) fc fdc) : FnOk P w K mg base CX0 3 f fd ["self", "persons"] (spInit K C) := by
  refine F.ok scInit (fun vs H Q E h => ?_) (fun cdv A outer s H vs Q E hr h => ?_)
  · obtain ⟨_, _, _, _, rfl, _⟩ := h
    rfl
  · obtain ⟨x, dx, a, zs, rfl, hx, ha, ok, q⟩ := h
    refine ⟨_, pss_cons (ps_expr (pe_call CP.ok hr (by rfl) CP.g CP.kp CP.b .nil pass0 (pa_cons (pv 1) pa_nil)))
      (pss_cons (ps_fld (pv 0) (pe_callTy call_tupF (by rfl) B3.tuple (by decide +kernel) (pa_cons (pv 1) pa_nil)) rfl)
      (pss_cons (ps_fld (pv 0) (pe_op op_repD (pe_tup (pa_cons pe_int pa_nil)) (pe_callB call_len_seq (by rfl) B.len PySem.boot_len (pa_cons (pv 1) pa_nil))) rfl)
      (pss_cons (ps_fld (pv 0) (pe_op op_repD (pe_tup (pa_cons (pe_tup pa_nil) pa_nil)) (pe_callB call_len_seq (by rfl) B.len PySem.boot_len (pa_cons (pv 1) pa_nil))) rfl)
      (pss_one (ps_fld (pv 0) (pe_op op_repD (pe_tup (pa_cons pe_int pa_nil)) (pe_callB call_len_seq (by rfl) B.len PySem.boot_len (pa_cons (pv 1) pa_nil))) rfl))))), ?_⟩
    have l0 := ok.n0
    have l1 := ok.n1
    have el : (zs.map V.str).length = zs.length := List.length_map ..
    have nxa : a ≠ x := ne_of ha hx (by intro z; cases z)
    refine ⟨.ref a, rfl, a, zs, rfl, ha, ok, fun H1 s1 => ?_⟩
    -- self.names = tuple(persons)
    refine ⟨.ref a, rfl, a, _, rfl, .inl (.inl (s1 _ _ ha)), fun tn on ntn don => ?_⟩
    have s2 : Same H1 (upd H1 tn (.frz on (.tup (zs.map V.str)))) := same_upd ntn
    have ntx : x ≠ tn := ne_of_none (s1 _ _ hx) ntn
    refine ⟨.ref x, rfl, x, C, dx, _, rfl, s2 _ _ (s1 _ _ hx), T.cl, T.n1, by show 0 < 1000; decide, ?_⟩
    rw [put1]
    generalize hH3 : upd (upd H1 tn (.frz on (.tup (zs.map V.str)))) x (.ins C dx [("names", V.ref tn)]) = H3
    have b3 : But x H H3 := by
      rw [← hH3]
      exact (same_but (s1.trans s2)).trans But.at
    have x3 : H3 x = some (.ins C dx [("names", V.ref tn)]) := by
      rw [← hH3, upd_same]
    have t3 : H3 tn = some (.frz on (.tup (zs.map V.str))) := by
      rw [← hH3, upd_ne ntx.symm, upd_same]
    -- self.gifts
    refine ⟨by show 1 ≤ sizeLine; decide, fun t1 nt1 => ?_⟩
    have s4 := same_upd (o := .tup [V.int 0]) nt1
    refine ⟨.ref a, rfl, a, _, rfl, .inl (.inl (.inl (s4 _ _ (b3 _ _ nxa ha)))), .int 0, zs.length, .tup (.inl (.inl upd_same)) (.cons (.int 0) .nil), by rw [el], l0, by omega, fun vg H5 s5 dg => ?_⟩
    have s35 := s4.trans s5
    refine ⟨.ref x, rfl, x, C, dx, _, rfl, s35 _ _ x3, T.cl, T.n2, by show 1 < 1000; decide, ?_⟩
    rw [put2]
    have k6 : KT H5 (upd H5 x (.ins C dx [("names", V.ref tn), ("gifts", vg)])) := kt_upd (s35 _ _ x3) (fun z => z)
    have b6 : But x H (upd H5 x (.ins C dx [("names", V.ref tn), ("gifts", vg)])) := b3.trans ((same_but s35).trans But.at)
    have k36 : KT H3 (upd H5 x (.ins C dx [("names", V.ref tn), ("gifts", vg)])) := (kt_same s35).trans k6
    generalize hH6 : upd H5 x (.ins C dx [("names", V.ref tn), ("gifts", vg)]) = H6 at k6 b6 k36
    have x6 : H6 x = some (.ins C dx [("names", V.ref tn), ("gifts", vg)]) := by
      rw [← hH6, upd_same]
    have dg6 := Dt.keepT k6 _ (by rw [← List.map_replicate]; exact tup_ints _) dg
    -- self.stacks
    refine ⟨by show 0 ≤ sizeLine; decide, fun t0 nt0 => ⟨by show 1 ≤ sizeLine; decide, fun t2 nt2 => ?_⟩⟩
    have s7 := (same_upd (o := .tup []) nt0).trans (same_upd (o := .tup [V.ref t0]) nt2)
    refine ⟨.ref a, rfl, a, _, rfl, .inl (.inl (.inl (s7 _ _ (b6 _ _ nxa ha)))), .tuple [], zs.length, .tup (.inl (.inl upd_same)) (.cons (.tup (.inl (.inl (same_upd nt2 _ _ upd_same))) .nil) .nil), by rw [el], l0, by omega, fun vs H8 s8 ds => ?_⟩
    have s68 := s7.trans s8
    refine ⟨.ref x, rfl, x, C, dx, _, rfl, s68 _ _ x6, T.cl, T.n3, by show 2 < 1000; decide, ?_⟩
    rw [put3]
    have k9 : KT H8 (upd H8 x (.ins C dx [("names", V.ref tn), ("gifts", vg), ("stacks", vs)])) := kt_upd (s68 _ _ x6) (fun z => z)
    have b9 : But x H (upd H8 x (.ins C dx [("names", V.ref tn), ("gifts", vg), ("stacks", vs)])) := b6.trans ((same_but s68).trans But.at)
    have k69 : KT H6 (upd H8 x (.ins C dx [("names", V.ref tn), ("gifts", vg), ("stacks", vs)])) := (kt_same s68).trans k9
    generalize hH9 : upd H8 x (.ins C dx [("names", V.ref tn), ("gifts", vg), ("stacks", vs)]) = H9 at k9 b9 k69
    have x9 : H9 x = some (.ins C dx [("names", V.ref tn), ("gifts", vg), ("stacks", vs)]) := by
      rw [← hH9, upd_same]
    have ts : tupD (.tuple (List.replicate zs.length (.tuple []))) = true := by
      have := tup_stacks (List.replicate zs.length [])
      rw [List.map_replicate] at this
      exact this
    have ds9 := Dt.keepT k9 _ ts ds
    -- self.drops
    refine ⟨by show 1 ≤ sizeLine; decide, fun t3' nt3 => ?_⟩
    have s10 := same_upd (o := .tup [V.int 0]) nt3
    refine ⟨.ref a, rfl, a, _, rfl, .inl (.inl (.inl (s10 _ _ (b9 _ _ nxa ha)))), .int 0, zs.length, .tup (.inl (.inl upd_same)) (.cons (.int 0) .nil), by rw [el], l0, by omega, fun vd H11 s11 dd => ?_⟩
    have s911 := s10.trans s11
    refine ⟨.ref x, rfl, x, C, dx, _, rfl, s911 _ _ x9, T.cl, T.n4, by show 3 < 1000; decide, ?_⟩
    rw [put4]
    have k12 : KT H11 (upd H11 x (.ins C dx (bf (.ref tn) vg vs vd))) := kt_upd (s911 _ _ x9) (fun z => z)
    have k912 : KT H9 (upd H11 x (.ins C dx (bf (.ref tn) vg vs vd))) := (kt_same s911).trans k12
    refine q _ (b9.trans ((same_but s911).trans But.at)) ⟨dx, tn, on, vg, vs, vd, upd_same, (k36.trans (k69.trans k912)) _ _ t3 trivial, don, ?_, ?_, ?_⟩
    · show Dt K _ vg (.tuple ((List.replicate zs.length (0 : Int)).map .int))
      rw [List.map_replicate]
      exact Dt.keepT (k69.trans k912) _ (by rw [← List.map_replicate]; exact tup_ints _) dg6
    · show Dt K _ vs (.tuple ((List.replicate zs.length []).map stackD))
      rw [List.map_replicate]
      exact Dt.keepT k912 _ ts ds9
    · show Dt K _ vd (.tuple ((List.replicate zs.length (0 : Int)).map .int))
      rw [List.map_replicate]
      exact Dt.keepT k12 _ (by rw [← List.map_replicate]; exact tup_ints _) dd
end
end Rc

namespace Rc
open PySem PySem.Spec PyProof.Rows L2
theorem book_same {K : PySem.W.Frag} {C : Addr} {H H' : Hp} {b : Addr} {M : Bk} (h : BookAt K C H b M) (s : Same H H') : BookAt K C H' b M := h.keep fun b o e _ => s b o e
theorem NoF.mk' {m : Str} (h : ((m == "names") || (m == "gifts") || (m == "stacks") || (m == "drops")) = false) : NoF m := by
  simp only [Bool.or_eq_false_iff] at h
  exact ⟨h.1.1.1, h.1.1.2, h.1.2, h.2⟩
section
variable {P : Program} {w : World} {K : PySem.W.Frag} {mg : Str → Option Value} {base : Heap}
/-! ### with_these -/
abbrev sWith : Stmt := inBook 1
theorem scWith : FnScope ["self", "gifts", "stacks", "drops", "other"] ["self", "gifts", "stacks", "drops"] (defScope sWith) := ⟨rfl, rfl, rfl, by decide +kernel, rfl, by decide +kernel, by decide +kernel⟩
def spWith (K : PySem.W.Frag) (C : Addr) : Sp := fun vs H Q _ => ∃ b M vg vs' vd gs ss ds, vs = [.ref b, vg, vs', vd] ∧ BookAt K C H b M ∧ NamesOk M.names ∧ Dt K H vg (.tuple (List.map PyData.int gs)) ∧ Dt K H vs' (.tuple (List.map stackD ss)) ∧ Dt K H vd (.tuple (List.map PyData.int ds)) ∧
  ∀ b' H', Same H H' → H b' = none → BookAt K C H' b' ⟨M.names, gs, ss, ds⟩ → Q (.ref b') H'
theorem ok_with {f fi C : Addr} {fd fdi : FuncData} (F : Fun K "with_these" "Book.with_these" sWith f fd) (T : ClsF K C) (B3 : Blt3 mg) (M : Mk K C fi) (gC : mg "Book" = some (.ref C))
    (GI : FnOk P w K mg base CX0 3 fi fdi ["self", "persons"] (spInit K C)) (bI : Binds K fdi ["self", "persons"] []) : FnOk P w K mg base CX0 5 f fd ["self", "gifts", "stacks", "drops"] (spWith K C) := by
  refine F.ok scWith (fun vs H Q E h => ?_) (fun cdv A outer s H vs Q E hr h => ?_)
  · obtain ⟨_, _, _, _, _, _, _, _, rfl, _⟩ := h
    rfl
  · obtain ⟨b, Mb, vg, vs', vd, gs, ss, ds, rfl, hb, ok, hg, hs, hd, q⟩ := h
    refine ⟨_, pss_cons (ps_set (i := 4) scWith.nd rfl (.inl rfl) (pe_make M GI hr (by rfl) gC bI .nil pass0 (pa_cons (pe_callTy call_list_of (by rfl) B3.list (by decide +kernel) (pa_cons (pe_fld (pv 0) rfl) pa_nil)) pa_nil)))
      (pss_cons (ps_fld (pv 4) (pv 1) rfl) (pss_cons (ps_fld (pv 4) (pv 2) rfl) (pss_cons (ps_fld (pv 4) (pv 3) rfl) (pss_one (ps_ret (pv 4)))))), ?_⟩
    obtain ⟨dx, tn, on, wg, ws, wd, e, h1, hn, h2, h3, h4⟩ := hb.ex
    refine ⟨.ref b, rfl, b, C, dx, _, _, rfl, e, T.cl, T.n1, bf_names, tn, _, rfl, .inr (.inl (.inr ⟨on, h1⟩)), fun l nl => ?_⟩
    intro x dy nx ndy nxy
    have s1 := same_upd (o := .lst (Mb.names.map V.str)) nl
    generalize hH1 : upd H l (.lst (Mb.names.map V.str)) = H1 at s1 nx ndy
    have hl : H1 l = some (.lst (Mb.names.map V.str)) := by
      rw [← hH1, upd_same]
    have nlx : l ≠ x := ne_of_none hl nx
    have nld : l ≠ dy := ne_of_none hl ndy
    have s2 : Same H1 (upd (upd H1 dy (.own x)) x (.ins C dy [])) := fun c o e => by
      rw [upd_ne (ne_of_none e nx), upd_ne (ne_of_none e ndy)]
      exact e
    refine ⟨x, dy, l, Mb.names, rfl, upd_same, s2 _ _ hl, ok, fun H2 b2 bk => ⟨rfl, ?_⟩⟩
    have nxH : H x = none := s1.free nx
    have s02 : Same H H2 := fun c o e => b2 c o (ne_of_none e nxH) (s2 c o (s1 c o e))
    obtain ⟨dx2, tn2, on2, ug, us, ud, e2, k1, kn, k2, k3, k4⟩ := bk.ex
    -- other.gifts = gifts; other.stacks = stacks; other.drops = drops
    refine ⟨vg, rfl, .ref x, rfl, x, C, dx2, _, rfl, e2, T.cl, T.n2, bf_len _ _ _ _, ?_⟩
    rw [putG]
    refine ⟨vs', rfl, .ref x, rfl, x, C, dx2, _, rfl, upd_same, T.cl, T.n3, bf_len _ _ _ _, ?_⟩
    rw [putS]
    refine ⟨vd, rfl, .ref x, rfl, x, C, dx2, _, rfl, upd_same, T.cl, T.n4, bf_len _ _ _ _, ?_⟩
    rw [putD, upd_upd, upd_upd]
    have kt : KT H2 (upd H2 x (.ins C dx2 (bf (.ref tn2) vg vs' vd))) := kt_upd e2 fun z => z
    have s03 : Same H (upd H2 x (.ins C dx2 (bf (.ref tn2) vg vs' vd))) := fun c o e => by
      rw [upd_ne (ne_of_none e nxH)]
      exact s02 c o e
    exact ⟨.ref x, rfl, q x _ s03 nxH ⟨dx2, tn2, on2, vg, vs', vd, upd_same, kt _ _ k1 trivial, kn, Dt.same s03 _ hg, Dt.same s03 _ hs, Dt.same s03 _ hd⟩⟩
/-! ### has, place_of, persons -/
abbrev sHas : Stmt := inBook 4
theorem scHas : FnScope ["self", "who"] ["self", "who"] (defScope sHas) := ⟨rfl, rfl, rfl, by decide +kernel, rfl, by decide +kernel, by decide +kernel⟩
def hasD (M : Bk) : PyData → Bool
  | .str z => decide (z ∈ M.names)
  | _ => false
def spHas (K : PySem.W.Frag) (C : Addr) : Sp := fun vs H Q _ => ∃ b M v d, vs = [.ref b, v] ∧ BookAt K C H b M ∧ NamesOk M.names ∧ Dt K H v d ∧ ShortD d ∧ ∀ H', Same H H' → Q (.bl (hasD M d)) H'
theorem ok_has {f fN C : Addr} {fd fdN : FuncData} (F : Fun K "has" "Book.has" sHas f fd) (T : ClsF K C) (N : Has P w K mg base 1 "is_name" ["thing"] (spBool K nameD) fN fdN) :
    FnOk P w K mg base CX0 2 f fd ["self", "who"] (spHas K C) := by
  refine F.ok scHas (fun vs H Q E h => ?_) (fun cdv A outer s H vs Q E hr h => ?_)
  · obtain ⟨_, _, _, _, rfl, _⟩ := h
    rfl
  · obtain ⟨b, M, v, d, rfl, hb, ok, hd, sd, q⟩ := h
    refine ⟨_, pss_one (ps_ret (pe_and (pe_call N.ok hr (by rfl) N.g N.kp N.b .nil pass0 (pa_cons (pv 1) pa_nil)) (pe_one (pe_cmpR op_in_seq (pv 1) (pe_fld (pv 0) rfl) (by rfl))))), ?_⟩
    refine ⟨v, rfl, v, d, rfl, hd, sd, fun H1 s1 => ⟨_, rfl, ?_⟩⟩
    obtain ⟨dx, tn, on, wg, ws, wd, e, h1, hn, h2, h3, h4⟩ := (book_same hb s1).ex
    have q1 := q H1 s1
    cases hd with
    | str z =>
      by_cases hm : z ∈ M.names
      · have en : nameD (.str z) = true := ok.nm z hm
        rw [en]
        refine iteT ⟨.str z, rfl, .ref b, rfl, b, C, dx, _, _, rfl, e, T.cl, T.n1, bf_names, tn, _, rfl, .inr (.inl (.inr ⟨on, h1⟩)), rfl, flat_strs _, ?_⟩
        show Q (.bl (inV (.str z) (M.names.map V.str))) H1
        rw [inV_strs]
        exact q1
      · have eh : hasD M (.str z) = false := decide_eq_false hm
        rw [eh] at q1
        cases en : nameD (.str z) with
        | false => exact iteF q1
        | true =>
          refine iteT ⟨.str z, rfl, .ref b, rfl, b, C, dx, _, _, rfl, e, T.cl, T.n1, bf_names, tn, _, rfl, .inr (.inl (.inr ⟨on, h1⟩)), rfl, flat_strs _, ?_⟩
          show Q (.bl (inV (.str z) (M.names.map V.str))) H1
          rw [inV_strs, decide_eq_false hm]
          exact q1
    | _ => exact iteF q1
abbrev sPlace : Stmt := inBook 2
theorem scPlace : FnScope ["self", "who"] ["self", "who"] (defScope sPlace) := ⟨rfl, rfl, rfl, by decide +kernel, rfl, by decide +kernel, by decide +kernel⟩
/-- the j-th person is called z -/
def spPlace (K : PySem.W.Frag) (C : Addr) : Sp := fun vs H Q _ => ∃ (b : Addr) (M : Bk) (z : Str) (j : Nat), vs = [.ref b, .str z] ∧ BookAt K C H b M ∧ NamesOk M.names ∧ M.names[j]? = some z ∧ ∀ H', Same H H' → Q (.int (j : Nat)) H'
theorem name_at {zs : List Str} (ok : NamesOk zs) {j : Nat} {z : Str} (e : zs[j]? = some z) : z ∈ zs ∧ (∀ m, m < j → zs[m]? ≠ some z) ∧ z.length ≤ 1000 := by
  have hm := List.mem_of_getElem? e
  refine ⟨hm, fun m hm' e' => ?_, by have := (nameT_len (ok.nm z hm)).2; omega⟩
  obtain ⟨h1, e1⟩ := List.getElem?_eq_some_iff.mp e
  obtain ⟨h2, e2⟩ := List.getElem?_eq_some_iff.mp e'
  have := (List.getElem_inj ok.nd).mp (e1.trans e2.symm)
  omega
theorem ok_place {f fh C : Addr} {fd fdh : FuncData} (F : Fun K "place_of" "Book.place_of" sPlace f fd) (T : ClsF K C) (HS : HasM P w K mg base C 2 "has" ["self", "who"] (spHas K C) fh fdh) :
    FnOk P w K mg base CX0 3 f fd ["self", "who"] (spPlace K C) := by
  refine F.ok scPlace (fun vs H Q E h => ?_) (fun cdv A outer s H vs Q E hr h => ?_)
  · obtain ⟨_, _, _, _, rfl, _⟩ := h
    rfl
  · obtain ⟨b, M, z, j, rfl, hb, ok, ej, q⟩ := h
    obtain ⟨hm, hf, hz⟩ := name_at ok ej
    refine ⟨_, pss_cons (ps_if (pt_not (pt_val (pe_meth (pv 0) T.cl HS.m HS.ok hr HS.b .nil pass0 (pa_cons (pv 1) pa_nil)))) pss_never pss_nil)
      (pss_one (ps_ret (pe_bmF PySem.F.slot_tuple_index PySem.F.type_tuple_index mt_tup_index (pe_fld (pv 0) rfl) (pa_cons (pv 1) pa_nil)))), ?_⟩
    obtain ⟨dx, tn, on, wg, ws, wd, e, h1, hn, h2, h3, h4⟩ := hb.ex
    refine ⟨.ref b, rfl, b, dx, _, rfl, e, bf_no (NoF.mk' (by decide +kernel)), .str z, rfl, b, M, .str z, .str z, rfl, hb, ok, .str z, (fun y ey => by cases ey; exact hz), fun H1 s1 => ⟨_, rfl, ?_⟩⟩
    have eh : hasD M (.str z) = true := decide_eq_true hm
    rw [eh]
    refine iteF ⟨.ref b, rfl, b, C, dx, _, _, rfl, s1 _ _ e, T.cl, T.n1, bf_names, tn, on, _, rfl, s1 _ _ h1, hn, .str z, rfl, tn, M.names, z, j, rfl, rfl, .inl (.inr ⟨on, s1 _ _ h1⟩), ej, hf, q H1 s1⟩
abbrev sPersons : Stmt := inBook 3
theorem scPersons : FnScope ["self"] ["self"] (defScope sPersons) := ⟨rfl, rfl, rfl, by decide +kernel, rfl, by decide +kernel, by decide +kernel⟩
def spPersons (K : PySem.W.Frag) (C : Addr) : Sp := fun vs H Q _ => ∃ b M, vs = [.ref b] ∧ BookAt K C H b M ∧ ∀ l, H l = none → Q (.ref l) (upd H l (.lst (M.names.map V.str)))
theorem ok_persons {f C : Addr} {fd : FuncData} (F : Fun K "persons" "Book.persons" sPersons f fd) (T : ClsF K C) (B3 : Blt3 mg) : FnOk P w K mg base CX0 1 f fd ["self"] (spPersons K C) := by
  refine F.ok scPersons (fun vs H Q E h => ?_) (fun cdv A outer s H vs Q E hr h => ?_)
  · obtain ⟨_, _, rfl, _⟩ := h
    rfl
  · obtain ⟨b, M, rfl, hb, q⟩ := h
    refine ⟨_, pss_one (ps_ret (pe_callTy call_list_of (by rfl) B3.list (by decide +kernel) (pa_cons (pe_fld (pv 0) rfl) pa_nil))), ?_⟩
    obtain ⟨dx, tn, on, wg, ws, wd, e, h1, hn, h2, h3, h4⟩ := hb.ex
    exact ⟨.ref b, rfl, b, C, dx, _, _, rfl, e, T.cl, T.n1, bf_names, tn, _, rfl, .inr (.inl (.inr ⟨on, h1⟩)), q⟩
/-! ### given, fallen, notes, pile -/
abbrev sGiven : Stmt := inBook 5
abbrev sFallen : Stmt := inBook 6
abbrev sNotes : Stmt := inBook 7
abbrev sPile : Stmt := inBook 8
theorem scGiven : FnScope ["self", "who"] ["self", "who"] (defScope sGiven) := ⟨rfl, rfl, rfl, by decide +kernel, rfl, by decide +kernel, by decide +kernel⟩
theorem scFallen : FnScope ["self", "who"] ["self", "who"] (defScope sFallen) := ⟨rfl, rfl, rfl, by decide +kernel, rfl, by decide +kernel, by decide +kernel⟩
theorem scNotes : FnScope ["self", "who"] ["self", "who"] (defScope sNotes) := ⟨rfl, rfl, rfl, by decide +kernel, rfl, by decide +kernel, by decide +kernel⟩
theorem scPile : FnScope ["self", "who", "gone", "left"] ["self", "who"] (defScope sPile) := ⟨rfl, rfl, rfl, by decide +kernel, rfl, by decide +kernel, by decide +kernel⟩
/-- a number of the j-th person -/
def spNum (K : PySem.W.Frag) (C : Addr) (g : Bk → List Int) : Sp := fun vs H Q _ => ∃ (b : Addr) (M : Bk) (z : Str) (j : Nat) (n : Int), vs = [.ref b, .str z] ∧ BookAt K C H b M ∧ NamesOk M.names ∧ M.names[j]? = some z ∧ (g M)[j]? = some n ∧ ∀ H', Same H H' → Q (.int n) H'
/-- a new list of notes of the j-th person -/
def spRow (K : PySem.W.Frag) (C : Addr) (g : List (Str × Int) → Int → List (Str × Int)) : Sp := fun vs H Q _ => ∃ (b : Addr) (M : Bk) (z : Str) (j : Nat) (l : List (Str × Int)) (n : Int), vs = [.ref b, .str z] ∧ BookAt K C H b M ∧ NamesOk M.names ∧ M.names[j]? = some z ∧
  M.stacks[j]? = some l ∧ M.drops[j]? = some n ∧ l.length ≤ 100 ∧ ∀ r xs H', Same H H' → H r = none → H' r = some (.lst xs) → DtAll K H' xs (notesD (g l n)) → Q (.ref r) H'
theorem map_get {α β : Type} {f : α → β} {l : List α} {j : Nat} {x : α} (h : l[j]? = some x) : (l.map f)[j]? = some (f x) := by
  rw [List.getElem?_map, h]
  rfl
theorem ok_given {f fp C : Addr} {fd fdp : FuncData} (F : Fun K "given" "Book.given" sGiven f fd) (T : ClsF K C) (PL : HasM P w K mg base C 3 "place_of" ["self", "who"] (spPlace K C) fp fdp) :
    FnOk P w K mg base CX0 4 f fd ["self", "who"] (spNum K C Bk.gifts) := by
  refine F.ok scGiven (fun vs H Q E h => ?_) (fun cdv A outer s H vs Q E hr h => ?_)
  · obtain ⟨_, _, _, _, _, rfl, _⟩ := h
    rfl
  · obtain ⟨b, M, z, j, n, rfl, hb, ok, ej, en, q⟩ := h
    refine ⟨_, pss_one (ps_ret (pe_ix ix_tupD (pe_fld (pv 0) rfl) (pe_meth (pv 0) T.cl PL.m PL.ok hr PL.b .nil pass0 (pa_cons (pv 1) pa_nil)) (fun _ _ => rfl))), ?_⟩
    obtain ⟨dx, tn, on, wg, ws, wd, e, h1, hn, h2, h3, h4⟩ := hb.ex
    refine ⟨.ref b, rfl, b, C, dx, _, _, rfl, e, T.cl, T.n2, bf_gifts, .ref b, rfl, b, dx, _, rfl, e, bf_no (NoF.mk' (by decide +kernel)), .str z, rfl, b, M, z, j, rfl, hb, ok, ej, fun H1 s1 => ?_⟩
    exact ⟨_, j, .int n, Dt.same s1 _ h2, rfl, map_get en, fun v dv => by cases dv; exact q H1 s1⟩
theorem ok_fallen {f fp C : Addr} {fd fdp : FuncData} (F : Fun K "fallen" "Book.fallen" sFallen f fd) (T : ClsF K C) (PL : HasM P w K mg base C 3 "place_of" ["self", "who"] (spPlace K C) fp fdp) :
    FnOk P w K mg base CX0 4 f fd ["self", "who"] (spNum K C Bk.drops) := by
  refine F.ok scFallen (fun vs H Q E h => ?_) (fun cdv A outer s H vs Q E hr h => ?_)
  · obtain ⟨_, _, _, _, _, rfl, _⟩ := h
    rfl
  · obtain ⟨b, M, z, j, n, rfl, hb, ok, ej, en, q⟩ := h
    refine ⟨_, pss_one (ps_ret (pe_ix ix_tupD (pe_fld (pv 0) rfl) (pe_meth (pv 0) T.cl PL.m PL.ok hr PL.b .nil pass0 (pa_cons (pv 1) pa_nil)) (fun _ _ => rfl))), ?_⟩
    obtain ⟨dx, tn, on, wg, ws, wd, e, h1, hn, h2, h3, h4⟩ := hb.ex
    refine ⟨.ref b, rfl, b, C, dx, _, _, rfl, e, T.cl, T.n4, bf_drops, .ref b, rfl, b, dx, _, rfl, e, bf_no (NoF.mk' (by decide +kernel)), .str z, rfl, b, M, z, j, rfl, hb, ok, ej, fun H1 s1 => ?_⟩
    exact ⟨_, j, .int n, Dt.same s1 _ h4, rfl, map_get en, fun v dv => by cases dv; exact q H1 s1⟩
theorem ok_notes {f fp C : Addr} {fd fdp : FuncData} (F : Fun K "notes" "Book.notes" sNotes f fd) (T : ClsF K C) (B3 : Blt3 mg) (PL : HasM P w K mg base C 3 "place_of" ["self", "who"] (spPlace K C) fp fdp) :
    FnOk P w K mg base CX0 4 f fd ["self", "who"] (spRow K C fun l _ => l) := by
  refine F.ok scNotes (fun vs H Q E h => ?_) (fun cdv A outer s H vs Q E hr h => ?_)
  · obtain ⟨_, _, _, _, _, _, rfl, _⟩ := h
    rfl
  · obtain ⟨b, M, z, j, l, n, rfl, hb, ok, ej, el, en, hl, q⟩ := h
    refine ⟨_, pss_one (ps_ret (pe_callTy call_listD (by rfl) B3.list (by decide +kernel) (pa_cons (pe_ix ix_tupD (pe_fld (pv 0) rfl) (pe_meth (pv 0) T.cl PL.m PL.ok hr PL.b .nil pass0 (pa_cons (pv 1) pa_nil)) (fun _ _ => rfl)) pa_nil))), ?_⟩
    obtain ⟨dx, tn, on, wg, ws, wd, e, h1, hn, h2, h3, h4⟩ := hb.ex
    refine ⟨.ref b, rfl, b, C, dx, _, _, rfl, e, T.cl, T.n3, bf_stacks, .ref b, rfl, b, dx, _, rfl, e, bf_no (NoF.mk' (by decide +kernel)), .str z, rfl, b, M, z, j, rfl, hb, ok, ej, fun H1 s1 => ?_⟩
    refine ⟨_, j, stackD l, Dt.same s1 _ h3, rfl, map_get el, fun v dv => ⟨v, _, rfl, .inl dv, fun r xs nr dx => ?_⟩⟩
    exact q r xs _ (s1.trans (same_upd nr)) (s1.free nr) upd_same (DtAll.same (same_upd nr) _ dx)
theorem ok_pile {f fs fn ff C : Addr} {fd fds fdn fdf : FuncData} (F : Fun K "pile" "Book.pile" sPile f fd) (T : ClsF K C) (SP : Has P w K mg base 1 "split_notes" ["notes", "fallen"] (spSplit K) fs fds)
    (NT : HasM P w K mg base C 4 "notes" ["self", "who"] (spRow K C fun l _ => l) fn fdn) (FL : HasM P w K mg base C 4 "fallen" ["self", "who"] (spNum K C Bk.drops) ff fdf) :
    FnOk P w K mg base CX0 5 f fd ["self", "who"] (spRow K C leftN) := by
  refine F.ok scPile (fun vs H Q E h => ?_) (fun cdv A outer s H vs Q E hr h => ?_)
  · obtain ⟨_, _, _, _, _, _, rfl, _⟩ := h
    rfl
  · obtain ⟨b, M, z, j, l, n, rfl, hb, ok, ej, el, en, hl, q⟩ := h
    refine ⟨_, pss_cons (ps_asg (pe_call SP.ok (hr.mono (by decide)) (by rfl) SP.g SP.kp SP.b .nil pass0 (pa_cons (pe_meth (pv 0) T.cl NT.m NT.ok hr NT.b .nil pass0 (pa_cons (pv 1) pa_nil))
        (pa_cons (pe_meth (pv 0) T.cl FL.m FL.ok hr FL.b .nil pass0 (pa_cons (pv 1) pa_nil)) pa_nil)))
        (pg_tup rfl (pgs_cons (pg_name (i := 2) scPile.nd rfl (.inl rfl)) (pgs_cons (pg_name (i := 3) scPile.nd rfl (.inl rfl)) pgs_nil))))
      (pss_one (ps_ret (pv 3))), ?_⟩
    obtain ⟨dx, tn, on, wg, ws, wd, e, h1, hn, h2, h3, h4⟩ := hb.ex
    refine ⟨.ref b, rfl, b, dx, _, rfl, e, bf_no (NoF.mk' (by decide +kernel)), .str z, rfl, b, M, z, j, l, n, rfl, hb, ok, ej, el, en, hl, fun r xs H1 s1 nr hr' dr => ?_⟩
    refine ⟨.ref b, rfl, b, dx, _, rfl, s1 _ _ e, bf_no (NoF.mk' (by decide +kernel)), .str z, rfl, b, M, z, j, n, rfl, book_same hb s1, ok, ej, en, fun H2 s2 => ?_⟩
    refine ⟨r, xs, true, l, n, rfl, .inl (.inl (s2 _ _ hr')), DtAll.same s2 _ dr, hl, fun t g m gx mx H3 s3 ht ng nm gm hg hm dg dm => ?_⟩
    refine ⟨t, _, rfl, .inl (.inl ht), rfl, _, _, rfl, _, _, rfl, rfl, .ref m, rfl, ?_⟩
    exact q m mx H3 (s1.trans (s2.trans s3)) ((s1.trans s2).free nm) hm dm
end
end Rc

namespace Rc
open PySem PySem.Spec PyProof.Rows L2 RZ
theorem walk_zipT {K : PySem.W.Frag} {a b : Addr} {xs ys : List V} {n : Nat} (hn : n = min xs.length ys.length) : Walk (ItzT K a b) n (fun H => SqT K H a xs ∧ SqT K H b ys) (YPair (fun i => xs[i]?) (fun i => ys[i]?)) := by
  subst hn
  refine ⟨fun i _ hi q => ?_, fun _ q => ⟨xs, ys, q.1, q.2, by omega⟩, fun i H v H' _ q y => ?_⟩
  · have h1 : i < xs.length := by omega
    have h2 : i < ys.length := by omega
    exact ⟨xs, ys, xs[i], ys[i], q.1, q.2, by simp [h1], by simp [h2]⟩
  · obtain ⟨T, x, z, g1, g2, g3, g4, g5⟩ := y
    exact ⟨T, x, z, g1, g2, g3, g4 xs q.1, g5 ys q.2⟩
def sumTo (z : Str) (l : List (Str × Int)) : Int := ((l.filter fun n => decide (n.1 = z)).map (·.2)).sum
def fallTo (M : Bk) (z : Str) : Int := ((M.stacks.zip M.drops).map fun p => sumTo z (goneN p.1 p.2)).sum
theorem len_le_sum : ∀ {l : List (List (Str × Int))} {x : List (Str × Int)}, x ∈ l → x.length ≤ (l.map List.length).sum
  | [], _, h => by cases h
  | y :: r, x, h => by
    rw [List.map_cons, List.sum_cons]
    rcases List.mem_cons.mp h with e | e
    · rw [e]
      exact Nat.le_add_right _ _
    · have := len_le_sum e
      omega
theorem Bk.Ok.row {M : Bk} (h : M.Ok) {l : List (Str × Int)} (hm : l ∈ M.stacks) : l.length ≤ 60 := Nat.le_trans (len_le_sum hm) h.many
theorem Bk.Ok.at_ {M : Bk} (h : M.Ok) {j : Nat} {z : Str} (e : M.names[j]? = some z) : ∃ g l d, M.gifts[j]? = some g ∧ M.stacks[j]? = some l ∧ M.drops[j]? = some d ∧ l.length ≤ 60 := by
  have hj : j < M.names.length := (List.getElem?_eq_some_iff.mp e).1
  have h1 : j < M.gifts.length := by rw [h.lg]; exact hj
  have h2 : j < M.stacks.length := by rw [h.ls]; exact hj
  have h3 : j < M.drops.length := by rw [h.ld]; exact hj
  exact ⟨_, _, _, List.getElem?_eq_getElem h1, List.getElem?_eq_getElem h2, List.getElem?_eq_getElem h3, h.row (List.getElem_mem h2)⟩
section
variable {P : Program} {w : World} {K : PySem.W.Frag} {mg : Str → Option Value} {base : Heap}
/-! ### fallen_to -/
abbrev sFallTo : Stmt := inBook 10
abbrev nFallTo : List Str := ["self", "who", "name", "total", "stack", "drop", "gone", "left", "to", "part"]
theorem scFallTo : FnScope nFallTo ["self", "who"] (defScope sFallTo) := ⟨rfl, rfl, rfl, by decide +kernel, rfl, by decide +kernel, by decide +kernel⟩
def spCalc (K : PySem.W.Frag) (C : Addr) (g : Bk → Nat → Str → Int) : Sp := fun vs H Q _ => ∃ (b : Addr) (M : Bk) (z : Str) (j : Nat), vs = [.ref b, .str z] ∧ BookAt K C H b M ∧ M.Ok ∧ M.names[j]? = some z ∧ ∀ H', Same H H' → Q (.int (g M j z)) H'
theorem ok_fallTo {f fp fs C : Addr} {fd fdp fds : FuncData} (F : Fun K "fallen_to" "Book.fallen_to" sFallTo f fd) (T : ClsF K C) (B3 : Blt3 mg) (PL : HasM P w K mg base C 3 "place_of" ["self", "who"] (spPlace K C) fp fdp)
    (SP : Has P w K mg base 1 "split_notes" ["notes", "fallen"] (spSplit K) fs fds) : FnOk P w K mg base CX0 4 f fd ["self", "who"] (spCalc K C fun M _ z => fallTo M z) := by
  refine F.ok scFallTo (fun vs H Q E h => ?_) (fun cdv A outer s H vs Q E hr h => ?_)
  · obtain ⟨_, _, _, _, rfl, _⟩ := h
    rfl
  · obtain ⟨b, M, z, j, rfl, hb, ok, ej, q⟩ := h
    refine ⟨_, pss_cons (ps_set (i := 2) scFallTo.nd rfl (.inr rfl) (pe_ix ix_tup (pe_fld (pv 0) rfl) (pe_meth (pv 0) T.cl PL.m PL.ok hr PL.b .nil pass0 (pa_cons (pv 1) pa_nil)) (fun _ _ => rfl)))
      (pss_cons (ps_set (i := 3) scFallTo.nd rfl (.inl rfl) pe_int)
      (pss_cons (ps_for PassesOwn.never rfl (pi_zipA (by rfl) B3.zip (pa_cons (pe_fld (pv 0) rfl) (pa_cons (pe_fld (pv 0) rfl) pa_nil))) (pg_tup rfl (pgs_cons (pg_name (i := 4) scFallTo.nd rfl (.inl rfl)) (pgs_cons (pg_name (i := 5) scFallTo.nd rfl (.inl rfl)) pgs_nil)))
        (pss_cons (ps_asg (pe_call SP.ok (hr.mono (by decide)) (by rfl) SP.g SP.kp SP.b .nil pass0 (pa_cons (pv 4) (pa_cons (pv 5) pa_nil))) (pg_tup rfl (pgs_cons (pg_name (i := 6) scFallTo.nd rfl (.inl rfl)) (pgs_cons (pg_name (i := 7) scFallTo.nd rfl (.inl rfl)) pgs_nil))))
        (pss_one (ps_aug (i := 3) scFallTo.nd rfl (.inl rfl) (pe_callB (cr_sum rfl) (by rfl) B3.sum (by decide +kernel) (pa_cons
          (pe_lc (own := [("to", 8), ("part", 9)]) (g := gTup K 2 (gCons (gName 8) (gCons (gName 9) gNil))) rfl scFallTo.nd (pi_list (pv 6)) (blkOk_by (N := nFallTo) (sc := defScope sFallTo) (own := [("to", 8), ("part", 9)]) (by decide +kernel))
            (fun _ _ _ _ _ => pg_tup rfl (pgs_cons (pg_name (i := 8) scFallTo.nd rfl (.inl rfl) (hf := .inr rfl)) (pgs_cons (pg_name (i := 9) scFallTo.nd rfl (.inl rfl) (hf := .inr rfl)) pgs_nil)))
            (fun _ _ _ _ _ => pts_one (pt_cmpR op_eq (pv 8) (pv 2) (nomark _))) (fun _ _ _ _ _ => pv 9)) pa_nil)) ip_add))))
      (pss_one (ps_ret (pv 3))))), ?_⟩
    obtain ⟨dx, tn, on, wg, ws, wd, e, h1, hn, h2, h3, h4⟩ := hb.ex
    refine ⟨.ref b, rfl, b, C, dx, _, _, rfl, e, T.cl, T.n1, bf_names, .ref b, rfl, b, dx, _, rfl, e, bf_no (NoF.mk' (by decide +kernel)), .str z, rfl, b, M, z, j, rfl, hb, ok.names, ej, fun H1 s1 => ?_⟩
    refine ⟨tn, _, _, .str z, rfl, rfl, .inl (.inr ⟨on, s1 _ _ h1⟩), atI_nat (map_get ej), ?_⟩
    have h3' := Dt.same s1 _ h3
    have h4' := Dt.same s1 _ h4
    obtain ⟨ta, xs, rfl, qa, da⟩ := h3'.tup_inv
    obtain ⟨tb, ys, rfl, qb, db⟩ := h4'.tup_inv
    have ey := db.ints_eq
    subst ey
    refine ⟨.ref b, rfl, b, C, dx, _, _, rfl, s1 _ _ e, T.cl, T.n3, bf_stacks, .ref b, rfl, b, C, dx, _, _, rfl, s1 _ _ e, T.cl, T.n4, bf_drops, ta, tb, xs, _, rfl, .inr ⟨qa, qb, ?_⟩⟩
    have lx : xs.length = M.names.length := by
      rw [da.len, List.length_map, ok.ls]
    have ly : (M.drops.map V.int).length = M.names.length := by
      rw [List.length_map, ok.ld]
    refine for_it (walk_zipT (xs := xs) (ys := M.drops.map V.int) (n := M.names.length) (by rw [lx, ly, Nat.min_self])) (fun i σ H' => ∃ y4 y5 y6 y7 y8 y9, σ = [some (.ref b), some (.str z), some (.str z), some (.int (((M.stacks.zip M.drops).take i).map fun p => sumTo z (goneN p.1 p.2)).sum), y4, y5, y6, y7, y8, y9] ∧ Same H1 H')
      ⟨_, _, _, _, _, _, rfl, Same.refl _⟩ (fun i σ H' _ hP => ?_) (fun i x σ H2' H2 hi hP hY => ?_) (fun σ H' hP => ?_)
    · obtain ⟨_, _, _, _, _, _, _, s2⟩ := hP
      exact ⟨same_seqT s2 qa, same_seqT s2 qb⟩
    · obtain ⟨y4, y5, y6, y7, y8, y9, rfl, s2⟩ := hP
      obtain ⟨Tt, x1, x2, rfl, nT, rfl, e1, e2⟩ := hY
      have e1' : xs[i]? = some x1 := e1
      have e2' : (M.drops.map V.int)[i]? = some x2 := e2
      have hs : i < M.stacks.length := by rw [ok.ls]; exact hi
      have hdr : i < M.drops.length := by rw [ok.ld]; exact hi
      rw [List.getElem?_map, List.getElem?_eq_getElem hdr] at e2'
      have ex2 : x2 = .int M.drops[i] := (Option.some.inj e2').symm
      subst ex2
      obtain ⟨v1, g1, d1⟩ := da.get (n := i) (d := stackD M.stacks[i]) (map_get (List.getElem?_eq_getElem hs))
      rw [e1'] at g1
      cases g1
      have s3 := s2.trans (same_upd (o := .tup [x1, V.int M.drops[i]]) nT)
      obtain ⟨sa, sx, rfl, sq, sd⟩ := (Dt.same s3 _ d1).tup_inv
      refine ⟨Tt, _, rfl, .inl (.inl upd_same), rfl, _, _, rfl, _, _, rfl, rfl, ?_⟩
      refine ⟨.ref sa, rfl, _, rfl, sa, sx, false, M.stacks[i], M.drops[i], rfl, sq, sd, by have := ok.row (List.getElem_mem hs); omega, fun t g m gx mx H4 s4 ht ng nm gm hg hm dg dm => ?_⟩
      refine ⟨t, _, rfl, .inl (.inl ht), rfl, _, _, rfl, _, _, rfl, rfl, ?_⟩
      refine ⟨_, rfl, .ref g, rfl, g, rfl, ⟨_, .inl (.inl hg)⟩, fun D nD => ?_⟩
      generalize hG : goneN M.stacks[i] M.drops[i] = G at dg
      have lg : gx.length = G.length := by
        rw [dg.len]
        unfold notesD
        rw [List.length_map]
      have lG : G.length ≤ 60 := by
        rw [← hG]
        exact Nat.le_trans (goneN_len _ _) (ok.row (List.getElem_mem hs))
      refine lc_it (walk_list (xs := gx)) (fun i' H' => Same H4 H' ∧ H' D = some (.lst (((G.take i').filter fun n => decide (n.1 = z)).map fun n => .int n.2))) ⟨same_upd nD, upd_same⟩ (fun i' H' _ hP => hP.1.seq (.inl (.inl hg)))
        (fun i' x' H5' H5 hi' hP hY => ?_) (fun H5 hP => ?_)
      · obtain ⟨rfl, hx⟩ := hY
        obtain ⟨hil, dn⟩ := (DtAll.same hP.1 _ dg).notes_get hx
        obtain ⟨na, rfl, qn⟩ := note_inv dn
        refine ⟨na, _, rfl, qn, rfl, _, _, rfl, _, _, rfl, rfl, rfl, _, rfl, _, rfl, rfl, _, rfl, ?_⟩
        have tk : G.take (i' + 1) = G.take i' ++ [G[i']] := by
          rw [List.take_add_one, List.getElem?_eq_getElem hil]
          rfl
        by_cases hz : G[i'].1 = z
        · rw [show decide (V.str G[i'].1 = V.str z) = true from decide_eq_true (by rw [hz])]
          refine iteT ⟨_, rfl, _, hP.2, ?_, fun c o ec => ?_, ?_⟩
          · rw [List.length_map]
            have := List.length_filter_le (fun n : Str × Int => decide (n.1 = z)) (G.take i')
            rw [List.length_take] at this
            exact small1000 (by omega)
          · rw [upd_ne (ne_of_none ec nD)]
            exact hP.1 c o ec
          · rw [upd_same, tk, List.filter_append, List.map_append]
            simp [hz]
        · rw [show decide (V.str G[i'].1 = V.str z) = false from decide_eq_false (fun c => hz (V.str.inj c))]
          refine iteF ⟨hP.1, ?_⟩
          rw [hP.2, tk, List.filter_append]
          simp [hz]
      · refine ⟨D, (G.filter fun n => decide (n.1 = z)).map (·.2), rfl, .inl (.inl ?_), _, _, rfl, rfl, ?_⟩
        · rw [hP.2, lg, List.take_length, List.map_map]
          rfl
        refine ⟨some (.ref sa), some (.int M.drops[i]), some (.ref g), some (.ref m), y8, y9, ?_, s3.trans (s4.trans hP.1)⟩
        have tk : (M.stacks.zip M.drops).take (i + 1) = (M.stacks.zip M.drops).take i ++ [(M.stacks[i], M.drops[i])] := by
          rw [List.take_add_one, List.getElem?_zip_eq_some (z := (M.stacks[i], M.drops[i])) |>.mpr ⟨List.getElem?_eq_getElem hs, List.getElem?_eq_getElem hdr⟩]
          rfl
        rw [tk, List.map_append, List.sum_append]
        simp only [List.map_cons, List.map_nil, List.sum_cons, List.sum_nil, Int.add_zero]
        rw [hG]
        rfl
    · obtain ⟨y4, y5, y6, y7, y8, y9, rfl, s2⟩ := hP
      refine ⟨_, rfl, ?_⟩
      rw [List.take_of_length_le (by rw [List.length_zip, ok.ls, ok.ld, Nat.min_self]; exact Nat.le_refl _)]
      exact q _ (s1.trans s2)
end
end Rc

namespace Rc
open PySem PySem.Spec PyProof.Rows L2 RZ
def cashM (M : Bk) (j : Nat) (z : Str) : Int := M.gifts.getD j 0 + fallTo M z - M.drops.getD j 0
def putM (M : Bk) (j : Nat) (y : Str) (n : Int) : Bk := { M with stacks := M.stacks.set j (M.stacks.getD j [] ++ [(y, n)]) }
def giveM (M : Bk) (j : Nat) (n : Int) : Bk := { M with gifts := M.gifts.set j (M.gifts.getD j 0 + n) }
theorem getD_of {α : Type} {l : List α} {j : Nat} {x d : α} (h : l[j]? = some x) : l.getD j d = x := by
  rw [List.getD_eq_getElem?_getD, h]
  rfl
def rLenS (K : PySem.W.Frag) : List V → Hp → VK → Prop := fun xs H Q => ∃ p ys, xs = [V.ref p] ∧ (SqL K H p ys ∨ SqT K H p ys) ∧ Q (V.int ys.length) H
theorem call_lenS {X : Cx} {K : PySem.W.Frag} (e : X.K = K) : CallR X (.builtin "len") (rLenS K) := by
  subst e
  exact call_len_seq
def manyM (M : Bk) : Nat := (M.stacks.map List.length).sum
section
variable {P : Program} {w : World} {K : PySem.W.Frag} {mg : Str → Option Value} {base : Heap}
/-! ### cash -/
abbrev sCash : Stmt := inBook 11
theorem scCash : FnScope ["self", "who"] ["self", "who"] (defScope sCash) := ⟨rfl, rfl, rfl, by decide +kernel, rfl, by decide +kernel, by decide +kernel⟩
theorem ok_cash {f f1 f2 f3 C : Addr} {fd fd1 fd2 fd3 : FuncData} (F : Fun K "cash" "Book.cash" sCash f fd) (T : ClsF K C) (GV : HasM P w K mg base C 4 "given" ["self", "who"] (spNum K C Bk.gifts) f1 fd1)
    (FT : HasM P w K mg base C 4 "fallen_to" ["self", "who"] (spCalc K C fun M _ z => fallTo M z) f2 fd2) (FL : HasM P w K mg base C 4 "fallen" ["self", "who"] (spNum K C Bk.drops) f3 fd3) :
    FnOk P w K mg base CX0 5 f fd ["self", "who"] (spCalc K C cashM) := by
  refine F.ok scCash (fun vs H Q E h => ?_) (fun cdv A outer s H vs Q E hr h => ?_)
  · obtain ⟨_, _, _, _, rfl, _⟩ := h
    rfl
  · obtain ⟨b, M, z, j, rfl, hb, ok, ej, q⟩ := h
    refine ⟨_, pss_one (ps_ret (pe_op op_sub (pe_op op_add (pe_meth (pv 0) T.cl GV.m GV.ok hr GV.b .nil pass0 (pa_cons (pv 1) pa_nil)) (pe_meth (pv 0) T.cl FT.m FT.ok hr FT.b .nil pass0 (pa_cons (pv 1) pa_nil))) (pe_meth (pv 0) T.cl FL.m FL.ok hr FL.b .nil pass0 (pa_cons (pv 1) pa_nil)))), ?_⟩
    obtain ⟨g, l, d, eg, el, ed, _⟩ := ok.at_ ej
    obtain ⟨dx, tn, on, wg, ws, wd, e, h1, hn, h2, h3, h4⟩ := hb.ex
    refine ⟨.ref b, rfl, b, dx, _, rfl, e, bf_no (NoF.mk' (by decide +kernel)), .str z, rfl, b, M, z, j, g, rfl, hb, ok.names, ej, eg, fun H1 s1 => ?_⟩
    refine ⟨.ref b, rfl, b, dx, _, rfl, s1 _ _ e, bf_no (NoF.mk' (by decide +kernel)), .str z, rfl, b, M, z, j, rfl, book_same hb s1, ok, ej, fun H2 s2 => ⟨_, _, rfl, rfl, ?_⟩⟩
    have s12 := s1.trans s2
    refine ⟨.ref b, rfl, b, dx, _, rfl, s12 _ _ e, bf_no (NoF.mk' (by decide +kernel)), .str z, rfl, b, M, z, j, d, rfl, book_same hb s12, ok.names, ej, ed, fun H3 s3 => ⟨_, _, rfl, rfl, ?_⟩⟩
    have ec : cashM M j z = g + fallTo M z - d := by
      unfold cashM
      rw [getD_of eg, getD_of ed]
    have qq := q _ (s12.trans s3)
    rw [ec] at qq
    exact qq
/-! ### put, give -/
abbrev sPut : Stmt := inBook 12
abbrev nPut : List Str := ["self", "who", "to", "amount", "place", "name", "stack"]
theorem scPut : FnScope nPut ["self", "who", "to", "amount"] (defScope sPut) := ⟨rfl, rfl, rfl, by decide +kernel, rfl, by decide +kernel, by decide +kernel⟩
def spPut (K : PySem.W.Frag) (C : Addr) : Sp := fun vs H Q _ => ∃ (b : Addr) (M : Bk) (z y : Str) (j k : Nat) (n : Int), vs = [.ref b, .str z, .str y, .int n] ∧ BookAt K C H b M ∧ M.Ok ∧ M.names[j]? = some z ∧ M.names[k]? = some y ∧ 1 ≤ n ∧ manyM M < 60 ∧
  ∀ b' H', Same H H' → H b' = none → BookAt K C H' b' (putM M j y n) → Q (.ref b') H'
theorem map_set {α β : Type} (f : α → β) (l : List α) (j : Nat) (x : α) : (l.map f).set j (f x) = (l.set j x).map f := by
  rw [List.map_set]
theorem ok_put {f f1 f2 f3 f4 C : Addr} {fd fd1 fd2 fd3 fd4 : FuncData} (F : Fun K "put" "Book.put" sPut f fd) (T : ClsF K C) (B : Blt mg) (B3 : Blt3 mg) (gM : ∃ t, mg "MOST" = some (.int 60 t))
    (PL : HasM P w K mg base C 3 "place_of" ["self", "who"] (spPlace K C) f1 fd1) (CA : Has P w K mg base 3 "check_amount" ["amount"] (spCheckA K) f2 fd2) (CH : Has P w K mg base 1 "with_changed" ["row", "place", "thing"] (spChg K) f3 fd3)
    (WT : HasM P w K mg base C 5 "with_these" ["self", "gifts", "stacks", "drops"] (spWith K C) f4 fd4) : FnOk P w K mg base CX0 6 f fd ["self", "who", "to", "amount"] (spPut K C) := by
  obtain ⟨tM, gM⟩ := gM
  refine F.ok scPut (fun vs H Q E h => ?_) (fun cdv A outer s H vs Q E hr h => ?_)
  · obtain ⟨_, _, _, _, _, _, _, rfl, _⟩ := h
    rfl
  · obtain ⟨b, M, z, y, j, k, n, rfl, hb, ok, ej, ek, n1, mm, q⟩ := h
    have hr3 := hr.mono (show 3 ≤ 5 by decide)
    have hr1 := hr.mono (show 1 ≤ 5 by decide)
    refine ⟨_, pss_cons (ps_set (i := 4) scPut.nd rfl (.inl rfl) (pe_meth (pv 0) T.cl PL.m PL.ok hr3 PL.b .nil pass0 (pa_cons (pv 1) pa_nil)))
      (pss_cons (ps_set (i := 5) scPut.nd rfl (.inl rfl) (pe_ix ix_tup (pe_fld (pv 0) rfl) (pe_meth (pv 0) T.cl PL.m PL.ok hr3 PL.b .nil pass0 (pa_cons (pv 2) pa_nil)) (fun _ _ => rfl)))
      (pss_cons (ps_expr (pe_call CA.ok hr3 (by rfl) CA.g CA.kp CA.b .nil pass0 (pa_cons (pv 3) pa_nil)))
      (pss_cons (ps_if (pt_cmpR op_ge (pe_callB (cr_sum rfl) (by rfl) B3.sum (by decide +kernel) (pa_cons
          (pe_lc (own := [("stack", 6)]) (g := gName 6) (tt := tYes) rfl scPut.nd (pi_tup (pe_fld (pv 0) rfl)) (blkOk_by (N := nPut) (sc := defScope sPut) (own := [("stack", 6)]) (by decide +kernel))
            (fun _ _ _ _ _ => pg_name (i := 6) scPut.nd rfl (.inl rfl) (hf := .inr rfl)) (fun _ _ _ _ _ => pts_nil)
            (fun _ _ _ _ _ => pe_callB (call_lenS (K := K) rfl) (by rfl) B.len PySem.boot_len (pa_cons (pv 6) pa_nil))) pa_nil)) (pe_glob (v := .int 60) (by rfl) gM ⟨_, rfl⟩) (nomark _)) pss_never pss_nil)
      (pss_cons (ps_set (i := 6) scPut.nd rfl (.inl rfl) (pe_op op_catD (pe_ix ix_tupD (pe_fld (pv 0) rfl) (pv 4) (fun _ _ => rfl)) (pe_tup (pa_cons (pe_tup (pa_cons (pv 5) (pa_cons (pv 3) pa_nil))) pa_nil))))
      (pss_one (ps_ret (pe_meth (pv 0) T.cl WT.m WT.ok hr WT.b .nil pass0 (pa_cons (pe_fld (pv 0) rfl) (pa_cons (pe_call CH.ok hr1 (by rfl) CH.g CH.kp CH.b .nil pass0 (pa_cons (pe_fld (pv 0) rfl) (pa_cons (pv 4) (pa_cons (pv 6) pa_nil))))
        (pa_cons (pe_fld (pv 0) rfl) pa_nil)))))))))), ?_⟩
    obtain ⟨g, l, d, eg, el, ed, ll⟩ := ok.at_ ej
    obtain ⟨dx, tn, on, wg, ws, wd, e, h1, hn, h2, h3, h4⟩ := hb.ex
    refine ⟨.ref b, rfl, b, dx, _, rfl, e, bf_no (NoF.mk' (by decide +kernel)), .str z, rfl, b, M, z, j, rfl, hb, ok.names, ej, fun H1 s1 => ?_⟩
    refine ⟨.ref b, rfl, b, C, dx, _, _, rfl, s1 _ _ e, T.cl, T.n1, bf_names, .ref b, rfl, b, dx, _, rfl, s1 _ _ e, bf_no (NoF.mk' (by decide +kernel)), .str y, rfl, b, M, y, k, rfl, book_same hb s1, ok.names, ek, fun H2 s2 => ?_⟩
    have s12 := s1.trans s2
    refine ⟨tn, _, _, .str y, rfl, rfl, .inl (.inr ⟨on, s12 _ _ h1⟩), atI_nat (map_get ek), ?_⟩
    refine ⟨.int n, rfl, n, rfl, n1, fun H3 s3 => ?_⟩
    have s13 := s12.trans s3
    obtain ⟨ta, xs, ews, qa, da⟩ := (Dt.same s13 _ h3).tup_inv
    subst ews
    refine ⟨.ref b, rfl, b, C, dx, _, _, rfl, s13 _ _ e, T.cl, T.n3, bf_stacks, ta, rfl, ⟨_, qa⟩, fun D nD => ?_⟩
    refine lc_it (walk_tup (xs := xs)) (fun i H' => Same H3 H' ∧ H' D = some (.lst ((M.stacks.take i).map fun l => .int (l.length : Nat)))) ⟨same_upd nD, upd_same⟩ (fun i H' _ hP => same_seqT hP.1 qa)
      (fun i x H4' H4 hi hP hY => ?_) (fun H4 hP => ?_)
    · obtain ⟨rfl, hx⟩ := hY
      have hs : i < M.stacks.length := by
        have := da.len
        rw [List.length_map] at this
        omega
      obtain ⟨v1, g1, d1⟩ := da.get (n := i) (d := stackD M.stacks[i]) (map_get (List.getElem?_eq_getElem hs))
      rw [hx] at g1
      cases g1
      obtain ⟨sa, sx, rfl, sq, sd⟩ := (Dt.same hP.1 _ d1).tup_inv
      have lsx : sx.length = M.stacks[i].length := by
        rw [sd.len]
        unfold notesD
        rw [List.length_map]
      refine ⟨rfl, .ref sa, rfl, sa, sx, rfl, .inr sq, _, hP.2, ?_, fun c o ec => ?_, ?_⟩
      · rw [List.length_map, List.length_take]
        have := ok.n1
        have := ok.ls
        exact small1000 (by omega)
      · rw [upd_ne (ne_of_none ec nD)]
        exact hP.1 c o ec
      · rw [upd_same, List.take_add_one, List.getElem?_eq_getElem hs, List.map_append, lsx]
        rfl
    · have lx : xs.length = M.stacks.length := by
        rw [da.len, List.length_map]
      refine ⟨D, M.stacks.map fun l => ((l.length : Nat) : Int), rfl, .inl (.inl ?_), _, _, rfl, rfl, _, rfl, ?_⟩
      · rw [hP.2, lx, List.take_length, List.map_map]
        rfl
      have esum : (M.stacks.map fun l => ((l.length : Nat) : Int)).sum = ((manyM M : Nat) : Int) := by
        unfold manyM
        generalize M.stacks = S
        induction S with
        | nil => rfl
        | cons a r ih =>
          rw [List.map_cons, List.sum_cons, ih, List.map_cons, List.sum_cons]
          omega
      rw [esum, show decide ((60 : Int) ≤ ((manyM M : Nat) : Int)) = false from decide_eq_false (by omega)]
      have s14 := s13.trans hP.1
      refine iteF ?_
      refine ⟨.ref b, rfl, b, C, dx, _, _, rfl, s14 _ _ e, T.cl, T.n3, bf_stacks, .int (j : Nat), rfl, _, j, stackD l, Dt.same s14 _ h3, rfl, map_get el, fun v dv => ?_⟩
      refine ⟨.str y, rfl, .int n, rfl, by show 2 ≤ sizeLine; decide, fun t1 nt1 => ⟨by show 1 ≤ sizeLine; decide, fun t2 nt2 => ?_⟩⟩
      have s5 := (same_upd (o := .tup [V.str y, V.int n]) nt1).trans (same_upd (o := .tup [V.ref t1]) nt2)
      refine ⟨notesD l, [noteD (y, n)], Dt.same s5 _ dv, .tup (.inl (.inl upd_same)) (.cons (.tup (.inl (.inl (same_upd nt2 _ _ upd_same))) (.cons (.str y) (.cons (.int n) .nil))) .nil), ?_, fun v6 H6 s6 d6 => ?_⟩
      · unfold notesD
        rw [List.length_map, List.length_singleton]
        omega
      have s16 := s14.trans (s5.trans s6)
      have en : notesD l ++ [noteD (y, n)] = notesD (l ++ [(y, n)]) := by
        unfold notesD
        rw [List.map_append]
        rfl
      rw [en] at d6
      -- self.with_these(self.gifts, with_changed(self.stacks, place, stack), self.drops)
      refine ⟨.ref b, rfl, b, dx, _, rfl, s16 _ _ e, bf_no (NoF.mk' (by decide +kernel)), .ref b, rfl, b, C, dx, _, _, rfl, s16 _ _ e, T.cl, T.n2, bf_gifts, .ref b, rfl, b, C, dx, _, _, rfl, s16 _ _ e, T.cl, T.n3, bf_stacks,
        .int (j : Nat), rfl, v6, rfl, _, _, j, v6, stackD (l ++ [(y, n)]), rfl, Dt.same s16 _ h3, d6, ?_, ?_, fun v7 H7 s7 d7 => ?_⟩
      · rw [List.length_map]
        exact (List.getElem?_eq_some_iff.mp el).1
      · rw [List.length_map, ok.ls]
        have := ok.n1
        omega
      have s17 := s16.trans s7
      rw [map_set] at d7
      refine ⟨.ref b, rfl, b, C, dx, _, _, rfl, s17 _ _ e, T.cl, T.n4, bf_drops, b, M, _, _, _, M.gifts, _, M.drops, rfl, book_same hb s17, ok.names, Dt.same s17 _ h2, d7, Dt.same s17 _ h4, fun b' H8 s8 nb hb' => ?_⟩
      refine q b' H8 (s17.trans s8) (s17.free nb) ?_
      have ep : putM M j y n = ⟨M.names, M.gifts, M.stacks.set j (l ++ [(y, n)]), M.drops⟩ := by
        unfold putM
        rw [getD_of el]
      rw [ep]
      exact hb'
abbrev sGive : Stmt := inBook 13
theorem scGive : FnScope ["self", "who", "amount", "place", "gift"] ["self", "who", "amount"] (defScope sGive) := ⟨rfl, rfl, rfl, by decide +kernel, rfl, by decide +kernel, by decide +kernel⟩
def spGive (K : PySem.W.Frag) (C : Addr) : Sp := fun vs H Q _ => ∃ (b : Addr) (M : Bk) (z : Str) (j : Nat) (n : Int), vs = [.ref b, .str z, .int n] ∧ BookAt K C H b M ∧ M.Ok ∧ M.names[j]? = some z ∧ 1 ≤ n ∧
  ∀ b' H', Same H H' → H b' = none → BookAt K C H' b' (giveM M j n) → Q (.ref b') H'
theorem ok_give {f f1 f2 f3 f4 C : Addr} {fd fd1 fd2 fd3 fd4 : FuncData} (F : Fun K "give" "Book.give" sGive f fd) (T : ClsF K C)
    (PL : HasM P w K mg base C 3 "place_of" ["self", "who"] (spPlace K C) f1 fd1) (CA : Has P w K mg base 3 "check_amount" ["amount"] (spCheckA K) f2 fd2) (CH : Has P w K mg base 1 "with_changed" ["row", "place", "thing"] (spChg K) f3 fd3)
    (WT : HasM P w K mg base C 5 "with_these" ["self", "gifts", "stacks", "drops"] (spWith K C) f4 fd4) : FnOk P w K mg base CX0 6 f fd ["self", "who", "amount"] (spGive K C) := by
  refine F.ok scGive (fun vs H Q E h => ?_) (fun cdv A outer s H vs Q E hr h => ?_)
  · obtain ⟨_, _, _, _, _, rfl, _⟩ := h
    rfl
  · obtain ⟨b, M, z, j, n, rfl, hb, ok, ej, n1, q⟩ := h
    have hr3 := hr.mono (show 3 ≤ 5 by decide)
    have hr1 := hr.mono (show 1 ≤ 5 by decide)
    refine ⟨_, pss_cons (ps_set (i := 3) scGive.nd rfl (.inl rfl) (pe_meth (pv 0) T.cl PL.m PL.ok hr3 PL.b .nil pass0 (pa_cons (pv 1) pa_nil)))
      (pss_cons (ps_expr (pe_call CA.ok hr3 (by rfl) CA.g CA.kp CA.b .nil pass0 (pa_cons (pv 2) pa_nil)))
      (pss_cons (ps_set (i := 4) scGive.nd rfl (.inl rfl) (pe_op op_add (pe_ix ix_tupD (pe_fld (pv 0) rfl) (pv 3) (fun _ _ => rfl)) (pv 2)))
      (pss_one (ps_ret (pe_meth (pv 0) T.cl WT.m WT.ok hr WT.b .nil pass0 (pa_cons (pe_call CH.ok hr1 (by rfl) CH.g CH.kp CH.b .nil pass0 (pa_cons (pe_fld (pv 0) rfl) (pa_cons (pv 3) (pa_cons (pv 4) pa_nil))))
        (pa_cons (pe_fld (pv 0) rfl) (pa_cons (pe_fld (pv 0) rfl) pa_nil)))))))), ?_⟩
    obtain ⟨g, l, d, eg, el, ed, ll⟩ := ok.at_ ej
    obtain ⟨dx, tn, on, wg, ws, wd, e, h1, hn, h2, h3, h4⟩ := hb.ex
    refine ⟨.ref b, rfl, b, dx, _, rfl, e, bf_no (NoF.mk' (by decide +kernel)), .str z, rfl, b, M, z, j, rfl, hb, ok.names, ej, fun H1 s1 => ?_⟩
    refine ⟨.int n, rfl, n, rfl, n1, fun H3 s3 => ?_⟩
    have s13 := s1.trans s3
    refine ⟨.ref b, rfl, b, C, dx, _, _, rfl, s13 _ _ e, T.cl, T.n2, bf_gifts, .int (j : Nat), rfl, _, j, .int g, Dt.same s13 _ h2, rfl, map_get eg, fun v dv => ?_⟩
    cases dv
    refine ⟨.int n, rfl, g, n, rfl, rfl, ?_⟩
    refine ⟨.ref b, rfl, b, dx, _, rfl, s13 _ _ e, bf_no (NoF.mk' (by decide +kernel)), .ref b, rfl, b, C, dx, _, _, rfl, s13 _ _ e, T.cl, T.n2, bf_gifts,
      .int (j : Nat), rfl, .int (g + n), rfl, _, _, j, _, .int (g + n), rfl, Dt.same s13 _ h2, .int _, ?_, ?_, fun v7 H7 s7 d7 => ?_⟩
    · rw [List.length_map]
      exact (List.getElem?_eq_some_iff.mp eg).1
    · rw [List.length_map, ok.lg]
      have := ok.n1
      omega
    have s17 := s13.trans s7
    rw [map_set] at d7
    refine ⟨.ref b, rfl, b, C, dx, _, _, rfl, s17 _ _ e, T.cl, T.n3, bf_stacks, .ref b, rfl, b, C, dx, _, _, rfl, s17 _ _ e, T.cl, T.n4, bf_drops, b, M, _, _, _, _, M.stacks, M.drops, rfl, book_same hb s17, ok.names, d7, Dt.same s17 _ h3, Dt.same s17 _ h4, fun b' H8 s8 nb hb' => ?_⟩
    refine q b' H8 (s17.trans s8) (s17.free nb) ?_
    have ep : giveM M j n = ⟨M.names, M.gifts.set j (g + n), M.stacks, M.drops⟩ := by
      unfold giveM
      rw [getD_of eg]
    rw [ep]
    exact hb'
/-! ### key -/
abbrev sKey : Stmt := inBook 16
theorem scKey : FnScope ["self"] ["self"] (defScope sKey) := ⟨rfl, rfl, rfl, by decide +kernel, rfl, by decide +kernel, by decide +kernel⟩
def keyD (M : Bk) : PyData := .tuple [.tuple (M.names.map .str), .tuple (M.gifts.map .int), .tuple (M.stacks.map stackD), .tuple (M.drops.map .int)]
def spKey (K : PySem.W.Frag) (C : Addr) : Sp := fun vs H Q _ => ∃ b M, vs = [.ref b] ∧ BookAt K C H b M ∧ ∀ v H', Same H H' → Dt K H' v (keyD M) → Q v H'
theorem ok_key {f C : Addr} {fd : FuncData} (F : Fun K "key" "Book.key" sKey f fd) (T : ClsF K C) : FnOk P w K mg base CX0 1 f fd ["self"] (spKey K C) := by
  refine F.ok scKey (fun vs H Q E h => ?_) (fun cdv A outer s H vs Q E hr h => ?_)
  · obtain ⟨_, _, rfl, _⟩ := h
    rfl
  · obtain ⟨b, M, rfl, hb, q⟩ := h
    refine ⟨_, pss_one (ps_ret (pe_tup (pa_cons (pe_fld (pv 0) rfl) (pa_cons (pe_fld (pv 0) rfl) (pa_cons (pe_fld (pv 0) rfl) (pa_cons (pe_fld (pv 0) rfl) pa_nil)))))), ?_⟩
    obtain ⟨dx, tn, on, wg, ws, wd, e, h1, hn, h2, h3, h4⟩ := hb.ex
    refine ⟨.ref b, rfl, b, C, dx, _, _, rfl, e, T.cl, T.n1, bf_names, .ref b, rfl, b, C, dx, _, _, rfl, e, T.cl, T.n2, bf_gifts, .ref b, rfl, b, C, dx, _, _, rfl, e, T.cl, T.n3, bf_stacks, .ref b, rfl, b, C, dx, _, _, rfl, e, T.cl, T.n4, bf_drops, by show 4 ≤ sizeLine; decide, fun t nt => ?_⟩
    have st := same_upd (o := .tup [V.ref tn, wg, ws, wd]) nt
    exact q _ _ st (.tup (.inl (.inl upd_same)) (.cons (.tup (.inl (.inr ⟨on, st _ _ h1⟩)) (DtAll.strs _)) (.cons (Dt.same st _ h2) (.cons (Dt.same st _ h3) (.cons (Dt.same st _ h4) .nil)))))
end
end Rc

namespace Rc
open PySem PySem.Spec PyProof.Rows L2 RZ
theorem out_it {J : It} {n : Nat} {G : Hp → Prop} {Y : Nat → Hp → V → Hp → Prop} (w : Walk J n G Y) {Body : V → Hp → (Hp → Prop) → Prop} {H0 : Hp} {Qd : Hp → Prop} (Pv : Nat → Hp → Prop) (h0 : Pv 0 H0) (hG : ∀ i H, i ≤ n → Pv i H → G H)
    (hs : ∀ i x H H', i < n → Pv i H → Y i H x H' → Body x H' (Pv (i + 1))) (hd : ∀ H, Pv n H → Qd H) :
    ∃ W : Nat → Nat → Hp → Prop, (∃ m, W 0 m H0) ∧ ∀ i m H, W i m H → (J.stop i H ∧ Qd H) ∨ (J.go i H ∧ ∃ Nx : Hp → Prop, (∀ H', Nx H' → ∃ m', m' < m ∧ W (i + 1) m' H') ∧ ∀ x H', J.yld i H x H' → Body x H' Nx) := by
  refine ⟨fun i m H => m = n - i ∧ i ≤ n ∧ Pv i H, ⟨n, by simp, Nat.zero_le _, h0⟩, ?_⟩
  rintro i m H ⟨rfl, hi, p⟩
  have g := hG i H hi p
  by_cases hlt : i < n
  · exact .inr ⟨w.goes i H hlt g, Pv (i + 1), fun H' p' => ⟨n - (i + 1), by omega, rfl, hlt, p'⟩, fun x H' y => hs i x H H' hlt p (w.yields i H x H' hlt g y)⟩
  · obtain rfl : i = n := by omega
    exact .inl ⟨w.stops H g, hd H p⟩
def leftM (M : Bk) (i : Nat) : List (Str × Int) := ((M.stacks.zip M.drops).take i).flatMap fun p => leftN p.1 p.2
theorem leftM_succ {M : Bk} {i : Nat} {l : List (Str × Int)} {d : Int} (h1 : M.stacks[i]? = some l) (h2 : M.drops[i]? = some d) : leftM M (i + 1) = leftM M i ++ leftN l d := by
  unfold leftM
  rw [List.take_add_one, List.getElem?_zip_eq_some (z := (l, d)) |>.mpr ⟨h1, h2⟩, List.flatMap_append]
  simp
theorem leftM_len (M : Bk) (ok : M.Ok) : ∀ i, (leftM M i).length ≤ ((M.stacks.take i).map List.length).sum
  | 0 => by simp [leftM]
  | i + 1 => by
    have ih := leftM_len M ok i
    by_cases h : i < M.stacks.length
    · have h2 : i < M.drops.length := by
        rw [ok.ld, ← ok.ls]
        exact h
      rw [leftM_succ (List.getElem?_eq_getElem h) (List.getElem?_eq_getElem h2), List.take_add_one, List.getElem?_eq_getElem h, List.map_append, List.sum_append, List.length_append]
      have := leftN_len M.stacks[i] M.drops[i]
      simp only [Option.toList_some, List.map_cons, List.map_nil, List.sum_cons, List.sum_nil]
      omega
    · have e1 : (M.stacks.zip M.drops).take (i + 1) = (M.stacks.zip M.drops).take i := by
        rw [List.take_of_length_le (by rw [List.length_zip]; omega), List.take_of_length_le (by rw [List.length_zip]; omega)]
      have e2 : M.stacks.take (i + 1) = M.stacks.take i := by
        rw [List.take_of_length_le (by omega), List.take_of_length_le (by omega)]
      unfold leftM at ih ⊢
      rw [e1, e2]
      exact ih
theorem sum_take_le : ∀ (l : List (List (Str × Int))) (i : Nat), ((l.take i).map List.length).sum ≤ (l.map List.length).sum
  | [], _ => by simp
  | _ :: _, 0 => by simp
  | a :: r, i + 1 => by
    have := sum_take_le r i
    simp only [List.take_succ_cons, List.map_cons, List.sum_cons]
    omega
section
variable {P : Program} {w : World} {K : PySem.W.Frag} {mg : Str → Option Value} {base : Heap}
abbrev sLefts : Stmt := inBook 17
abbrev nLefts : List Str := ["self", "who", "note"]
theorem scLefts : FnScope nLefts ["self"] (defScope sLefts) := ⟨rfl, rfl, rfl, by decide +kernel, rfl, by decide +kernel, by decide +kernel⟩
def spLefts (K : PySem.W.Frag) (C : Addr) : Sp := fun vs H Q _ => ∃ b M, vs = [.ref b] ∧ BookAt K C H b M ∧ M.Ok ∧ ∀ r xs H', Same H H' → H r = none → H' r = some (.lst xs) → xs.length = (leftM M M.names.length).length → Q (.ref r) H'
theorem ok_lefts {f fp C : Addr} {fd fdp : FuncData} (F : Fun K "notes_left" "Book.notes_left" sLefts f fd) (T : ClsF K C) (PI' : HasM P w K mg base C 5 "pile" ["self", "who"] (spRow K C leftN) fp fdp) :
    FnOk P w K mg base CX0 6 f fd ["self"] (spLefts K C) := by
  refine F.ok scLefts (fun vs H Q E h => ?_) (fun cdv A outer s H vs Q E hr h => ?_)
  · obtain ⟨_, _, rfl, _⟩ := h
    rfl
  · obtain ⟨b, M, rfl, hb, ok, q⟩ := h
    refine ⟨_, pss_one (ps_ret (pe_lc2 (own := [("who", 1), ("note", 2)]) (vs1 := [2]) (g := gName 1) (g1 := gName 2) (tt := tYes) (tt1 := tYes) (te := tVar 2) (wi1 := iList K (tMeth C "pile" (spRow K C leftN) [] E0 (tVar 0) (tCons (tVar 1) tNil))) rfl scLefts.nd (pi_tup (pe_fld (pv 0) rfl))
      (blkOk_by (N := nLefts) (sc := defScope sLefts) (own := [("who", 1), ("note", 2)]) (by decide +kernel)) (by decide) (fun _ _ _ _ _ => pg_name (i := 1) scLefts.nd rfl (.inl rfl) (hf := .inr rfl)) (fun _ _ _ _ _ => pts_nil)
      (fun _ _ _ _ _ => pi_list (pe_meth (pv 0) T.cl PI'.m PI'.ok hr PI'.b .nil pass0 (pa_cons (pv 1) pa_nil))) (fun _ _ _ _ _ => pg_name (i := 2) scLefts.nd rfl (.inl rfl) (hf := .inr rfl)) (fun _ _ _ _ _ => pts_nil) (fun _ _ _ _ _ => pv 2))), ?_⟩
    obtain ⟨dx, tn, on, wg, ws, wd, e, h1, hn, h2, h3, h4⟩ := hb.ex
    have qn : SqT K H tn (M.names.map V.str) := .inl (.inr ⟨on, h1⟩)
    refine ⟨.ref b, rfl, b, C, dx, _, _, rfl, e, T.cl, T.n1, bf_names, tn, rfl, ⟨_, qn⟩, fun D nD => ?_⟩
    have bound : ∀ i, (leftM M i).length ≤ 60 := fun i => Nat.le_trans (leftM_len M ok i) (Nat.le_trans (sum_take_le _ _) ok.many)
    refine out_it (walk_tup (K := K) (a := tn) (xs := M.names.map V.str)) (fun i H' => Same H H' ∧ ∃ acc, H' D = some (.lst acc) ∧ acc.length = (leftM M i).length) ⟨same_upd nD, [], upd_same, rfl⟩ (fun i H' _ hP => same_seqT hP.1 qn)
      (fun i x H1' H1 hi hP hY => ?_) (fun H1 hP => ?_)
    · obtain ⟨rfl, hx⟩ := hY
      rw [List.length_map] at hi
      obtain ⟨s1, acc, hD, ha⟩ := hP
      have ex : x = .str M.names[i] := by
        rw [List.getElem?_map, List.getElem?_eq_getElem hi] at hx
        exact (Option.some.inj hx).symm
      subst ex
      obtain ⟨g, l, d, eg, el, ed, ll⟩ := ok.at_ (List.getElem?_eq_getElem hi)
      refine ⟨rfl, ?_⟩
      refine ⟨.ref b, rfl, b, dx, _, rfl, s1 _ _ e, bf_no (NoF.mk' (by decide +kernel)), _, rfl, b, M, _, i, l, d, rfl, book_same hb s1, ok.names, List.getElem?_eq_getElem hi, el, ed, by omega, fun r xs H2 s2 nr hr2 dr => ?_⟩
      have lx : xs.length = (leftN l d).length := by
        rw [dr.len]
        unfold notesD
        rw [List.length_map]
      have rD : r ≠ D := (ne_of_none hD nr).symm
      refine ⟨r, rfl, ⟨_, .inl (.inl hr2)⟩, ?_⟩
      have es := leftM_succ el ed
      have b1 := bound (i + 1)
      rw [es, List.length_append] at b1
      refine out_it (walk_list (K := K) (a := r) (xs := xs)) (fun j H' => Same H H' ∧ H' r = some (.lst xs) ∧ ∃ acc', H' D = some (.lst acc') ∧ acc'.length = (leftM M i).length + j) ⟨s1.trans s2, hr2, acc, s2 _ _ hD, by omega⟩ (fun j H' _ hP => .inl (.inl hP.2.1))
        (fun j y H3' H3 hj hP hY => ?_) (fun H3 hP => ?_)
      · obtain ⟨rfl, hy⟩ := hY
        obtain ⟨s3, hr3, acc', hD3, ha3⟩ := hP
        refine ⟨rfl, y, rfl, acc', hD3, small1000 (by omega), fun c o ec => ?_, ?_, acc' ++ [y], upd_same, ?_⟩
        · rw [upd_ne (ne_of_none ec nD)]
          exact s3 c o ec
        · rw [upd_ne rD]
          exact hr3
        · rw [List.length_append, ha3]
          rfl
      · obtain ⟨s3, hr3, acc', hD3, ha3⟩ := hP
        exact ⟨s3, acc', hD3, by rw [es, List.length_append, ha3, lx]⟩
    · obtain ⟨s1, acc, hD, ha⟩ := hP
      rw [List.length_map] at ha
      exact q D acc H1 s1 nD hD ha
/-! ### len -/
abbrev sLenB : Stmt := inBook 19
theorem scLenB : FnScope ["self"] ["self"] (defScope sLenB) := ⟨rfl, rfl, rfl, by decide +kernel, rfl, by decide +kernel, by decide +kernel⟩
def lenM (M : Bk) : Nat := (leftM M M.names.length).length
def spLenB (K : PySem.W.Frag) (C : Addr) : Sp := fun vs H Q _ => ∃ b M, vs = [.ref b] ∧ BookAt K C H b M ∧ M.Ok ∧ ∀ H', Same H H' → Q (.int (lenM M : Nat)) H'
theorem ok_lenB {f fp C : Addr} {fd fdp : FuncData} (F : Fun K "__len__" "Book.__len__" sLenB f fd) (T : ClsF K C) (B : Blt mg) (LF : HasM P w K mg base C 6 "notes_left" ["self"] (spLefts K C) fp fdp) :
    FnOk P w K mg base CX0 7 f fd ["self"] (spLenB K C) := by
  refine F.ok scLenB (fun vs H Q E h => ?_) (fun cdv A outer s H vs Q E hr h => ?_)
  · obtain ⟨_, _, rfl, _⟩ := h
    rfl
  · obtain ⟨b, M, rfl, hb, ok, q⟩ := h
    refine ⟨_, pss_one (ps_ret (pe_callB call_len_seq (by rfl) B.len PySem.boot_len (pa_cons (pe_meth0 (pv 0) T.cl LF.m LF.ok hr LF.b .nil pass0) pa_nil))), ?_⟩
    obtain ⟨dx, tn, on, wg, ws, wd, e, h1, hn, h2, h3, h4⟩ := hb.ex
    refine ⟨.ref b, rfl, b, dx, _, rfl, e, bf_no (NoF.mk' (by decide +kernel)), b, M, rfl, hb, ok, fun r xs H' s' nr hr' hl => ?_⟩
    refine ⟨r, xs, rfl, .inl (.inl (.inl hr')), ?_⟩
    rw [hl]
    exact q H' s'
theorem lenM_le {M : Bk} (ok : M.Ok) : lenM M ≤ 60 := Nat.le_trans (leftM_len M ok _) (Nat.le_trans (sum_take_le _ _) ok.many)
/-- len(book) -/
def rLenB (K : PySem.W.Frag) (C : Addr) : List V → Hp → VK → Prop := fun xs H Q => ∃ b M, xs = [.ref b] ∧ BookAt K C H b M ∧ M.Ok ∧ ∀ H', Same H H' → Q (.int (lenM M : Nat)) H'
theorem call_lenB {X : Cx} {C f : Addr} {fd : FuncData} (G : FnOk X.prog X.w X.K X.mg X.base CX0 7 f fd ["self"] (spLenB X.K C)) (bd : Binds X.K fd ["self"] []) (hm : Meth X.K C "__len__" f) (hr : Room 8 X.A) : CallR X (.builtin "len") (rLenB X.K C) := by
  intro pins s σ H xs us Q I r h
  obtain ⟨b, M, rfl, hb, ok, q⟩ := h
  obtain ⟨u, rfl, ru⟩ := vals1 r
  cases ru
  obtain ⟨dx, tn, on, wg, ws, wd, e, h1, hn, h2, h3, h4⟩ := hb.ex
  obtain ⟨m, Fm⟩ := I.fr
  obtain ⟨mA, O, _⟩ := ins_get I.hok e
  obtain ⟨od, J, _⟩ := O.look
  refine PySem.W.len_K Fm I.ok.mod.kin J hm.at_ hm.fn ?_
  have e0 := I.env0
  refine wpAny_call (codeAny_mono (G.run X.A.in1 X.stack s H ⟨[.ref b], []⟩ [.ref b] [.ref b] (fun v H' => v = .int (lenM M : Nat) ∧ Q (.int (lenM M : Nat)) H') E0 hr.in1 e0.in1 (bd s [.ref b] I.kIn rfl) (.cons rfl .nil) ⟨b, M, rfl, hb, ok, fun H' s' => ⟨rfl, q H' s'⟩⟩) fun r s' hq => ?_)
  match r, hq with
  | .error e, hq => exact hq.elim
  | .ok .next, hq => exact hq.elim
  | .ok .brk, hq => exact hq.elim
  | .ok .cont, hq => exact hq.elim
  | .ok (.ret u), hq =>
    obtain ⟨v, H', I', rv, ev, q'⟩ := I.after hq
    subst ev
    obtain ⟨t, rfl⟩ := rv
    have := lenM_le ok
    exact ⟨⟨by omega, by omega⟩, ⟨.int _, H', I'.tok _, ⟨_, rfl⟩, q'⟩⟩
end
end Rc

namespace Rc
/-! ### own exceptions by super().__init__(text); self.f = f; .. -/
namespace EX
open PySem PySem.W PySem.Calls PyProof.Rows PySem.HandSPX
open L2 (defScope defBody defArgs)
abbrev supS (t : Str) (p0 p1 p2 p3 p4 p5 : Pos) : Stmt := .Expr (.Call (.Attribute (.Call (.Name "super" p0) [] [] p1) "__init__" p2) [.Constant (.str t) 0 p3] [] p4) p5
abbrev fldS (f : Str) (q1 q2 q3 q4 : Pos) : Stmt := .Assign [.Attribute (.Name "self" q1) f q2] (.Name f q3) q4
/-- an instance, its dict or none -/
abbrev exI (C t : Addr) (d : Option Addr) : Obj := { cls := .ref C, dict := d, data := .fields #[.ref t, .none, .none, .none, .bool false, .none] }
section
variable {prog : Program} {w : World} {A : Around} {E : Value → Shared → Prop} {K : Frag} {x C : Addr} {f : Str} {v : Value} {cd : ClassData} {B newId initId : String} {bmB : List Value} {s : Shared}
theorem st_new {t0 : Addr} {Q : Unit → Shared → Prop} (SF : StoreFacts B bmB "object.__setattr__" "object") (X : K.In s.heap) (hx : s.heap.get? x = some (exI C t0 none))
    (hcd : clsIn K C = some cd) (hh : cd.hasDict = true) (ov : excOver K C bmB = true) (sa : findIn K (.ref C) "__setattr__" = some (some (.builtin "object.__setattr__"))) (nf : findIn K (.ref C) f = some none)
    (hq : ∀ h' tk dx, (∀ b o, b ≠ x → s.heap.get? b = some o → h'.get? b = some o) → s.heap.objs.size ≤ dx → dx ≠ x → s.heap.objs.size ≤ h'.objs.size →
      h'.get? x = some (exI C t0 (some dx)) → h'.Ns1 dx (fun y => if y = f then some v else none) → Q () { s with heap := h', toks := tk }) :
    wpAny (model prog w) A (setAttr (.ref x) f v) Q E s := by
  obtain ⟨hp, g, d, t, os⟩ := s
  have I : InstAt hp x (exI C t0 none) C none := ⟨hx, rfl, rfl, trivial⟩
  have xs : x ≠ hp.objs.size := Nat.ne_of_lt (Heap.lt_size hx)
  have L : Looks (model prog w) hp (classData C) cd := looks_clsIn X hcd
  have tk : takerIn K C f = some none := by unfold takerIn; rw [nf]; rfl
  refine set_plain X I sa (osa_openX (s := ⟨hp, g, d, t + 1, os⟩) SF X I ov tk fun b => ?_)
  obtain ⟨c1, c2, c3, c4, c5, c6, c7, c8, c9, c10, c11⟩ := cd
  dsimp only at hh
  subst hh
  dsimp only
  unfold Builtin.ObjectAttr.storeInOwnDict Builtin.ObjectAttr.ownDictForStores
  repeat (first | with_reducible refine store_in_new ?_ ?_ | with_reducible refine wpAny_loadPart_at hx ?_ | with_reducible refine L.at ?_ | wp_step)
  · exact ⟨_, #[], _, (Heap.get?_update_ne _ _ _ _ xs.symm).trans (Heap.get?_push_at rfl rfl), rfl, fun e he => absurd he (by simp), fun _ => rfl⟩
  · intro h' tk' hn' hs
    have hx1 : (hp.push { cls := .type "dict", data := .dict #[] }).get? x = some (exI C t0 none) := Heap.get?_push_of_some _ hx
    refine hq h' tk' hp.objs.size (fun b o hb ho => ?_) (Nat.le_refl _) xs.symm ?_ ?_ hn'
    · have z1 := Heap.get?_push_of_some { cls := .type "dict", data := .dict #[] } ho
      exact (hs.2 b (Nat.ne_of_lt (Heap.lt_size ho))).trans ((Heap.get?_update_ne _ _ _ _ hb).trans z1)
    · have z := (hn'.lt : hp.objs.size < h'.objs.size)
      exact Nat.le_of_lt z
    · exact (hs.2 x xs).trans (Heap.get?_update_self _ hx1 rfl)
theorem st_old {t0 dx : Addr} {m0 : Str → Option Value} {nl : List Str} {Q : Unit → Shared → Prop} (SF : StoreFacts B bmB "object.__setattr__" "object") (X : K.In s.heap) (hx : s.heap.get? x = some (exI C t0 (some dx)))
    (hns : s.heap.Ns1 dx m0) (hw : Within m0 nl) (hz : nl.length ≤ 1000)
    (hcd : clsIn K C = some cd) (hh : cd.hasDict = true) (ov : excOver K C bmB = true) (sa : findIn K (.ref C) "__setattr__" = some (some (.builtin "object.__setattr__"))) (nf : findIn K (.ref C) f = some none)
    (hq : ∀ h' tk, (∀ b o, b ≠ dx → s.heap.get? b = some o → h'.get? b = some o) → s.heap.objs.size ≤ h'.objs.size → h'.Ns1 dx (fun y => if y = f then some v else m0 y) → Q () { s with heap := h', toks := tk }) :
    wpAny (model prog w) A (setAttr (.ref x) f v) Q E s := by
  obtain ⟨hp, g, d, t, os⟩ := s
  obtain ⟨oD, _, _, hoD, _, _⟩ := hns.count hw
  have I : InstAt hp x (exI C t0 (some dx)) C (some oD) := ⟨hx, rfl, rfl, hoD⟩
  have L : Looks (model prog w) hp (classData C) cd := looks_clsIn X hcd
  have tk : takerIn K C f = some none := by unfold takerIn; rw [nf]; rfl
  refine set_plain X I sa (osa_openX (s := ⟨hp, g, d, t + 1, os⟩) SF X I ov tk fun b => ?_)
  obtain ⟨c1, c2, c3, c4, c5, c6, c7, c8, c9, c10, c11⟩ := cd
  dsimp only at hh
  subst hh
  dsimp only
  unfold Builtin.ObjectAttr.storeInOwnDict Builtin.ObjectAttr.ownDictForStores
  repeat (first | with_reducible refine ESX.store_in_old hns hw hz ?_ | with_reducible refine wpAny_loadPart_at hx ?_ | with_reducible refine L.at ?_ | wp_step)
  intro h' tk' hn' hs
  exact hq h' tk' (fun b o hb ho => (hs.2 b hb).trans ho) (Nat.le_of_eq hs.1.symm) hn'
/-- initId bound to x, called -/
theorem run_bound {u t0 : Addr} {rest : List Value} {Q : Value → Shared → Prop} (FB : ExcBaseFacts B newId initId bmB) (X : K.In s.heap) (q : excInitIn K C bmB newId = true)
    (hx : s.heap.get? x = some (exI C t0 none)) (hu : s.heap.get? u = some (kxs_mw initId x)) (hz : rest.length ≤ sizeLine)
    (hq : ∀ h' t1, (∀ b o, b ≠ x → s.heap.get? b = some o → h'.get? b = some o) → s.heap.objs.size ≤ h'.objs.size → h'.get? x = some (exI C t1 none) → Q .none { s with heap := h' }) :
    wpAny (model prog w) A (call (.ref u) rest) Q E s := by
  obtain ⟨nm, N', qn, bs, bm, hdct, sn, sub, ab, col, dd, k0, k1, k2, k3, k5, hC, hT⟩ := excInit_of X q
  obtain ⟨hh, g, d, tk, os⟩ := s
  refine wpAny_call (codeAny_of_tree ?_)
  show wpAny _ A.in1 (callAny (.ref u) ⟨rest, []⟩) _ _ _
  simp only [callAny]
  refine wpAny_bind (wpAny_load hu ?_)
  simp only [kxs_mw, show (Value.type "method-wrapper" == Value.type "method" || Value.type "method-wrapper" == Value.type "builtin_function_or_method" || Value.type "method-wrapper" == Value.type "method-wrapper") = true from by decide, if_true]
  refine KFB.if_so (by decide) ?_
  refine wpAny_bind (check_bound_init FB.toExcCallFacts hC hx rfl (wpAny_bind (wpAny_pure (wpAny_pure ?_))))
  refine ⟨plainId_quiet FB.init.plain _, codeAny_builtin FB.initEntry ?_⟩
  refine exc_init_tree (cls := .ref C) (t0 := t0) (dv := none) (c2 := .none) (c3 := .none) (b4 := .bool false) hx hz fun h' k e et => ?_
  exact hq h' _ k (Nat.le_of_lt (Heap.lt_size et)) e
/-- .. all in one row -/
def OneRow (tx : Str) (p0 p1 p2 p3 p4 : Pos) : Prop := ∃ pl : Sem Bool, ∀ env : Env, eval (.Call (.Attribute (.Call (.Name "super" p0) [] [] p1) "__init__" p2) [.Constant (.str tx) 0 p3] [] p4) env = (do
  let ov ← attributeBase (.Call (.Name "super" p0) [] [] p1) "__init__" env (eval (.Call (.Name "super" p0) [] [] p1) env)
  standAt p2.atName
  let (f, first) ← holding [ov] (getMethod ov "__init__" pl)
  callWith p4 f first (backTo p4 (starEach [.Constant (.str tx) 0 p3] env)) [])
/-- super().__init__(text), in the def's own frame -/
theorem ex_super {t0 L fI cda cc : Addr} {scope : Scope} {qual : Str} {body : List Stmt} {tx : Str} {p0 p1 p2 p3 p4 p5 : Pos} {m mg mb : Str → Option Value} {fd : FuncData} {oc ccl cl : Value} {od cdd cld : Option Addr} {osl ccs csl : Array (Option Value)} {ar : Arg} {vs : Array Value} {file : Str} {tf : Tok} {Q : Flow → Shared → Prop}
    (row : OneRow tx p0 p1 p2 p3 p4) (FB : ExcBaseFacts B newId initId bmB) (KF : KxsFacts B initId) (X : K.In s.heap) (q : excInitIn K C bmB newId = true) (hcd : clsIn K C = some cd)
    (hg : s.heap.Ns mainGlobals mg) (hm : mg "super" = none) (hb : s.heap.Ns builtinsNs mb) (hbs : mb "super" = some (.type "super"))
    (hL : s.heap.Ns L m) (hv : m "self" = some (.ref x)) (hx : s.heap.get? x = some (exI C t0 none))
    (lf : K.lookup fI = some ⟨oc, od, .func fd, osl⟩) (hp : (fd.params.posonlyargs ++ fd.params.args).head? = some ar) (har : ar.arg = "self")
    (lc : K.lookup cda = some ⟨ccl, cdd, .fields vs, ccs⟩) (hvs : vs[2]? = some (.str file tf)) (hfile : ((prog.main.file : Str) == file) = true) (htop : (prog.main.scope.names.lookup ("super" : Str)).isSome = false)
    (lcell : K.lookup cc = some ⟨cl, cld, .cell (some (.ref C)), csl⟩) (hsub : mroIn K C (.ref C) = some true) (opq : nsIn K cStatics "thirdparty.any" = some none)
    (hsup : alongIn K "__init__" ((cd.mro.dropWhile (· != .ref C)).drop 1) = some (some (.builtin initId))) (hB : subIn K (.ref C) (.type B) = some true)
    (hk : scope.kind = .function) (hks : scope.names.lookup ("super" : Str) = some .globalImplicit) (hkc : scope.names.lookup ("__class__" : Str) = some .free) (hka : scope.names.lookup ("self" : Str) = some .local)
    (hq : ∀ h' tk t1, (∀ b o, b ≠ x → s.heap.get? b = some o → h'.get? b = some o) → s.heap.objs.size ≤ h'.objs.size → h'.get? x = some (exI C t1 none) → Q .next { s with heap := h', toks := tk }) :
    _root_.PySem.wpAt (model prog w) A (.func body (ksEnv qual scope L fI (.ref cda) cc)) (exec (supS tx p0 p1 p2 p3 p4 p5) (ksEnv qual scope L fI (.ref cda) cc)) Q E s := by
  have I : InstAt s.heap x (exI C t0 none) C none := ⟨hx, rfl, rfl, trivial⟩
  have xC : x ≠ C := ks_ne X I hcd
  obtain ⟨hh, g, d, t, os⟩ := s
  obtain ⟨oD, hD1, hD2⟩ : ∃ oD, hh.get? C = some oD ∧ oD.data = .cls cd := by
    unfold clsIn at hcd
    split at hcd
    · rename_i c d cd' sl ho
      cases hcd
      exact ⟨_, X _ _ ho, rfl⟩
    · cases hcd
  obtain ⟨pl, row⟩ := row
  obtain ⟨kd, nms, g1, g2, mo⟩ := scope
  dsimp only at hk hks hkc hka
  subst hk
  refine ks_wpAt_Expr_any (ks_wpAt_MethodCall (pl := pl) ?_ (row _))
  refine ks_wpAt_super_base (env := ksEnv qual ⟨.function, nms, g1, g2, mo⟩ L fI (.ref cda) cc) hks hkc (by decide) rfl (X _ _ lf) rfl hp rfl (X _ _ lc) rfl hvs hfile htop ?_
  refine ks_loadName_global rfl hks (loadGlobal_builtin (env := ksEnv qual ⟨.function, nms, g1, g2, mo⟩ L fI (.ref cda) cc) hg hm hb hbs ⟨rfl, ?_⟩)
  refine wpAny_loadName_free rfl hkc rfl ⟨_, X _ _ lcell, rfl⟩ ?_
  rw [har]
  refine wpAny_loadName_local rfl hka hL hv (ks_wpAny_isType_cls hD1 hD2 ⟨rfl, ?_⟩)
  refine ks_wpAny_call_super hD1 hD2 hx rfl (fun c e => by cases e) (looks_mroIn X hsub) (fun h1 e1 k1 => ?_)
  have X1 : K.In h1 := X.keeps k1
  have I1 : InstAt h1 x (exI C t0 none) C none := ⟨k1 _ _ hx, rfl, rfl, trivial⟩
  refine kxs_getMethod KF e1 (looks_opaque X1 opq) (l₀ := cd.mro) ?_ rfl X1 hsup (I1.type.andThen (looks_subIn X1 hB)) xC (by decide) ?_
  · exact fun A Q E s k q => wpAny_bind ((looks_clsIn X1 hcd) A _ E s k (wpAny_pure q))
  have k2 : ∀ b o, hh.get? b = some o → (h1.push (kxs_mw initId x)).get? b = some o := fun b o e => Heap.get?_push_of_some _ (k1 b o e)
  have hu : (h1.push (kxs_mw initId x)).get? h1.objs.size = some (kxs_mw initId x) := Heap.get?_push_at rfl rfl
  refine kxs_callWith (i := initId) (x := x) rfl ?_
  refine evalArgs_plain (spliced_cons (Calls.Constant_str (k := 0) (pos := p3) (spliced_nil ⟨hu, ?_⟩)))
  refine run_bound FB (X.keeps k2) q (k2 _ _ hx) hu (by rw [sizeLine_eq]; exact (by decide : 1 ≤ 16777216)) fun h' t1 k sz e => ?_
  have sz1 : hh.objs.size ≤ h1.objs.size := Nat.le_of_lt (Heap.lt_size e1)
  have sz2 : h1.objs.size ≤ (h1.push (kxs_mw initId x)).objs.size := Nat.le_of_lt (Heap.lt_size hu)
  exact hq h' _ t1 (fun b o hb ho => k b o hb (k2 b o ho)) (Nat.le_trans sz1 (Nat.le_trans sz2 sz)) e
inductive Flds : List Stmt → List Str → Prop
  | nil : Flds [] []
  | cons {f : Str} {q1 q2 q3 q4 : Pos} {r : List Stmt} {fs : List Str} : Flds r fs → Flds (fldS f q1 q2 q3 q4 :: r) (f :: fs)
/-- the exception at x, with these fields so far -/
def Held (h : Heap) (lo : Nat) (x C : Addr) : List (Str × Value) → Prop
  | [] => ∃ t1, h.get? x = some (exI C t1 none)
  | m => ∃ t1 dx, lo ≤ dx ∧ dx ≠ x ∧ h.get? x = some (exI C t1 (some dx)) ∧ h.Ns1 dx (fun y => m.lookup y)
theorem look_put (f y : Str) (v : Value) (m : List (Str × Value)) : ((f, v) :: m).lookup y = if y = f then some v else m.lookup y := by
  by_cases h : y = f
  · subst h
    simp [List.lookup]
  · have e : (y == f) = false := by simpa using h
    rw [if_neg h]
    simp [List.lookup, e]
theorem look_in : ∀ (m : List (Str × Value)), Within (fun y => m.lookup y) (m.map (·.1))
  | [], y, h => absurd rfl h
  | (f, v) :: m, y, h => by
    have h' : ((f, v) :: m).lookup y ≠ none := h
    rw [look_put] at h'
    by_cases e : y = f
    · rw [e]
      exact List.mem_cons_self
    · rw [if_neg e] at h'
      exact List.mem_cons_of_mem _ (look_in m y h')
theorem run_flds {L fI : Addr} {cdv : Value} {cc : Addr} {h0 : Heap} {nms : List (Str × NameKind)} {g1 g2 : Bool} {mo : List (Str × Const)} {qual : Str} {m : Str → Option Value} {Q : Flow → Shared → Prop}
    (SF : StoreFacts B bmB "object.__setattr__" "object") (X : K.In h0) (hnx : K.lookup x = none) (hL : h0.Ns L m) (hLx : L ≠ x) (hself : m "self" = some (.ref x)) (hka : nms.lookup ("self" : Str) = some .local)
    (hcd : clsIn K C = some cd) (hh : cd.hasDict = true) (ov : excOver K C bmB = true) (sa : findIn K (.ref C) "__setattr__" = some (some (.builtin "object.__setattr__"))) :
    ∀ {rest : List Stmt} {fs : List Str}, Flds rest fs → ∀ (acc : List (Str × Value)) (us : List Value) (s : Shared), (∀ b o, b ≠ x → h0.get? b = some o → s.heap.get? b = some o) → h0.objs.size ≤ s.heap.objs.size → Held s.heap h0.objs.size x C acc →
      (∀ p ∈ fs.zip us, m p.1 = some p.2) → us.length = fs.length → acc.length + fs.length ≤ 900 → (∀ f ∈ fs, nms.lookup f = some .local ∧ findIn K (.ref C) f = some none ∧ (f == ("__debug__" : Str)) = false) →
      (∀ h' tk, (∀ b o, b ≠ x → h0.get? b = some o → h'.get? b = some o) → h0.objs.size ≤ h'.objs.size → Held h' h0.objs.size x C ((fs.zip us).reverse ++ acc) → Q .next { s with heap := h', toks := tk }) →
      wpAny (model prog w) A (execs rest (ksEnv qual ⟨.function, nms, g1, g2, mo⟩ L fI cdv cc)) Q E s := by
  intro rest fs hF
  induction hF with
  | nil =>
    intro acc us s k sz hd _ hl _ _ hq
    obtain rfl : us = [] := List.eq_nil_of_length_eq_zero hl
    exact wpAny_execs_nil (hq s.heap s.toks k sz hd)
  | @cons f q1 q2 q3 q4 r fs hr ih =>
    intro acc us s k sz hd hv hl hz hf hq
    obtain ⟨u, us, rfl⟩ : ∃ u us', us = u :: us' := by
      cases us with
      | nil => simp at hl
      | cons u us => exact ⟨u, us, rfl⟩
    obtain ⟨f1, f2, f3⟩ := hf f List.mem_cons_self
    have eu : m f = some u := hv (f, u) List.mem_cons_self
    have XK : K.In s.heap := fun a o e => k a o (fun z => by rw [z, hnx] at e; cases e) (X a o e)
    have nsL : s.heap.Ns L m := by
      obtain ⟨oL, es, ep, eL, r⟩ := hL
      exact ⟨oL, es, ep, k _ _ hLx eL, r⟩
    refine wpAny_execs_cons (plainObj_wpAny_Assign_Attribute (wpAny_Name (wpAny_loadName_local rfl f1 nsL eu (wpAny_Name (wpAny_loadName_local rfl hka nsL hself ?_) (by decide))) f3))
    have fin : ∀ h' tk, (∀ b o, b ≠ x → h0.get? b = some o → h'.get? b = some o) → h0.objs.size ≤ h'.objs.size → Held h' h0.objs.size x C ((f, u) :: acc) →
        wpAny (model prog w) A (execs r (ksEnv qual ⟨.function, nms, g1, g2, mo⟩ L fI cdv cc)) Q E { s with heap := h', toks := tk } := fun h' tk k' sz' hd' => by
      refine ih ((f, u) :: acc) us { s with heap := h', toks := tk } k' sz' hd' (fun p hp => hv p (List.mem_cons_of_mem _ hp)) (by simpa using hl) (by simp at hz ⊢; omega) (fun g hg => hf g (List.mem_cons_of_mem _ hg)) fun h2 tk2 k2 sz2 hd2 => ?_
      refine hq h2 tk2 k2 sz2 ?_
      show Held h2 _ x C (((f, u) :: fs.zip us).reverse ++ acc)
      rw [List.reverse_cons, List.append_assoc]
      exact hd2
    have lt0 : ∀ {b : Addr} {o : Obj} {dx : Nat}, h0.get? b = some o → h0.objs.size ≤ dx → b ≠ dx := fun {b o dx} e z => Nat.ne_of_lt (Nat.lt_of_lt_of_le (Heap.lt_size e) z)
    cases acc with
    | nil =>
      obtain ⟨t1, hx⟩ := hd
      refine st_new SF XK hx hcd hh ov sa f2 fun h' tk dx kk dn dne szn hx' hn => fin h' tk (fun b o hb e => kk b o hb (k b o hb e)) (Nat.le_trans sz szn) ⟨t1, dx, Nat.le_trans sz dn, dne, hx', ?_⟩
      have e : (fun y => List.lookup y [(f, u)]) = fun y => if y = f then some u else none := by
        funext y
        exact look_put f y u []
      rw [e]
      exact hn
    | cons a acc =>
      obtain ⟨t1, dx, dn, dne, hx, hn⟩ := hd
      refine st_old SF XK hx hn (look_in (a :: acc)) (by simp at hz ⊢; omega) hcd hh ov sa f2 fun h' tk kk szn hn' => fin h' tk (fun b o hb e => kk b o (lt0 e dn) (k b o hb e)) (Nat.le_trans sz szn) ⟨t1, dx, dn, dne, kk x _ dne.symm hx, ?_⟩
      have e : (fun y => List.lookup y ((f, u) :: a :: acc)) = fun y => if y = f then some u else List.lookup y (a :: acc) := by
        funext y
        exact look_put f y u _
      rw [e]
      exact hn'
end
/-- the written text of such an __init__ -/
structure Txt (st : Stmt) (fs : List Str) : Prop where
  ne : fs ≠ []
  few : fs.length ≤ 900
  kind : (defScope st).kind = .function
  co : (defScope st).isCoroutine = false
  gen : (defScope st).isGenerator = false
  nocell : ∀ x ∈ (defScope st).names, x.2 ≠ .cell
  ls : (defScope st).names.lookup ("super" : Str) = some .globalImplicit
  lc : (defScope st).names.lookup ("__class__" : Str) = some .free
  lself : (defScope st).names.lookup ("self" : Str) = some .local
  lf : ∀ f ∈ fs, (defScope st).names.lookup f = some .local ∧ (f == ("__debug__" : Str)) = false ∧ f ≠ "self"
  nd : fs.Nodup
  ar : ∃ a : Arg, ((defArgs st).posonlyargs ++ (defArgs st).args).head? = some a ∧ a.arg = "self"
  bd : ∀ (qual : Str) (doc pm cdv ct : Value) (an : Option Addr) (cc : Addr) (u : Value) (vs : List Value), vs.length = fs.length →
    bindArgs (ksFn "__init__" qual (defArgs st) (defBody st) (defScope st) .none .none doc pm an cdv ct cc) ⟨u :: vs, []⟩ = pure ((("self" : Str), u) :: fs.zip vs)
  body : ∃ tx p0 p1 p2 p3 p4 p5 rest, defBody st = supS tx p0 p1 p2 p3 p4 p5 :: rest ∧ OneRow tx p0 p1 p2 p3 p4 ∧ Flds rest fs
/-- what the top leaves of such a class -/
structure Cx' (P : Program) (K : Frag) (mg : Str → Option Value) (nm : Str) (st : Stmt) (fs : List Str) (B newId initId : String) (bmB : List Value) (C : Addr) : Prop where
  gC : mg nm = some (.ref C)
  ini : excInitIn K C bmB newId = true
  over : excOver K C bmB = true
  hd : hasDictIn K C = true
  sa : findIn K (.ref C) "__setattr__" = some (some (.builtin "object.__setattr__"))
  ga : findIn K (.ref C) "__getattribute__" = some (some (.builtin "BaseException.__getattribute__"))
  gg : findIn K (.ref C) "__getattr__" = some none
  noF : ∀ f ∈ fs, findIn K (.ref C) f = some none
  kC : keepIn K (.ref C) = true
  exC : subIn K (.ref C) (.type "BaseException") = some true
  tyC : typeIn K (.ref C) = some (.type "type")
  hB : subIn K (.ref C) (.type B) = some true
  hsub : mroIn K C (.ref C) = some true
  opq : nsIn K cStatics "thirdparty.any" = some none
  sup : ks_superIn K C C "__init__" = some (some (.builtin initId))
  mgs : mg "super" = none
  top : (P.main.scope.names.lookup ("super" : Str)).isSome = false
  fn : ∃ (fI : Addr) (oc : Value) (od : Option Addr) (qual : Str) (doc pm : Value) (an : Option Addr) (cda : Addr) (ct : Value) (cc : Addr) (osl : Array (Option Value)), findIn K (.ref C) "__init__" = some (some (.ref fI)) ∧ typeIn K (.ref fI) = some (.type "function") ∧
    K.lookup fI = some ⟨oc, od, .func (ksFn "__init__" qual (defArgs st) (defBody st) (defScope st) .none .none doc pm an (.ref cda) ct cc), osl⟩ ∧ codeIn K (.ref cda) qual = true ∧
    (∃ (cl : Value) (cld : Option Addr) (csl : Array (Option Value)), K.lookup cc = some ⟨cl, cld, .cell (some (.ref C)), csl⟩) ∧
    ∃ (ccl : Value) (cdd : Option Addr) (vs : Array Value) (ccs : Array (Option Value)) (file : Str) (tf : Tok), K.lookup cda = some ⟨ccl, cdd, .fields vs, ccs⟩ ∧ vs[2]? = some (.str file tf) ∧ ((P.main.file : Str) == file) = true
structure Base (B newId initId : String) (bmB : List Value) : Prop where
  FB : ExcBaseFacts B newId initId bmB
  KF : KxsFacts B initId
  SF : StoreFacts B bmB "object.__setattr__" "object"
theorem base_Lookup : Base "LookupError" "LookupError.__new__" "LookupError.__init__" [.type "LookupError", .type "Exception", .type "BaseException", .type "object"] := ⟨F.excBase_LookupError, kxs_LookupError, F.store_LookupError⟩
theorem base_Runtime : Base "RuntimeError" "RuntimeError.__new__" "RuntimeError.__init__" [.type "RuntimeError", .type "Exception", .type "BaseException", .type "object"] := ⟨F.excBase_RuntimeError, kxs_RuntimeError, F.store_RuntimeError⟩
theorem base_Arith : Base "ArithmeticError" "ArithmeticError.__new__" "ArithmeticError.__init__" [.type "ArithmeticError", .type "Exception", .type "BaseException", .type "object"] := ⟨F.excBase_ArithmeticError, kxs_ArithmeticError, F.store_ArithmeticError⟩
theorem base_Value : Base "ValueError" "ValueError.__new__" "ValueError.__init__" [.type "ValueError", .type "Exception", .type "BaseException", .type "object"] := ⟨F.excBase_ValueError, kxs_ValueError, F.store_ValueError⟩
theorem zip_look {β : Type} : ∀ {fs : List Str} {us : List β} (p : Str × β), fs.Nodup → p ∈ fs.zip us → (fs.zip us).reverse.lookup p.1 = some p.2
  | [], _, p, _, h => by simp at h
  | _ :: _, [], p, _, h => by simp at h
  | f :: fs, u :: us, p, nd, h => by
    rw [List.zip_cons_cons, List.reverse_cons, List.lookup_append]
    obtain ⟨n1, n2⟩ := List.nodup_cons.mp nd
    rcases List.mem_cons.mp h with rfl | h
    · have e : List.lookup f (fs.zip us).reverse = none := by
        rw [List.lookup_eq_none_iff]
        intro q hq
        have := (List.of_mem_zip (List.mem_reverse.mp hq)).1
        have hne : q.1 ≠ f := fun z => n1 (by rw [← z]; exact this)
        exact by simpa using Ne.symm hne
      rw [e]
      simp [List.lookup]
    · rw [zip_look p n2 h]
      rfl
section
variable {P : Program} {w : World} {A : Around} {R : Result → Shared → Prop} {K : Frag} {mg mb : Str → Option Value} {nm : Str} {st : Stmt} {fs : List Str} {B newId initId : String} {bmB : List Value} {C : Addr} {s : Shared}
theorem run_init {x t0 : Addr} {us : List Value} (T : Cx' P K mg nm st fs B newId initId bmB C) (TT : Txt st fs) (BB : Base B newId initId bmB) {fI : Addr} (iC : findIn K (.ref C) "__init__" = some (some (.ref fI)))
    (X : K.In s.heap) (hg : s.heap.Ns mainGlobals mg) (hb : s.heap.Ns builtinsNs mb) (hbs : mb "super" = some (.type "super")) (hlim : s.heap.NoLimit) (hx : s.heap.get? x = some (exI C t0 none)) (hnx : K.lookup x = none)
    (hroom : A.depth < recursionLimit) (hl : us.length = fs.length)
    (hq : ∀ h' tk t1 dx, (∀ b o, b ≠ x → s.heap.get? b = some o → h'.get? b = some o) → s.heap.objs.size ≤ dx → dx ≠ x → h'.get? x = some (exI C t1 (some dx)) → h'.Ns1 dx (fun y => (fs.zip us).reverse.lookup y) → R (.ok (.ret .none)) { s with heap := h', toks := tk }) :
    codeAny (model P w) A (.call (.ref fI) ⟨.ref x :: us, []⟩) R s := by
  obtain ⟨fI', oc, od, qual, doc, pm, an, cda, ct, cc, osl, i1, i2, i3, i4, ⟨cl, cld, csl, i5⟩, ccl, cdd, vs, ccs, file, tf, i6, i7, i8⟩ := T.fn
  have e := i1.symm.trans iC
  cases e
  obtain ⟨tx, p0, p1, p2, p3, p4, p5, rest, eb, row, hF⟩ := TT.body
  obtain ⟨ar, a1, a2⟩ := TT.ar
  obtain ⟨cd, hcd, hh⟩ : ∃ cd, clsIn K C = some cd ∧ cd.hasDict = true := by
    have z := T.hd
    unfold hasDictIn at z
    cases c : clsIn K C with
    | none => rw [c] at z; cases z
    | some cd => exact ⟨cd, rfl, by rw [c] at z; exact z⟩
  have hsup : alongIn K "__init__" ((cd.mro.dropWhile (· != .ref C)).drop 1) = some (some (.builtin initId)) := by
    have z := T.sup
    unfold ks_superIn at z
    rw [hcd] at z
    exact z
  have kd := TT.kind
  have loc : ∀ y ∈ ((("self" : Str), Value.ref x) :: fs.zip us), (defScope st).names.lookup y.1 = some .local := fun y hy => by
    rcases List.mem_cons.mp hy with rfl | hy
    · exact TT.lself
    · exact (TT.lf _ (List.of_mem_zip hy).1).1
  refine ks_codeAny_call_defAt (fd := ksFn "__init__" qual (defArgs st) (defBody st) (defScope st) .none .none doc pm an (.ref cda) ct cc) (body := defBody st) (binds := (("self" : Str), .ref x) :: fs.zip us) hroom (X _ _ i3) rfl hlim
    (codeRec_of X i4) rfl (BindsTo.of_eq (TT.bd _ _ _ _ _ _ _ _ _ hl)) TT.nocell loc (fun h0 hns k => ?_) TT.co TT.gen TT.kind
  have X0 : K.In h0 := X.keeps k
  have Lx : s.heap.objs.size ≠ x := Nat.ne_of_gt (Heap.lt_size hx)
  have hm0 : ((("self" : Str), Value.ref x) :: fs.zip us).reverse.lookup ("self" : Str) = some (Value.ref x) := by
    rw [List.reverse_cons, List.lookup_append]
    have e : List.lookup ("self" : Str) (fs.zip us).reverse = none := by
      rw [List.lookup_eq_none_iff]
      intro q hq
      have := (TT.lf _ (List.of_mem_zip (List.mem_reverse.mp hq)).1).2.2
      exact by simpa using Ne.symm this
    rw [e]
    rfl
  have hmf : ∀ p ∈ fs.zip us, ((("self" : Str), Value.ref x) :: fs.zip us).reverse.lookup p.1 = some p.2 := fun p hp => by
    rw [List.reverse_cons, List.lookup_append, zip_look p TT.nd hp]
    rfl
  have hlf := TT.lf
  have hls := TT.ls
  have hlc := TT.lc
  have hlself := TT.lself
  have eE : callEnv (ksFn "__init__" qual (defArgs st) (defBody st) (defScope st) .none .none doc pm an (.ref cda) ct cc) s.heap.objs.size fI = ksEnv qual (defScope st) s.heap.objs.size fI (.ref cda) cc := rfl
  rw [eE]
  generalize hsc : defScope st = sc at i3 kd hlf hls hlc hlself
  obtain ⟨kk, nms, g1, g2, mo⟩ := sc
  dsimp only at kd hlf hls hlc hlself
  subst kd
  have szL : s.heap.objs.size < h0.objs.size := hns.lt
  rw [eb]
  refine ks_wpAt_execs_cons (ex_super (s := { s with heap := h0, toks := _ }) (fd := ksFn "__init__" qual (defArgs st) (defBody st) ⟨.function, nms, g1, g2, mo⟩ .none .none doc pm an (.ref cda) ct cc) row BB.FB BB.KF X0 T.ini hcd (hg.keeps k) T.mgs (hb.keeps k) hbs hns hm0 (k _ _ hx) i3 a1 a2 i6 i7 i8 T.top i5 T.hsub T.opq hsup T.hB rfl hls hlc hlself
    fun h1 tk t1 k1 sz1 e1 => ?_)
  refine wpAt_of_wpAny (run_flds (h0 := h0) BB.SF X0 hnx hns Lx hm0 hlself hcd hh T.over T.sa hF [] us { s with heap := h1, toks := tk } k1 sz1 ⟨t1, e1⟩ hmf hl (by have := TT.few; simpa using this) (fun f hf => ⟨(hlf f hf).1, T.noF f hf, (hlf f hf).2.1⟩) fun h2 tk2 k2 sz2 hd2 => ?_)
  rw [List.append_nil] at hd2
  have nn : (fs.zip us).reverse ≠ [] := by
    have := TT.ne
    cases fs with
    | nil => exact absurd rfl this
    | cons f fs =>
      cases us with
      | nil => simp at hl
      | cons u us => simp
  cases er : (fs.zip us).reverse with
  | nil => exact absurd er nn
  | cons a m =>
    rw [er] at hd2
    obtain ⟨t2, dx, dn, dne, hx2, hn2⟩ := hd2
    rw [er] at hq
    exact hq h2 tk2 t2 dx (fun b o hb e => k2 b o hb (k b o e)) (Nat.le_of_lt (Nat.lt_of_lt_of_le szL dn)) dne hx2 hn2
end
end EX
end Rc

namespace Rc
namespace EX
open PySem PySem.W PySem.Calls PyProof.Rows PySem.HandSPX
open L2 (defScope defBody defArgs)
section
variable {P : Program} {w : World} {A : Around} {R : Result → Shared → Prop} {K : Frag} {mg mb : Str → Option Value} {nm : Str} {st : Stmt} {fs : List Str} {B newId initId : String} {bmB : List Value} {C : Addr} {s : Shared}
/-- a new exception of the class, from its place e -/
structure Made (h h' : Heap) (e C d : Addr) (m : List (Str × Value)) : Prop where
  keep : ∀ b o, h.get? b = some o → h'.get? b = some o
  new : h.objs.size ≤ e
  obj : ∃ t1, h'.get? e = some (exI C t1 (some d))
  dbig : h.objs.size ≤ d
  dne : d ≠ e
  ns : h'.Ns1 d (fun y => m.lookup y)
theorem made {us : List Value} (T : Cx' P K mg nm st fs B newId initId bmB C) (TT : Txt st fs) (BB : Base B newId initId bmB)
    (X : K.In s.heap) (hg : s.heap.Ns mainGlobals mg) (hb : s.heap.Ns builtinsNs mb) (hbs : mb "super" = some (.type "super")) (hlim : s.heap.NoLimit)
    (hroom : A.depth + 1 < recursionLimit) (hl : us.length = fs.length)
    (hq : ∀ h' tk e d, Made s.heap h' e C d (fs.zip us).reverse → R (.ok (.ret (.ref e))) { s with heap := h', toks := tk }) :
    codeAny (model P w) A (.call (.ref C) ⟨us, []⟩) R s := by
  obtain ⟨nm', N', qn, bs, bm, hdct, sn, sub, ab, col, dd, k0, k1, k2, k3, k5, hC, hT⟩ := excInit_of X T.ini
  obtain ⟨fI, oc, od, qual, doc, pm, an, cda, ct, cc, osl, i1, i2, _⟩ := T.fn
  obtain ⟨hp, g, dr, tk, os⟩ := s
  have kp : ∀ b o, hp.get? b = some o → ((hp.push (kdv_tup us)).push (excO C hp.objs.size)).get? b = some o := fun b o e => Heap.get?_push_of_some _ (Heap.get?_push_of_some _ e)
  have hget : ((hp.push (kdv_tup us)).push (excO C hp.objs.size)).get? (hp.objs.size + 1) = some (exI C hp.objs.size none) := by heap_get
  have hnx : K.lookup (hp.objs.size + 1) = none := by
    cases e : K.lookup (hp.objs.size + 1) with
    | none => rfl
    | some o => exact absurd (Nat.lt_of_succ_lt (Heap.lt_size (X _ _ e))) (Nat.lt_irrefl _)
  have hfew : us.length ≤ sizeLine := by
    have := TT.few
    rw [hl, sizeLine_eq]
    omega
  refine call_own BB.FB hT hC (looks_findIn X i1) (fun self => bind_fn X self i2) hfew ?_
  refine run_init (s := ⟨(hp.push (kdv_tup us)).push (excO C hp.objs.size), g, dr, tk, os⟩) T TT BB i1 (X.keeps kp) (hg.keeps kp) (hb.keeps kp) hbs (hlim.keeps kp) hget hnx ?_ hl fun h' tk' t1 dx k' dn dne hx hns => ?_
  · show A.depth + 1 < recursionLimit
    exact hroom
  · have sz : hp.objs.size + 1 + 1 ≤ dx := by
      have q := dn
      simp only [Heap.size_push] at q
      exact q
    exact ⟨rfl, hq h' tk' (hp.objs.size + 1) dx ⟨fun b o e => k' b o (Nat.ne_of_lt (Nat.lt_succ_of_lt (Heap.lt_size e))) (kp b o e), Nat.le_succ _, ⟨_, hx⟩, (show hp.objs.size ≤ dx by omega), dne, hns⟩⟩
end
end EX
open PySem PySem.Spec PyProof.Rows L2
theorem look_rel : ∀ {fs : List Str} {vs : List V} {us : List Value}, Vals vs us → ∀ f : Str, RelO ((fs.zip vs).reverse.lookup f) ((fs.zip us).reverse.lookup f)
  | [], _, _, _, f => trivial
  | _ :: _, _, _, .nil, f => trivial
  | g :: fs, v :: vs, u :: us, .cons r rs, f => by
    rw [List.zip_cons_cons, List.zip_cons_cons, List.reverse_cons, List.reverse_cons, List.lookup_append, List.lookup_append]
    have ih := look_rel (fs := fs) rs f
    cases e1 : (fs.zip vs).reverse.lookup f with
    | some a =>
      cases e2 : (fs.zip us).reverse.lookup f with
      | some b => rw [e1, e2] at ih; exact ih
      | none => rw [e1, e2] at ih; exact ih.elim
    | none =>
      cases e2 : (fs.zip us).reverse.lookup f with
      | some b => rw [e1, e2] at ih; exact ih.elim
      | none =>
        show RelO (List.lookup f [(g, v)]) (List.lookup f [(g, u)])
        by_cases h : f = g
        · subst h
          simp [List.lookup]
          exact r
        · have hb : (f == g) = false := by simpa using h
          simp [List.lookup, hb]
          trivial
section
variable {X : Cx} {nm : Str} {st : Stmt} {fs : List Str} {B newId initId : String} {bmB : List Value} {C : Addr}
/-- C(e, ..) -/
def tMkE (C : Addr) (fs : List Str) (ta : TA) : L2.St → Hp → XK → Prop := fun σ H Q => ta σ H fun vs H1 => vs.length = fs.length ∧ ∀ d, H1 d = none → Q (.ref C) (some d) (upd H1 d (.xd (fs.zip vs).reverse))
theorem pmk_ex {e : Expr} {es : List Expr} {ta : TA} {p pos : Pos} {k : Nat} (T : EX.Cx' X.prog X.K X.mg nm st fs B newId initId bmB C) (TT : EX.Txt st fs) (BB : EX.Base B newId initId bmB) (hr : Room (k + 1) X.A) (ha : PA X (e :: es) ta) (hg : Gl X nm)
    (hdb : (nm == ("__debug__" : Str)) = false := by decide) (he : starEach (e :: es) X.env = (false, eval e X.env) :: starEach es X.env := by rfl) (hpl : (backTo pos (starEach es X.env)).any (·.1) = false := by rfl) :
    PMk X (.Call (.Name nm p) (e :: es) [] pos) (tMkE C fs ta) := by
  intro pins s σ H Q I h
  refine wpAny_Call_Name_kw (ld_glob I hg T.gC ?_ hdb)
  refine PySem.W.callWith_K (h₀ := X.base) I.ok.mod.kin T.kC (thn (ha.run pos pins s σ H _ I h) fun us s1 hh => ?_) he hpl
  obtain ⟨vs, H1, I1, r1, hl, q1⟩ := hh
  refine ⟨I1.kIn, ?_⟩
  show wpAny _ _ (call (.ref C) us) _ _ _
  obtain ⟨mb, b1, b2⟩ := I1.ok.mod.blt
  have hlim := I1.nolimit
  have kb := I1.bk
  obtain ⟨hp, g, dr, tk, os⟩ := s1
  refine wpAny_call (EX.made T TT BB I1.kIn (I1.ok.mod.glob.keeps kb) (b1.keeps kb) ((b2 _ (by decide)).trans (by decide +kernel : bootBuiltins "super" = some (.type "super"))) hlim (by have := hr.dp; omega) (r1.length.symm.trans hl) fun h' tk' a d M => ?_)
  show MkP X pins σ Q (.ref a) ⟨h', g, dr, tk', os⟩
  obtain ⟨t1, hoe⟩ := M.obj
  obtain ⟨G, g1, g2⟩ := restrict h' fun b => decide (b ≠ a)
  have gk : ∀ b, b ≠ a → G.get? b = h'.get? b := fun b hb => g1 b (decide_eq_true hb)
  have ge : G.get? a = none := g2 a (by simp)
  have old : ∀ b o, hp.get? b = some o → G.get? b = some o := fun b o q => (gk b (Nat.ne_of_lt (Nat.lt_of_lt_of_le (Heap.lt_size q) M.new))).trans (M.keep b o q)
  have ob : ObjOk X.prog X.w (upd H1 d (.xd (fs.zip vs).reverse)) G d (.xd (fs.zip vs).reverse) := ⟨_, M.ns.at (fun o q => (gk d M.dne).trans q), look_rel r1⟩
  have J : Inv X pins σ (upd H1 d (.xd (fs.zip vs).reverse)) ⟨G, g, dr, tk', os⟩ := I1.laid (t' := tk') old M.dbig ob
  refine ⟨a, _, _, ⟨G, g, dr, tk', os⟩, _, .ref C, some d, rfl, J, fun b o q => ?_, ge, hoe, ⟨rfl, rfl⟩, rfl, rfl, ?_, rfl, I1.bare, raises_own T.exC T.tyC, q1 d (I1.hok.fresh M.dbig)⟩
  · by_cases hb : b = a
    · have q' : G.get? b = some o := q
      rw [hb, ge] at q'
      cases q'
    · exact (gk b hb).symm.trans q
  · rw [upd_ne (Ne.symm M.dne)]
    exact I1.hok.fresh M.new
end
end Rc

namespace Rc
open PySem PySem.Spec PyProof.Rows L2
/-! ### several except clauses, with names or without -/
abbrev Suite := Addr → Value → Option Addr → TS
/-- behind a suite its name has gone -/
abbrev offD (i : Nat) (D : Ends) : Ends := { nx := fun τ G => D.nx (τ.set i none) G, rt := D.rt, bk := fun τ G => D.bk (τ.set i none) G, ct := fun τ G => D.ct (τ.set i none) G }
def wMix (K : PySem.W.Frag) (Wo : WX) (D : Ends) : List (Value × Option Nat × Suite) → WX
  | [] => Wo
  | (c, none, ts) :: r => fun cls d σ H => ∃ y, PySem.W.exmOne K cls c = some y ∧ (y = true → ∀ a, H a = none → ts a cls d D σ H) ∧ (y = false → wMix K Wo D r cls d σ H)
  | (c, some i, ts) :: r => fun cls d σ H => ∃ y, PySem.W.exmOne K cls c = some y ∧ (y = true → ∀ a, H a = none → ts a cls d (offD i D) (σ.set i (some (.ref a))) H) ∧ (y = false → wMix K Wo D r cls d σ H)
abbrev SuiteOk (X : Cx) (ss : List Stmt) (ts : Suite) : Prop := ∀ (a : Addr) (oe : Obj) (cls : Value) (d : Option Addr) (pn : List (Addr × Obj)), Zc cls d oe → (∃ vs, oe.data = .fields vs) → PSs (X.suite a ((a, oe) :: pn)) ss (ts a cls d)
inductive HdsX (X : Cx) : List ExceptHandler → List (Value × Option Nat × Suite) → Prop
  | nil : HdsX X [] []
  | plain {x : Str} {c : Value} {ts : Suite} {s0 : Stmt} {ss : List Stmt} {p1 p2 : Pos} {hs : List ExceptHandler} {l : List (Value × Option Nat × Suite)} (hc : Names X x c) (ok : SuiteOk X (s0 :: ss) ts) (r : HdsX X hs l) :
      HdsX X (.ExceptHandler (some (.Name x p1)) none (s0 :: ss) p2 :: hs) ((c, none, ts) :: l)
  | named {x n : Str} {i : Nat} {c : Value} {ts : Suite} {s0 : Stmt} {ss : List Stmt} {p1 p2 : Pos} {hs : List ExceptHandler} {l : List (Value × Option Nat × Suite)} (hi : X.N[i]? = some n) (hn : X.env.kindOf n = some .local) (hc : Names X x c) (ok : SuiteOk X (s0 :: ss) ts) (r : HdsX X hs l) :
      HdsX X (.ExceptHandler (some (.Name x p1)) (some n) (s0 :: ss) p2 :: hs) ((c, some i, ts) :: l)
section
variable {X : Cx} {body : List Stmt} {hd : ExceptHandler} {hds : List ExceptHandler} {l : List (Value × Option Nat × Suite)} {pos : Pos} {tb : WX → TS} {Wo : WX}
theorem ps_try_mix (est : X.stack = X.env :: X.outer) (efr : X.env.frame = some X.env.locals) (nd : X.N.Nodup) (tk : Takes X Wo)
    (hb : ∀ (W : WX) (pn : List (Addr × Obj)) (xe : Value → Shared → Prop), Takes (X.tr pn xe) W → PassesOwn (model X.prog X.w) X.A X.env xe → PSs (X.tr pn xe) body (tb W))
    (hh : HdsX X (hd :: hds) l) : PS X (.Try body (hd :: hds) [] [] pos) (fun D σ H => tb (wMix X.K Wo D l) D σ H) := by
  refine ⟨fun pins s σ H D I hw => ?_⟩
  have ok := I.ok
  have frs1 : X.A.frames = some (X.env :: X.outer) := ok.frames.trans (congrArg some est)
  refine wpAny_Try_except (wpAny_mono ((hb (wMix X.K Wo D l) (X.pn ++ pins) (fun u s1 => wpAny (model X.prog X.w) X.A (noteFrame u X.env) (fun _ s2 => wpAny (model X.prog X.w) X.A (setFlight u none) (fun _ s3 =>
    wpAny (model X.prog X.w) X.A (handleBy u X.env (hd :: hds)) (SP X pins D) X.xe s3) X.xe s2) X.xe s1) (fun u s' z => ?_) PassesOwn.looking).run [] s σ H D (I.toTry _) hw) (fun fl s1 z => ?_) (fun _ _ z => z))
  · obtain ⟨a, Bs, sI, pins', τ, G, cls, d, rfl, J', nb, up, sky, na, os, ag, ww⟩ := z
    have J : Inv X pins τ G sI := J'.ofTry ok
    have sky1 : Sky Bs (X.env :: X.outer) a (Zc cls d) X.env.locals s'.heap := est ▸ sky
    show wpAny (model X.prog X.w) X.A (noteFrame (.ref a) X.env) _ _ _
    refine Sky.land Zc.steady frs1 efr sky1 fun h3 fl3 up3 => ?_
    have J3 : Inv X pins τ G { s' with heap := h3 } := J.landed nb fl3.1 (up.trans up3) os ag
    obtain ⟨o3, v3, e3, z3, d3⟩ := fl3.there
    have nfr : a ∉ frs (X.env :: X.outer) := fun hm => by
      obtain ⟨_, o', e', no'⟩ := fl3.2.2.1.mem hm
      rw [e3] at e'
      cases e'
      exact no' _ d3
    have nL : a ≠ X.env.locals := fun y => nfr (List.mem_filterMap.mpr ⟨X.env, List.mem_cons_self, by rw [efr, y]⟩)
    have nF : a ∉ X.fs := fun hm => by
      obtain ⟨e, he, q⟩ := List.mem_filterMap.mp hm
      exact nfr (List.mem_filterMap.mpr ⟨e, .tail _ he, q⟩)
    have S3 := J3.suite e3 d3 na nL nF
    have LT : PySem.W.Looks (model X.prog X.w) h3 (typeOf (.ref a)) cls := fun A Q E s k q => wpAny_typeOf_ref (k _ _ e3) (by rw [z3.1]; exact q)
    have look : ∀ {x : Str} {c : Value} {np : Pos} {Q : Value → Shared → Prop} {E : Value → Shared → Prop}, Names X x c → Q c { s' with heap := h3 } → wpAny (model X.prog X.w) (X.A.mark (some (.ref a))) (eval (.Name x np) X.env) Q E { s' with heap := h3 } := fun {x c np Q E} hc q => by
      obtain ⟨hg, hdb, hm | ⟨hm, hv, hnn⟩⟩ := hc
      · exact ld_glob (X := X.suite a ((a, o3) :: (X.pn ++ pins))) S3 hg hm q hdb
      · exact ld_blt (X := X.suite a ((a, o3) :: (X.pn ++ pins))) S3 hg hm hv q hnn hdb
    have go : ∀ {hs' : List ExceptHandler} {l' : List (Value × Option Nat × Suite)}, HdsX X hs' l' → wMix X.K Wo D l' cls d τ G → wpAny (model X.prog X.w) X.A (handleBy (.ref a) X.env hs') (SP X pins D) X.xe { s' with heap := h3 } := by
      intro hs' l' hk
      induction hk with
      | nil =>
        intro wo
        refine wpAny_handleBy_nil ?_
        obtain ⟨k1, k2, k3, oe, vs, TB, oT, ts', he, hz, hdd, h1, hr⟩ := id fl3
        unfold PySem.passOn
        refine wpAny_bind (wpAny_field he hdd h1 ?_)
        rw [if_neg (show ¬ ((Value.ref TB == Value.none) = true) from by simp)]
        have last : wpAny (model X.prog X.w) X.A (setFlight (.ref a) X.env.frame) (fun _ s4 => wpAny (model X.prog X.w) X.A (throw (.ref a) : Sem Flow) (SP X pins D) X.xe s4) X.xe { s' with heap := h3 } := by
          rw [efr]
          refine HandSPX.setFlight_upZ fl3 fun h4 hh4 up4 => wpAny_throw (tk _ _ ⟨a, Bs, sI, pins, τ, G, cls, d, rfl, J, nb, (up.trans up3).trans up4, .inr (.inr (by rw [est]; exact hh4)), na, os, ag, wo⟩)
        first
          | exact wpAny_bind (wpAny_pure (wpAny_bind last))
          | exact wpAny_bind last
      | @plain x c ts s0 ss p1 p2 hs2 l2 hc sok r ih =>
        intro ⟨y, hy, yes, no⟩
        refine wpAny_handleBy_cons (codeAny_handlers_test ?_) (by intro q; cases q)
        refine look hc ((PySem.W.exm_one (M := model X.prog X.w) J3.kIn LT hy).here ?_)
        cases y with
        | false =>
          show wpAny _ X.A (handleBy (.ref a) X.env hs2) _ _ _
          exact ih (no rfl)
        | true =>
          refine codeAny_handlers_suite (HandSPX.lands_againZ fl3 fun h4 fl4 up4 => ?_)
          have J4 : Inv X pins τ G { s' with heap := h4 } := J.landed nb fl4.1 ((up.trans up3).trans up4) os ag
          obtain ⟨o4, v4, e4, z4, d4⟩ := fl4.there
          refine wpAny_mono ((sok a o4 cls d (X.pn ++ pins) z4 ⟨_, d4⟩).run [] _ _ G _ (J4.suite e4 d4 na nL nF) (yes rfl a na)) (fun fl s6 z6 => ?_) (fun _ _ z => False.elim z)
          cases fl with
          | next => exact let ⟨_, _, S6, q6⟩ := z6; ⟨_, _, S6.unsuite ok, q6⟩
          | brk => exact let ⟨_, _, S6, q6⟩ := z6; ⟨_, _, S6.unsuite ok, q6⟩
          | cont => exact let ⟨_, _, S6, q6⟩ := z6; ⟨_, _, S6.unsuite ok, q6⟩
          | ret u => exact let ⟨_, _, _, S6, r6, q6⟩ := z6; ⟨_, _, _, S6.unsuite ok, r6, q6⟩
      | @named x n i c ts s0 ss p1 p2 hs2 l2 hi hn hc sok r ih =>
        intro ⟨y, hy, yes, no⟩
        refine wpAny_handleBy_cons (codeAny_handlers_test ?_) (by intro q; cases q)
        refine look hc ((PySem.W.exm_one (M := model X.prog X.w) J3.kIn LT hy).here ?_)
        cases y with
        | false =>
          show wpAny _ X.A (handleBy (.ref a) X.env hs2) _ _ _
          exact ih (no rfl)
        | true =>
          refine codeAny_handlers_suite_as (HandSPX.lands_againZ fl3 fun h4 fl4 up4 => ?_)
          have J4 : Inv X pins τ G { s' with heap := h4 } := J.landed nb fl4.1 ((up.trans up3).trans up4) os ag
          obtain ⟨o4, v4, e4, z4, d4⟩ := fl4.there
          refine store_ok (X := X.suite a ((a, o4) :: (X.pn ++ pins))) (v := .ref a) (J4.suite e4 d4 na nL nF) nd hi (.inl hn) rfl (fun s5 S5 => ?_) (.inr hn)
          refine wpAny_mono ((sok a o4 cls d (X.pn ++ pins) z4 ⟨_, d4⟩).run [] s5 _ G _ S5 (yes rfl a na)) (fun fl s6 z6 => ?_) (fun _ _ z => False.elim z)
          have off : ∀ {σ6 : L2.St} {H6 : Hp} {Q : Shared → Prop}, Inv (X.suite a ((a, o4) :: (X.pn ++ pins))) [] σ6 H6 s6 → (∀ s7, Inv X pins (σ6.set i none) H6 s7 → Q s7) →
              wpAny (model X.prog X.w) X.A (do bindName X.env n .none; unbindBehindTheSuite X.env n p2) (fun _ s7 => Q s7) X.xe s6 := fun {σ6 H6 Q} S6 q => gone_ok (S6.unsuite ok) nd hi hn q
          cases fl with
          | next => exact let ⟨_, _, S6, q6⟩ := z6; off S6 fun s7 J7 => ⟨_, _, J7, q6⟩
          | brk => exact let ⟨_, _, S6, q6⟩ := z6; off S6 fun s7 J7 => ⟨_, _, J7, q6⟩
          | cont => exact let ⟨_, _, S6, q6⟩ := z6; off S6 fun s7 J7 => ⟨_, _, J7, q6⟩
          | ret u => exact let ⟨_, _, _, S6, r6, q6⟩ := z6; off S6 fun s7 J7 => ⟨_, _, _, J7, r6, q6⟩
    exact go hh ww
  · cases fl with
    | next => exact let ⟨_, _, J', q⟩ := z; wpAny_execs_nil ⟨_, _, J'.ofTry ok, q⟩
    | brk => exact let ⟨_, _, J', q⟩ := z; ⟨_, _, J'.ofTry ok, q⟩
    | cont => exact let ⟨_, _, J', q⟩ := z; ⟨_, _, J'.ofTry ok, q⟩
    | ret u => exact let ⟨_, _, _, J', r, q⟩ := z; ⟨_, _, _, J'.ofTry ok, r, q⟩
end
end Rc

namespace Rc
open PySem PySem.Spec PyProof.Rows L2
/-! ### NoSuch -/
abbrev sNoS : Stmt := inClass (topS 10) 0
theorem txNoS : EX.Txt sNoS ["who"] :=
  ⟨by simp, by decide, rfl, rfl, rfl, by decide +kernel, rfl, rfl, rfl, fun f hf => by
      obtain rfl := List.mem_singleton.mp hf
      exact ⟨rfl, by decide, by decide⟩, by decide, ⟨_, rfl, rfl⟩,
    fun _ _ _ _ _ _ _ _ vs hl => match vs, hl with | [v], _ => rfl, ⟨_, _, _, _, _, _, _, _, rfl, ⟨_, fun _ => rfl⟩, .cons .nil⟩⟩
abbrev ClsN (P : Program) (K : PySem.W.Frag) (mg : Str → Option Value) (CN : Addr) : Prop :=
  EX.Cx' P K mg "NoSuch" sNoS ["who"] "LookupError" "LookupError.__new__" "LookupError.__init__" [.type "LookupError", .type "Exception", .type "BaseException", .type "object"] CN
/-- dead code -/
def tNot : TE := fun _ _ _ => False
theorem pe_not_here {X : Cx} {e : Expr} : PE X e tNot := ⟨fun _ _ _ _ _ _ h => h.elim⟩
section
variable {P : Program} {w : World} {K : PySem.W.Frag} {mg : Str → Option Value} {base : Heap}
/-- what is no person is refused -/
def spNo (K : PySem.W.Frag) (C CN : Addr) : Sp := fun vs H _ E => ∃ b M v d, vs = [.ref b, v] ∧ BookAt K C H b M ∧ NamesOk M.names ∧ Dt K H v d ∧ ShortD d ∧ hasD M d = false ∧
  ∀ H' dd, Same H H' → H dd = none → H' dd = some (.xd [("who", v)]) → E (.ref CN) (some dd) H'
theorem spNo_len {C CN : Addr} {a b : Str} : ∀ vs H Q E, spNo K C CN vs H Q E → vs.length = [a, b].length := fun vs H Q E h => by
  obtain ⟨_, _, _, _, rfl, _⟩ := h
  rfl
/-- a def that refuses -/
structure HasX (P : Program) (w : World) (K : PySem.W.Frag) (mg : Str → Option Value) (base : Heap) (k : Nat) (nm : Str) (ps : List Str) (sp : Sp) (f : Addr) (fd : FuncData) : Prop where
  ok : FnOk P w K mg base (L2.CX P w) k f fd ps sp
  g : mg nm = some (.ref f)
  kp : PySem.W.keepIn K (.ref f) = true
  b : Binds K fd ps []
structure HasMX (P : Program) (w : World) (K : PySem.W.Frag) (mg : Str → Option Value) (base : Heap) (C : Addr) (k : Nat) (nm : Str) (ps : List Str) (sp : Sp) (f : Addr) (fd : FuncData) : Prop where
  ok : FnOk P w K mg base (L2.CX P w) k f fd ps sp
  m : Meth K C nm f
  b : Binds K fd ps []
theorem no_place {f fh C CN : Addr} {fd fdh : FuncData} (F : Fun K "place_of" "Book.place_of" sPlace f fd) (T : ClsF K C) (N : ClsN P K mg CN) (HS : HasM P w K mg base C 2 "has" ["self", "who"] (spHas K C) fh fdh) :
    FnOk P w K mg base (L2.CX P w) 3 f fd ["self", "who"] (spNo K C CN) := by
  refine F.okX scPlace spNo_len (fun cdv A outer s H vs Q E hr h => ?_)
  obtain ⟨b, M, v, d, rfl, hb, ok, hv, hs, hn, q⟩ := h
  refine ⟨_, pss_cons (ps_if (pt_not (pt_val (pe_meth (pv 0) T.cl HS.m HS.ok hr HS.b .nil pass0 (pa_cons (pv 1) pa_nil))))
      (pss_one (ps_raise rfl (takes_of rfl rfl rfl rfl) (pmk_ex N txNoS EX.base_Lookup hr (pa_cons (pv 1) pa_nil) (by rfl)))) pss_nil) pss_never, ?_⟩
  obtain ⟨dx, tn, on, wg, ws, wd, e, h1, hn', h2, h3, h4⟩ := hb.ex
  refine ⟨.ref b, rfl, b, dx, _, rfl, e, bf_no (NoF.mk' (by decide +kernel)), v, rfl, b, M, v, d, rfl, hb, ok, hv, hs, fun H1 s1 => ⟨_, rfl, ?_⟩⟩
  rw [hn]
  refine iteT ⟨v, rfl, rfl, fun dd nd => ?_⟩
  exact q _ dd (s1.trans (same_upd nd)) (s1.free nd) upd_same
theorem no_notes {f fp C CN : Addr} {fd fdp : FuncData} (F : Fun K "notes" "Book.notes" sNotes f fd) (T : ClsF K C) (B3 : Blt3 mg) (PL : HasMX P w K mg base C 3 "place_of" ["self", "who"] (spNo K C CN) fp fdp) :
    FnOk P w K mg base (L2.CX P w) 4 f fd ["self", "who"] (spNo K C CN) := by
  refine F.okX scNotes spNo_len (fun cdv A outer s H vs Q E hr h => ?_)
  obtain ⟨b, M, v, d, rfl, hb, ok, hv, hs, hn, q⟩ := h
  refine ⟨_, pss_one (ps_ret (pe_callTy call_listD (by rfl) B3.list (by decide +kernel) (pa_cons (pe_ix ix_tupD (pe_fld (pv 0) rfl) (pe_meth (pv 0) T.cl PL.m PL.ok hr PL.b .nil (passes_call (takes_of rfl rfl rfl rfl) fun _ _ _ _ z => z) (pa_cons (pv 1) pa_nil)) (fun _ _ => rfl)) pa_nil))), ?_⟩
  obtain ⟨dx, tn, on, wg, ws, wd, e, h1, hn', h2, h3, h4⟩ := hb.ex
  exact ⟨.ref b, rfl, b, C, dx, _, _, rfl, e, T.cl, T.n3, bf_stacks, .ref b, rfl, b, dx, _, rfl, e, bf_no (NoF.mk' (by decide +kernel)), v, rfl, b, M, v, d, rfl, hb, ok, hv, hs, hn, q⟩
theorem no_pile {f fs fn C CN : Addr} {fd fds fdn : FuncData} (F : Fun K "pile" "Book.pile" sPile f fd) (T : ClsF K C) (SP : Has P w K mg base 1 "split_notes" ["notes", "fallen"] (spSplit K) fs fds)
    (NT : HasMX P w K mg base C 4 "notes" ["self", "who"] (spNo K C CN) fn fdn) : FnOk P w K mg base (L2.CX P w) 5 f fd ["self", "who"] (spNo K C CN) := by
  refine F.okX scPile spNo_len (fun cdv A outer s H vs Q E hr h => ?_)
  obtain ⟨b, M, v, d, rfl, hb, ok, hv, hs, hn, q⟩ := h
  refine ⟨_, pss_cons (ps_asg (pe_call SP.ok (hr.mono (by decide)) (by rfl) SP.g SP.kp SP.b .nil pass0 (pa_cons (pe_meth (pv 0) T.cl NT.m NT.ok hr NT.b .nil (passes_call (takes_of rfl rfl rfl rfl) fun _ _ _ _ z => z) (pa_cons (pv 1) pa_nil)) (pa_cons pe_not_here pa_nil)))
      (pg_tup rfl (pgs_cons (pg_name (i := 2) scPile.nd rfl (.inl rfl)) (pgs_cons (pg_name (i := 3) scPile.nd rfl (.inl rfl)) pgs_nil)))) pss_never, ?_⟩
  obtain ⟨dx, tn, on, wg, ws, wd, e, h1, hn', h2, h3, h4⟩ := hb.ex
  exact ⟨.ref b, rfl, b, dx, _, rfl, e, bf_no (NoF.mk' (by decide +kernel)), v, rfl, b, M, v, d, rfl, hb, ok, hv, hs, hn, q⟩
end
end Rc

namespace Rc
open PySem PySem.Spec PyProof.Rows L2
/-! ### except clauses with a tuple of classes, of any length -/
theorem any_one {K : PySem.W.Frag} {cls c : Value} {b : Bool} (h : PySem.W.exmOne K cls c = some b) : PySem.W.exmAny K cls [c] = some b := by
  unfold PySem.W.exmAny
  rw [h]
  show some (b || false) = some b
  rw [Bool.or_false]
theorem any_hit {K : PySem.W.Frag} {cls c : Value} {r : List Value} {d : Bool} (h : PySem.W.exmOne K cls c = some true) (hr : PySem.W.exmAny K cls r = some d) : PySem.W.exmAny K cls (c :: r) = some true := by
  show (match PySem.W.exmOne K cls c, PySem.W.exmAny K cls r with
    | some b, some d => some (b || d)
    | _, _ => none) = _
  rw [h, hr]
  rfl
theorem any_miss {K : PySem.W.Frag} {cls c : Value} {r : List Value} {d : Bool} (h : PySem.W.exmOne K cls c = some false) (hr : PySem.W.exmAny K cls r = some d) : PySem.W.exmAny K cls (c :: r) = some d := by
  show (match PySem.W.exmOne K cls c, PySem.W.exmAny K cls r with
    | some b, some d => some (b || d)
    | _, _ => none) = _
  rw [h, hr]
  rfl
section
variable {M : Model} {K : PySem.W.Frag} {A : Around} {E : Value → Shared → Prop} {s : Shared}
theorem loop_unit {cs : List Value} {body : Value → PUnit → Sem (ForInStep PUnit)} {Q : PUnit → Shared → Prop} (hb : ∀ c ∈ cs, ∀ R : ForInStep PUnit → Shared → Prop, R (.yield .unit) s → wpAny M A (body c .unit) R E s) (q : Q .unit s) :
    wpAny M A (forIn cs PUnit.unit body) Q E s := by
  induction cs with
  | nil => rw [List.forIn_nil]; exact wpAny_pure q
  | cons c r ih =>
    rw [List.forIn_cons]
    refine wpAny_bind (hb c (.head _) _ ?_)
    exact ih fun c' m => hb c' (.tail _ m)
theorem loop_any {cls : Value} {cs : List Value} {b : Bool} {body : Value → Option Bool × PUnit → Sem (ForInStep (Option Bool × PUnit))} {Q : Option Bool × PUnit → Shared → Prop} (hx : PySem.W.exmAny K cls cs = some b)
    (hb : ∀ c ∈ cs, ∀ d, PySem.W.exmOne K cls c = some d → ∀ R : ForInStep (Option Bool × PUnit) → Shared → Prop, R (if d = true then .done (some true, .unit) else .yield (none, .unit)) s → wpAny M A (body c (none, .unit)) R E s)
    (q : Q (if b = true then some true else none, .unit) s) : wpAny M A (forIn cs ((none, PUnit.unit) : Option Bool × PUnit) body) Q E s := by
  induction cs generalizing b with
  | nil =>
    rw [List.forIn_nil]
    cases (show some false = some b from hx)
    exact wpAny_pure q
  | cons c r ih =>
    obtain ⟨b1, d1, x1, y1, z1⟩ := PySem.W.exmAny_cons hx
    subst z1
    rw [List.forIn_cons]
    refine wpAny_bind (hb c (.head _) b1 x1 _ ?_)
    cases b1 with
    | true => exact wpAny_pure q
    | false => exact ih y1 (fun c' m => hb c' (.tail _ m)) q
theorem exm_list {cs : List Value} {cls : Value} {tp e : Addr} {b : Bool} {h : Heap} (X : K.In h) (LT : PySem.W.Looks M h (typeOf (.ref e)) cls) (hp : h.get? tp = some { cls := .type "tuple", data := .seq cs.toArray }) (hx : PySem.W.exmAny K cls cs = some b) :
    PySem.W.Looks M h (excMatches (.ref e) (.ref tp)) b := by
  have all : ∀ c ∈ cs, ∃ d, PySem.W.exmOne K cls c = some d := by
    clear hp
    induction cs generalizing b with
    | nil => exact fun c m => nomatch m
    | cons c0 r ih =>
      obtain ⟨b1, d1, x1, y1, z1⟩ := PySem.W.exmAny_cons hx
      intro c m
      cases m with
      | head => exact ⟨b1, x1⟩
      | tail _ m => exact ih y1 c m
  intro A Q E s k q
  have LT0 : PySem.W.Looks M h (isInstance (.ref tp) (.type "tuple")) true := ((PySem.W.Looks.ld hp).andThen .now).andThen (PySem.W.Looks.of_pure isSubtype_tuple_tuple)
  have LT1 := LT.keeps k
  have LT0 := LT0.keeps k
  have hp' := k _ _ hp
  unfold excMatches
  refine wpAny_bind (LT0.at ?_)
  dsimp only
  rw [if_pos rfl]
  first
    | refine wpAny_bind (wpAny_seqItems hp' rfl ?_)
    | refine wpAny_bind (wpAny_bind (wpAny_seqItems hp' rfl (wpAny_pure ?_)))
  dsimp only [Option.getD_some, Option.getD]
  first
    | refine wpAny_bind (wpAny_pure (wpAny_bind (loop_unit (cs := cs) (fun c m R r => ?_) ?_)))
    | refine wpAny_pure (wpAny_bind (loop_unit (cs := cs) (fun c m R r => ?_) ?_))
    | refine wpAny_bind (loop_unit (cs := cs) (fun c m R r => ?_) ?_)
  · obtain ⟨d, x⟩ := all c m
    obtain ⟨e1, _⟩ := PySem.W.exm_cls (M := M) X x
    refine wpAny_bind ((e1.keeps k).at ?_)
    simp only [Bool.not_true, Bool.false_eq_true, if_false]
    first
      | exact wpAny_pure r
      | exact wpAny_bind (wpAny_pure (wpAny_pure r))
      | exact wpAny_bind (wpAny_pure r)
  · refine wpAny_bind (LT1.at ?_)
    refine wpAny_bind (loop_any (cls := cls) (cs := cs) hx (fun c m d x R r => ?_) ?_)
    · obtain ⟨_, S1⟩ := PySem.W.exm_cls (M := M) X x
      refine wpAny_bind ((S1.keeps k).at ?_)
      cases d <;> exact wpAny_pure r
    · cases b <;> exact wpAny_pure q
end

def wMixT (K : PySem.W.Frag) (Wo : WX) (D : Ends) : List (List Value × Option Nat × Suite) → WX
  | [] => Wo
  | (c, none, ts) :: r => fun cls d σ H => ∃ y, PySem.W.exmAny K cls c = some y ∧ (y = true → ∀ a, H a = none → ts a cls d D σ H) ∧ (y = false → wMixT K Wo D r cls d σ H)
  | (c, some i, ts) :: r => fun cls d σ H => ∃ y, PySem.W.exmAny K cls c = some y ∧ (y = true → ∀ a, H a = none → ts a cls d (offD i D) (σ.set i (some (.ref a))) H) ∧ (y = false → wMixT K Wo D r cls d σ H)
/-- the names of a tuple -/
inductive NamesL (X : Cx) : List Expr → List Value → Prop
  | nil : NamesL X [] []
  | cons {x : Str} {c : Value} {p : Pos} {es : List Expr} {cs : List Value} (hc : Names X x c) (r : NamesL X es cs) : NamesL X (.Name x p :: es) (c :: cs)
inductive SpecX (X : Cx) : Expr → List Value → Prop
  | one {x : Str} {c : Value} {p : Pos} (hc : Names X x c) : SpecX X (.Name x p) [c]
  | many {es : List Expr} {cs : List Value} {k : Nat} {p : Pos} (h : NamesL X es cs) (hl : cs.length ≤ sizeLine) : SpecX X (.Tuple es k p) cs
/-- a suite, the caught one not of the base -/
abbrev SuiteOkB (X : Cx) (ss : List Stmt) (ts : Suite) : Prop := ∀ (a : Addr) (oe : Obj) (cls : Value) (d : Option Addr) (pn : List (Addr × Obj)), X.base.get? a = none → Zc cls d oe → (∃ vs, oe.data = .fields vs) → PSs (X.suite a ((a, oe) :: pn)) ss (ts a cls d)
inductive HdsT (X : Cx) : List ExceptHandler → List (List Value × Option Nat × Suite) → Prop
  | nil : HdsT X [] []
  | plain {t : Expr} {c : List Value} {ts : Suite} {s0 : Stmt} {ss : List Stmt} {p2 : Pos} {hs : List ExceptHandler} {l : List (List Value × Option Nat × Suite)} (hc : SpecX X t c) (ok : SuiteOkB X (s0 :: ss) ts) (r : HdsT X hs l) :
      HdsT X (.ExceptHandler (some t) none (s0 :: ss) p2 :: hs) ((c, none, ts) :: l)
  | named {t : Expr} {n : Str} {i : Nat} {c : List Value} {ts : Suite} {s0 : Stmt} {ss : List Stmt} {p2 : Pos} {hs : List ExceptHandler} {l : List (List Value × Option Nat × Suite)} (hi : X.N[i]? = some n) (hn : X.env.kindOf n = some .local) (hc : SpecX X t c) (ok : SuiteOkB X (s0 :: ss) ts) (r : HdsT X hs l) :
      HdsT X (.ExceptHandler (some t) (some n) (s0 :: ss) p2 :: hs) ((c, some i, ts) :: l)
theorem fly_push {base h : Heap} {l : List Env} {e : Addr} {Z : Obj → Prop} {o : Obj} (x : HandSPX.FlyingZ base l e Z h) : HandSPX.FlyingZ base l e Z (h.push o) := by
  obtain ⟨f1, f2, f3, oe, vs, T, oT, ts, he, hz, hd, h1, hnT, hTe, hT, hdT, h3⟩ := x
  exact ⟨fun b o e => Heap.get?_push_of_some _ (f1 b o e), f2, f3.of_keeps fun b o e _ => ⟨o, Heap.get?_push_of_some _ e, rfl⟩, oe, vs, T, oT, ts, Heap.get?_push_of_some _ he, hz, hd, h1, hnT, hTe, Heap.get?_push_of_some _ hT, hdT, h3⟩
theorem up_push {h h' : Heap} {o : Obj} (u : h.UpToSlots h') : h.UpToSlots (h'.push o) := u.trans (Heap.UpToSlots.of_keeps fun b o e => Heap.get?_push_of_some _ e)
theorem kp_push {h : Heap} {o : Obj} : ∀ b u, h.get? b = some u → (h.push o).get? b = some u := fun _ _ e => Heap.get?_push_of_some _ e
section
variable {X : Cx} {body : List Stmt} {hd : ExceptHandler} {hds : List ExceptHandler} {l : List (List Value × Option Nat × Suite)} {pos : Pos} {tb : WX → TS} {Wo : WX}
/-- the names of a tuple are looked up -/
theorem names_run {A : Around} {E : Value → Shared → Prop} {s : Shared} {env : Env} {p : Pos} (look : ∀ {x : Str} {c : Value} {np : Pos} {Q : Value → Shared → Prop}, Names X x c → Q c s → wpAny (model X.prog X.w) A (eval (.Name x np) env) Q E s) :
    ∀ {es : List Expr} {cs : List Value}, NamesL X es cs → ∀ {Q : List Value → Shared → Prop}, Q cs s → wpAny (model X.prog X.w) A (spliced (backTo p (starEach es env))) Q E s := by
  intro es cs h
  induction h with
  | nil => exact fun q => wpAny_items_nil q
  | cons hc r ih => exact fun q => wpAny_items_cons (look hc (ih q))
theorem ps_try_mixT (est : X.stack = X.env :: X.outer) (efr : X.env.frame = some X.env.locals) (nd : X.N.Nodup) (tk : Takes X Wo)
    (hb : ∀ (W : WX) (pn : List (Addr × Obj)) (xe : Value → Shared → Prop), Takes (X.tr pn xe) W → PassesOwn (model X.prog X.w) X.A X.env xe → PSs (X.tr pn xe) body (tb W))
    (hh : HdsT X (hd :: hds) l) : PS X (.Try body (hd :: hds) [] [] pos) (fun D σ H => tb (wMixT X.K Wo D l) D σ H) := by
  refine ⟨fun pins s σ H D I hw => ?_⟩
  have ok := I.ok
  have frs1 : X.A.frames = some (X.env :: X.outer) := ok.frames.trans (congrArg some est)
  refine wpAny_Try_except (wpAny_mono ((hb (wMixT X.K Wo D l) (X.pn ++ pins) (fun u s1 => wpAny (model X.prog X.w) X.A (noteFrame u X.env) (fun _ s2 => wpAny (model X.prog X.w) X.A (setFlight u none) (fun _ s3 =>
    wpAny (model X.prog X.w) X.A (handleBy u X.env (hd :: hds)) (SP X pins D) X.xe s3) X.xe s2) X.xe s1) (fun u s' z => ?_) PassesOwn.looking).run [] s σ H D (I.toTry _) hw) (fun fl s1 z => ?_) (fun _ _ z => z))
  · obtain ⟨a, Bs, sI, pins', τ, G, cls, d, rfl, J', nb, up, sky, na, os, ag, ww⟩ := z
    have J : Inv X pins τ G sI := J'.ofTry ok
    have sky1 : Sky Bs (X.env :: X.outer) a (Zc cls d) X.env.locals s'.heap := est ▸ sky
    show wpAny (model X.prog X.w) X.A (noteFrame (.ref a) X.env) _ _ _
    refine Sky.land Zc.steady frs1 efr sky1 fun h3 fl3 up3 => ?_
    have off : ∀ {h5 : Heap} {o4 : Obj} {v4 : Array Value}, HandSPX.FlyingZ Bs (X.env :: X.outer) a (Zc cls d) h5 → h5.get? a = some o4 → o4.data = .fields v4 → a ≠ X.env.locals ∧ a ∉ X.fs := fun {h5 o4 v4} fl5 e4 d4 => by
      have nfr : a ∉ frs (X.env :: X.outer) := fun hm => by
        obtain ⟨_, o', e', no'⟩ := fl5.2.2.1.mem hm
        rw [e4] at e'
        cases e'
        exact no' _ d4
      refine ⟨fun y => nfr (List.mem_filterMap.mpr ⟨X.env, List.mem_cons_self, by rw [efr, y]⟩), fun hm => ?_⟩
      obtain ⟨e, he, q⟩ := List.mem_filterMap.mp hm
      exact nfr (List.mem_filterMap.mpr ⟨e, .tail _ he, q⟩)
    have nB : ∀ {h5 : Heap}, HandSPX.FlyingZ Bs (X.env :: X.outer) a (Zc cls d) h5 → X.base.get? a = none := fun {h5} fl5 => by
      cases e : X.base.get? a with
      | none => rfl
      | some o =>
        have h1 := (J.bs a o e).1
        have nf : a ∉ frs X.stack := fun hm => by
          rcases List.mem_cons.mp (J.stkSub a hm) with z | z
          · have lt : a < X.base.objs.size := Heap.lt_size e
            have le := Nat.le_trans ok.bsz ok.above
            rw [z] at lt
            exact absurd lt (Nat.not_lt.mpr le)
          · exact ok.nofr e z
        have h2 := nb a o h1 nf
        rw [fl5.2.1] at h2
        cases h2
    have look : ∀ {h3 : Heap} {x : Str} {c : Value} {np : Pos} {Q : Value → Shared → Prop} {E : Value → Shared → Prop}, HandSPX.FlyingZ Bs (X.env :: X.outer) a (Zc cls d) h3 → sI.heap.UpToSlots h3 → Names X x c → Q c { s' with heap := h3 } → wpAny (model X.prog X.w) (X.A.mark (some (.ref a))) (eval (.Name x np) X.env) Q E { s' with heap := h3 } := fun {h3 x c np Q E} fl3 up3 hc q => by
      have J3 : Inv X pins τ G { s' with heap := h3 } := J.landed nb fl3.1 up3 os ag
      obtain ⟨o3, v3, e3, z3, d3⟩ := fl3.there
      obtain ⟨nL, nF⟩ := off fl3 e3 d3
      have S3 := J3.suite e3 d3 na nL nF
      obtain ⟨hg, hdb, hm | ⟨hm, hv, hnn⟩⟩ := hc
      · exact ld_glob (X := X.suite a ((a, o3) :: (X.pn ++ pins))) S3 hg hm q hdb
      · exact ld_blt (X := X.suite a ((a, o3) :: (X.pn ++ pins))) S3 hg hm hv q hnn hdb
    have test : ∀ {h3 : Heap} {t : Expr} {c : List Value} {y : Bool} {Q : Bool → Shared → Prop} {E E' : Value → Shared → Prop}, HandSPX.FlyingZ Bs (X.env :: X.outer) a (Zc cls d) h3 → sI.heap.UpToSlots h3 → SpecX X t c → PySem.W.exmAny X.K cls c = some y →
        (∀ h4, HandSPX.FlyingZ Bs (X.env :: X.outer) a (Zc cls d) h4 → sI.heap.UpToSlots h4 → Q y { s' with heap := h4 }) →
        wpAny (model X.prog X.w) (X.A.mark (some (.ref a))) (eval t X.env) (fun u s1 => wpAny (model X.prog X.w) (X.A.mark (some (.ref a))) (excMatches (.ref a) u) Q E s1) E' { s' with heap := h3 } := fun {h3 t c y Q E E'} fl3 up3 hc hy q => by
      have J3 : Inv X pins τ G { s' with heap := h3 } := J.landed nb fl3.1 up3 os ag
      obtain ⟨o3, v3, e3, z3, d3⟩ := fl3.there
      have LT : PySem.W.Looks (model X.prog X.w) h3 (typeOf (.ref a)) cls := fun A Q E s k q => wpAny_typeOf_ref (k _ _ e3) (by rw [z3.1]; exact q)
      cases hc with
      | @one x c p hc =>
        obtain ⟨b1, d1, x1, y1, z1⟩ := PySem.W.exmAny_cons hy
        cases (show some false = some d1 from y1)
        have e1 : PySem.W.exmOne X.K cls c = some y := by rw [x1, z1, Bool.or_false]
        exact look fl3 up3 hc ((PySem.W.exm_one (M := model X.prog X.w) J3.kIn LT e1).here (q h3 fl3 up3))
      | @many es cs k p hn hl =>
        refine wpAny_Tuple (names_run (fun hc q => look fl3 up3 hc q) hn ⟨hl, ?_⟩)
        exact (exm_list (M := model X.prog X.w) (J3.kIn.keeps kp_push) (LT.keeps kp_push) (Heap.get?_push_size _ rfl) hy).here (q _ (fly_push fl3) (up_push up3))
    have go : ∀ {hs' : List ExceptHandler} {l' : List (List Value × Option Nat × Suite)}, HdsT X hs' l' → wMixT X.K Wo D l' cls d τ G → ∀ h3, HandSPX.FlyingZ Bs (X.env :: X.outer) a (Zc cls d) h3 → sI.heap.UpToSlots h3 → wpAny (model X.prog X.w) X.A (handleBy (.ref a) X.env hs') (SP X pins D) X.xe { s' with heap := h3 } := by
      intro hs' l' hk
      induction hk with
      | nil =>
        intro wo h3 fl3 up3
        have J3 : Inv X pins τ G { s' with heap := h3 } := J.landed nb fl3.1 up3 os ag
        refine wpAny_handleBy_nil ?_
        obtain ⟨k1, k2, k3, oe, vs, TB, oT, ts', he, hz, hdd, h1, hr⟩ := id fl3
        unfold PySem.passOn
        refine wpAny_bind (wpAny_field he hdd h1 ?_)
        rw [if_neg (show ¬ ((Value.ref TB == Value.none) = true) from by simp)]
        have last : wpAny (model X.prog X.w) X.A (setFlight (.ref a) X.env.frame) (fun _ s4 => wpAny (model X.prog X.w) X.A (throw (.ref a) : Sem Flow) (SP X pins D) X.xe s4) X.xe { s' with heap := h3 } := by
          rw [efr]
          refine HandSPX.setFlight_upZ fl3 fun h4 hh4 up4 => wpAny_throw (tk _ _ ⟨a, Bs, sI, pins, τ, G, cls, d, rfl, J, nb, up3.trans up4, .inr (.inr (by rw [est]; exact hh4)), na, os, ag, wo⟩)
        first
          | exact wpAny_bind (wpAny_pure (wpAny_bind last))
          | exact wpAny_bind last
      | @plain t c ts s0 ss p2 hs2 l2 hc sok r ih =>
        intro ⟨y, hy, yes, no⟩ h3 fl3 up3
        refine wpAny_handleBy_cons (codeAny_handlers_test ?_) (by intro q; cases q)
        refine test fl3 up3 hc hy fun h4 fl4 up4 => ?_
        cases y with
        | false =>
          show wpAny _ X.A (handleBy (.ref a) X.env hs2) _ _ _
          exact ih (no rfl) h4 fl4 up4
        | true =>
          refine codeAny_handlers_suite (HandSPX.lands_againZ fl4 fun h5 fl5 up5 => ?_)
          obtain ⟨o4, v4, e4, z4, d4⟩ := fl5.there
          have J4 : Inv X pins τ G { s' with heap := h5 } := J.landed nb fl5.1 (up4.trans up5) os ag
          obtain ⟨nL, nF⟩ := off fl5 e4 d4
          refine wpAny_mono ((sok a o4 cls d (X.pn ++ pins) (nB fl5) z4 ⟨_, d4⟩).run [] _ _ G _ (J4.suite e4 d4 na nL nF) (yes rfl a na)) (fun fl s6 z6 => ?_) (fun _ _ z => False.elim z)
          cases fl with
          | next => exact let ⟨_, _, S6, q6⟩ := z6; ⟨_, _, S6.unsuite ok, q6⟩
          | brk => exact let ⟨_, _, S6, q6⟩ := z6; ⟨_, _, S6.unsuite ok, q6⟩
          | cont => exact let ⟨_, _, S6, q6⟩ := z6; ⟨_, _, S6.unsuite ok, q6⟩
          | ret u => exact let ⟨_, _, _, S6, r6, q6⟩ := z6; ⟨_, _, _, S6.unsuite ok, r6, q6⟩
      | @named t n i c ts s0 ss p2 hs2 l2 hi hn hc sok r ih =>
        intro ⟨y, hy, yes, no⟩ h3 fl3 up3
        refine wpAny_handleBy_cons (codeAny_handlers_test ?_) (by intro q; cases q)
        refine test fl3 up3 hc hy fun h4 fl4 up4 => ?_
        cases y with
        | false =>
          show wpAny _ X.A (handleBy (.ref a) X.env hs2) _ _ _
          exact ih (no rfl) h4 fl4 up4
        | true =>
          refine codeAny_handlers_suite_as (HandSPX.lands_againZ fl4 fun h5 fl5 up5 => ?_)
          obtain ⟨o4, v4, e4, z4, d4⟩ := fl5.there
          have J4 : Inv X pins τ G { s' with heap := h5 } := J.landed nb fl5.1 (up4.trans up5) os ag
          obtain ⟨nL, nF⟩ := off fl5 e4 d4
          refine store_ok (X := X.suite a ((a, o4) :: (X.pn ++ pins))) (v := .ref a) (J4.suite e4 d4 na nL nF) nd hi (.inl hn) rfl (fun s5 S5 => ?_) (.inr hn)
          refine wpAny_mono ((sok a o4 cls d (X.pn ++ pins) (nB fl5) z4 ⟨_, d4⟩).run [] s5 _ G _ S5 (yes rfl a na)) (fun fl s6 z6 => ?_) (fun _ _ z => False.elim z)
          have off : ∀ {σ6 : L2.St} {H6 : Hp} {Q : Shared → Prop}, Inv (X.suite a ((a, o4) :: (X.pn ++ pins))) [] σ6 H6 s6 → (∀ s7, Inv X pins (σ6.set i none) H6 s7 → Q s7) →
              wpAny (model X.prog X.w) X.A (do bindName X.env n .none; unbindBehindTheSuite X.env n p2) (fun _ s7 => Q s7) X.xe s6 := fun {σ6 H6 Q} S6 q => gone_ok (S6.unsuite ok) nd hi hn q
          cases fl with
          | next => exact let ⟨_, _, S6, q6⟩ := z6; off S6 fun s7 J7 => ⟨_, _, J7, q6⟩
          | brk => exact let ⟨_, _, S6, q6⟩ := z6; off S6 fun s7 J7 => ⟨_, _, J7, q6⟩
          | cont => exact let ⟨_, _, S6, q6⟩ := z6; off S6 fun s7 J7 => ⟨_, _, J7, q6⟩
          | ret u => exact let ⟨_, _, _, S6, r6, q6⟩ := z6; off S6 fun s7 J7 => ⟨_, _, _, J7, r6, q6⟩
    exact go hh ww h3 fl3 (up.trans up3)
  · cases fl with
    | next => exact let ⟨_, _, J', q⟩ := z; wpAny_execs_nil ⟨_, _, J'.ofTry ok, q⟩
    | brk => exact let ⟨_, _, J', q⟩ := z; ⟨_, _, J'.ofTry ok, q⟩
    | cont => exact let ⟨_, _, J', q⟩ := z; ⟨_, _, J'.ofTry ok, q⟩
    | ret u => exact let ⟨_, _, _, J', r, q⟩ := z; ⟨_, _, _, J'.ofTry ok, r, q⟩
end
end Rc

namespace Rc
open PySem PySem.Spec PyProof.Rows L2
/-! ### a caught exception handed to a def -/
/-- the caught one, as it is told to a callee -/
abbrev TX (oe : Obj) (a : Addr) : HO := .frz oe (.own a)
section
variable {X : Cx} {pins pn : List (Addr × Obj)} {σ : L2.St} {H : Hp} {s s' : Shared} {a : Addr} {oe : Obj}
theorem tx_pin (I : Inv (X.suite a ((a, oe) :: pn)) pins σ H s) : s.heap.get? a = some oe ∧ H a = none ∧ a ≠ X.env.locals ∧ a ∉ X.fs := by
  obtain ⟨p1, p2, p3, p4, _⟩ := I.pin (a, oe) (List.mem_append_left _ List.mem_cons_self)
  exact ⟨p1, p2, p3, p4⟩
theorem tx_nofr (I : Inv (X.suite a ((a, oe) :: pn)) pins σ H s) : a ∉ frs X.stack := fun hm => by
  obtain ⟨_, _, p3, p4⟩ := tx_pin I
  rcases List.mem_cons.mp (I.stkSub a hm) with e | h
  · exact p3 e
  · exact p4 h
theorem tx_env (hB : X.base.get? a = none) (I : Inv (X.suite a ((a, oe) :: pn)) pins σ H s) : Env0 X.prog X.w X.K X.mg X.base (X.suite a ((a, oe) :: pn)).A X.stack s (upd H a (TX oe a)) := by
  obtain ⟨p1, p2, p3, p4⟩ := tx_pin I
  have e := I.env0
  refine ⟨e.frames, e.mod, fun b o q => ?_, e.bsz, e.funs, fun b hb => ?_, fun b o q => ?_, e.bare⟩
  · have ne : b ≠ a := fun z => by rw [z, hB] at q; cases q
    exact ⟨(e.bs b o q).1, by rw [upd_ne ne]; exact (e.bs b o q).2⟩
  · have ne : b ≠ a := fun z => tx_nofr I (z ▸ hb)
    rw [upd_ne ne]
    exact e.frf b hb
  · by_cases hb : b = a
    · subst hb
      rw [upd_same] at q
      cases q
      exact ⟨p1, oe, p1⟩
    · rw [upd_ne hb] at q
      exact (I.hok b o q).stay (fun _ _ _ z => z) (fun c z => by rw [upd_ne (ne_of_none z p2)]; exact z) fun c xs z => by rw [upd_ne (ne_of_none z p2)]; exact z
theorem tx_after {Q : VK} {u : Value} (I : Inv (X.suite a ((a, oe) :: pn)) pins σ H s) (h : CE X.stack X.prog X.w (upd H a (TX oe a)) s (fun v H2 => Q v (delH H2 a)) u s') : EP (X.suite a ((a, oe) :: pn)) pins σ Q u s' := by
  obtain ⟨p1, p2, p3, p4⟩ := tx_pin I
  have nfr := tx_nofr I
  obtain ⟨v, H', os, bare, un, hok, r, q⟩ := h
  have hF : H' a = some (TX oe a) := un.frzs a oe (.own a) upd_same
  have hA : s'.heap.get? a = some oe := (hok a _ hF).1
  have nA : ∀ {b : Addr} {o : HO}, H b = some o → b ≠ a := fun {b o} e z => by rw [z, p2] at e; cases e
  have un2 : Un (frs X.stack) [] H (delH H' a) s.heap s'.heap := by
    refine ⟨fun b o e n hb hx => ?_, fun b o e n hb hx => ?_, fun b o e n hx => ?_, un.there, fun b xs e => ?_, fun b o u e => ?_, fun b ps e => ?_⟩
    · by_cases z : b = a
      · subst z
        rw [p1] at e
        cases e
        exact hA
      · exact un.keep b o e (by rw [upd_ne z]; exact n) hb hx
    · have z : b ≠ a := fun z => nfr (z ▸ hb)
      exact un.slot b o e (by rw [upd_ne z]; exact n) hb hx
    · by_cases z : b = a
      · rw [z, delH_same]
      · rw [delH_ne z]
        exact un.free b o e (by rw [upd_ne z]; exact n) hx
    · rw [delH_ne (nA e)]
      exact un.tups b xs (by rw [upd_ne (nA e)]; exact e)
    · rw [delH_ne (nA e)]
      exact un.frzs b o u (by rw [upd_ne (nA e)]; exact e)
    · rw [delH_ne (nA e)]
      exact un.tbls b ps (by rw [upd_ne (nA e)]; exact e)
  have hok2 : HOk X.prog X.w (delH H' a) s'.heap := fun b o e => by
    have hb : b ≠ a := fun z => by
      rw [z, delH_same] at e
      cases e
    rw [delH_ne hb] at e
    refine (hok b o e).stay (fun _ _ _ z => z) (fun c z => ?_) fun c xs z => ?_
    · rw [delH_ne (fun y => by rw [y, hF] at z; cases z)]
      exact z
    · rw [delH_ne (fun y => by rw [y, hF] at z; cases z)]
      exact z
  obtain ⟨hh, g, d, t, os'⟩ := s'
  obtain rfl : os' = s.os := os
  exact ⟨v, delH H' a, I.call (h' := hh) (g' := g) (d' := d) (t' := t) (ch := []) un2 hok2 bare (fun b z => absurd z (by simp)), r, q⟩
def tCallX (sp : Sp) (a : Addr) (oe : Obj) (E : XK) (t : TA) : TE := fun σ H Q => t σ H fun vs H1 => sp vs (upd H1 a (TX oe a)) (fun v H2 => Q v (delH H2 a)) E
theorem pe_callX {k : Nat} {f : Addr} {fd : FuncData} {ps : List Str} {sp : Sp} {E : XK} {x : Str} {p pos : Pos} {e : Expr} {es : List Expr} {t : TA} (hB : X.base.get? a = none) (F : FnOk X.prog X.w X.K X.mg X.base CX0 k f fd ps sp) (hr : Room k (X.suite a ((a, oe) :: pn)).A) (hg : Gl X x) (hm : X.mg x = some (.ref f)) (hk : PySem.W.keepIn X.K (.ref f) = true) (hb : Binds X.K fd ps [])
    (ha : PA (X.suite a ((a, oe) :: pn)) (e :: es) t) (hdb : (x == ("__debug__" : Str)) = false := by decide) (he : starEach (e :: es) X.env = (false, eval e X.env) :: starEach es X.env := by rfl) (hpl : (backTo pos (starEach es X.env)).any (·.1) = false := by rfl) :
    PE (X.suite a ((a, oe) :: pn)) (.Call (.Name x p) (e :: es) [] pos) (tCallX sp a oe E t) := by
  refine ⟨fun pins s σ H Q I h => ?_⟩
  refine wpAny_Call_Name_kw (ld_glob I hg hm ?_ hdb)
  refine PySem.W.callWith_K (h₀ := X.base) I.ok.mod.kin hk (thn (ha.run pos pins s σ H _ I h) fun us s1 ⟨vs, H1, I1, r, q⟩ => ⟨I1.kIn, ?_⟩) he hpl
  have hl : us.length = ps.length := by rw [← r.length]; exact F.len _ _ _ _ q
  have b := hb s1 us I1.kIn (by rw [List.append_nil]; exact hl)
  rw [List.append_nil] at b
  refine wpAny_call (codeAny_mono (F.run (X.suite a ((a, oe) :: pn)).A X.stack s1 _ ⟨us, []⟩ us vs _ E hr (tx_env hB I1) b r q) fun r s' hq => ?_)
  cases r with
  | error e => exact False.elim hq
  | ok fl =>
    cases fl with
    | ret u => exact tx_after I1 hq
    | next => exact False.elim hq
    | brk => exact False.elim hq
    | cont => exact False.elim hq
theorem delH_upd {H : Hp} {a b : Addr} {o : HO} (h : b ≠ a) : delH (upd H b o) a = upd (delH H a) b o := by
  funext c
  by_cases e : c = a
  · subst e
    rw [delH_same, upd_ne (Ne.symm h), delH_same]
  · rw [delH_ne e]
    by_cases e2 : c = b
    · subst e2
      rw [upd_same, upd_same]
    · rw [upd_ne e2, upd_ne e2, delH_ne e]
end
/-! in the callee -/
/-- what stands at a is one of the class D with (or without) a dict -/
def IsX (H : Hp) (a D : Addr) : Prop := ∃ (oe : Obj) (d : Option Addr), H a = some (TX oe a) ∧ Zc (.ref D) d oe ∧ (∃ vs, oe.data = .fields vs) ∧ ∀ dd, d = some dd → ∃ fs, H dd = some (.xd fs)
section
variable {X : Cx}
theorem isx_at {pins : List (Addr × Obj)} {σ : L2.St} {H : Hp} {s : Shared} {a D : Addr} (I : Inv X pins σ H s) (h : IsX H a D) : ∃ oe od, PySem.W.InstAt s.heap a oe D od := by
  obtain ⟨oe, d, ha, hz, ⟨vs, hv⟩, hd⟩ := h
  have hget : s.heap.get? a = some oe := (I.hok a _ ha).1
  cases d with
  | none =>
    refine ⟨oe, none, ?_⟩
    obtain ⟨oc, od, oda, osl⟩ := oe
    obtain ⟨h1, h2⟩ := hz
    dsimp only at h1 h2 hv
    subst h1 h2 hv
    exact ⟨hget, rfl, rfl, trivial⟩
  | some dd =>
    obtain ⟨fs, hfs⟩ := hd dd rfl
    have hx : ObjOk X.prog X.w H s.heap dd (.xd fs) := I.hok dd _ hfs
    obtain ⟨mA, ⟨od, es, ep, hod, _⟩, _⟩ := hx
    obtain ⟨h1, h2⟩ := hz
    exact ⟨oe, some od, hget, h1, by unfold PySem.W.notCls; rw [hv] <;> rfl, by rw [h2]; exact hod⟩
/-- isinstance(e, c) -/
def rIsT (K : PySem.W.Frag) (a D : Addr) : List V → Hp → VK → Prop := fun xs H Q => ∃ (c : V) (cv : Value) (b : Bool), xs = [.ref a, c] ∧ (∀ u, RelV c u → u = cv) ∧ PySem.W.kitOne K (.ref D) cv = some b ∧ IsX H a D ∧ Q (.bl b) H
theorem call_isT {K : PySem.W.Frag} {a D : Addr} (eK : X.K = K) (C : ExcC K D) : CallR X (.builtin "isinstance") (rIsT K a D) := by
  subst eK
  intro pins s σ H xs us Q I r h
  obtain ⟨c, cv, b, rfl, hcv, e, hi, q⟩ := h
  cases r with
  | cons rx rr =>
    cases rr with
    | cons rt rr =>
      cases rr
      cases rx
      have ec := hcv _ rt
      subst ec
      obtain ⟨oe, od, J⟩ := isx_at I hi
      obtain ⟨cdD, hcD, _⟩ := PySem.W.any_some C.hd
      exact PySem.W.kia_one (PySem.W.kitx_exc (by rw [hcD]; rfl) C.hg C.hk C.hs C.ha C.hn C.ht C.hm) I.kIn J e (fun z => nomatch z) fun tk => ⟨.bl b, H, I.kept (t' := tk) fun _ _ z => z, rfl, q⟩
/-- e.f -/
def tXt (a C : Addr) (f : Str) (te : TE) : TE := fun σ H Q => te σ H fun x H1 => x = .ref a ∧ ∃ (oe : Obj) (dd : Addr) (fs : List (Str × V)) (v : V), H1 a = some (TX oe a) ∧ Zc (.ref C) (some dd) oe ∧ (∃ vs, oe.data = .fields vs) ∧ H1 dd = some (.xd fs) ∧ fs.lookup f = some v ∧ Q v H1
theorem pe_xt {a C : Addr} {e : Expr} {te : TE} {pos : Pos} {n : Str} (T : XfC X.K C) (hno : PySem.W.findIn X.K (.ref C) n = some none)
    (he : PE X e te) (hb : attributeBase e n X.env (eval e X.env) = eval e X.env := by rfl) : PE X (.Attribute e n pos) (tXt a C n te) := by
  refine ⟨fun pins s σ H Q I h => ?_⟩
  refine attr_of hb (thn (he.run pins s σ H _ I h) fun u s1 hh => ?_)
  obtain ⟨x, H1, I1, rx, ex, oe, dd, fs, v, ha, hz, ⟨vs, hd⟩, ea, l, q⟩ := hh
  subst ex
  obtain rfl : u = Value.ref a := rx
  have hget : s1.heap.get? a = some oe := (I1.hok a _ ha).1
  have hx : ObjOk X.prog X.w H1 s1.heap dd (.xd fs) := I1.hok dd _ ea
  obtain ⟨mA, hns, hr⟩ := hx
  obtain ⟨od, ho, hl⟩ := lookIn_ns hns
  obtain ⟨u, hu, ru⟩ := RelO.some_of (v := v) (o := mA n) (by rw [← l]; exact hr n)
  have J : PySem.W.InstAt s1.heap a oe C (some od) := ⟨hget, hz.1, by unfold PySem.W.notCls; rw [hd] <;> rfl, by rw [hz.2]; exact ho⟩
  exact HandSPX.exc_get I1.kIn J T.ga T.gg T.exC (PySem.W.findObj_own T.hdC hno rfl (by rw [hl, hu])) (handed_of ru) ⟨v, H1, I1.tok _, ru, q⟩
end
end Rc

namespace Rc
open PySem PySem.Spec PyProof.Rows L2
/-! ### an exception as a value -/
section
variable {X : Cx}
def tExv (t : L2.St → Hp → XK → Prop) : TE := fun σ H Q => t σ H fun cls d H' => ∀ (a : Addr) (oe : Obj), H' a = none → Zc cls d oe → (∃ us, oe.data = .fields us) → Q (.ref a) (upd H' a (TX oe a))
theorem pe_exv {e : Expr} {t : L2.St → Hp → XK → Prop} (h : PMk X e t) : PE X e (tExv t) := by
  refine ⟨fun pins s σ H Q I hq => thn (h pins s σ H _ I hq) fun u s1 z => ?_⟩
  obtain ⟨a, oe, vs, sI, H', cls, d, rfl, J, k, hne, ha, hz, hd, h1, na, os, ag, r, q⟩ := z
  have new : ObjOk X.prog X.w (upd H' a (TX oe a)) s1.heap a (TX oe a) := ⟨ha, oe, ha⟩
  have J2 := J.laidN (h' := s1.heap) (t' := s1.toks) k hne na new
  exact ⟨.ref a, _, ⟨J2.ok, os.trans J2.os, ag, J2.base, J2.loc, J2.cell, J2.free, J2.freeC, J2.pin, J2.hok, J2.len⟩, rfl, q a oe na hz ⟨vs, hd⟩⟩
/-- a new one: its class, its fields -/
theorem new_is {H : Hp} {a D : Addr} {oe : Obj} (na : H a = none) (hz : Zc (.ref D) none oe) (hf : ∃ us, oe.data = .fields us) : IsX (upd H a (TX oe a)) a D := ⟨oe, none, upd_same, hz, hf, fun dd e => by cases e⟩
theorem new_fs {H : Hp} {a D dd : Addr} {oe : Obj} {fs : List (Str × V)} (na : H a = none) (hz : Zc (.ref D) (some dd) oe) (hf : ∃ us, oe.data = .fields us) (hd : H dd = some (.xd fs)) : IsX (upd H a (TX oe a)) a D :=
  ⟨oe, some dd, upd_same, hz, hf, fun d' e => by cases e; exact ⟨fs, (upd_ne (ne_of_none hd na)).trans hd⟩⟩
/-- e.f, e an exception that is held -/
def tXe (C : Addr) (f : Str) (te : TE) : TE := fun σ H Q => te σ H fun x H1 => ∃ (a : Addr) (oe : Obj) (dd : Addr) (fs : List (Str × V)) (v : V), x = .ref a ∧ H1 a = some (TX oe a) ∧ Zc (.ref C) (some dd) oe ∧ (∃ vs, oe.data = .fields vs) ∧ H1 dd = some (.xd fs) ∧ fs.lookup f = some v ∧ Q v H1
theorem pe_xe {C : Addr} {e : Expr} {te : TE} {pos : Pos} {n : Str} (T : XfC X.K C) (hno : PySem.W.findIn X.K (.ref C) n = some none)
    (he : PE X e te) (hb : attributeBase e n X.env (eval e X.env) = eval e X.env := by rfl) : PE X (.Attribute e n pos) (tXe C n te) := by
  refine ⟨fun pins s σ H Q I h => ?_⟩
  refine attr_of hb (thn (he.run pins s σ H _ I h) fun u s1 hh => ?_)
  obtain ⟨x, H1, I1, rx, a, oe, dd, fs, v, ex, ha, hz, ⟨vs, hd⟩, ea, l, q⟩ := hh
  subst ex
  obtain rfl : u = Value.ref a := rx
  have hget : s1.heap.get? a = some oe := (I1.hok a _ ha).1
  have hx : ObjOk X.prog X.w H1 s1.heap dd (.xd fs) := I1.hok dd _ ea
  obtain ⟨mA, hns, hr⟩ := hx
  obtain ⟨od, ho, hl⟩ := lookIn_ns hns
  obtain ⟨u, hu, ru⟩ := RelO.some_of (v := v) (o := mA n) (by rw [← l]; exact hr n)
  have J : PySem.W.InstAt s1.heap a oe C (some od) := ⟨hget, hz.1, by unfold PySem.W.notCls; rw [hd] <;> rfl, by rw [hz.2]; exact ho⟩
  exact HandSPX.exc_get I1.kIn J T.ga T.gg T.exC (PySem.W.findObj_own T.hdC hno rfl (by rw [hl, hu])) (handed_of ru) ⟨v, H1, I1.tok _, ru, q⟩
/-- isinstance(e, c), e an exception that is held -/
def rIsE1 (K : PySem.W.Frag) (D : Addr) : List V → Hp → VK → Prop := fun xs H Q => ∃ (a : Addr) (c : V) (cv : Value) (b : Bool), xs = [.ref a, c] ∧ (∀ u, RelV c u → u = cv) ∧ PySem.W.kitOne K (.ref D) cv = some b ∧ IsX H a D ∧ Q (.bl b) H
theorem call_isE1 {K : PySem.W.Frag} {D : Addr} (eK : X.K = K) (C : ExcC K D) : CallR X (.builtin "isinstance") (rIsE1 K D) := by
  intro pins s σ H xs us Q I r h
  obtain ⟨a, c, cv, b, rfl, h⟩ := h
  exact call_isT eK C pins s σ H [.ref a, c] us Q I r ⟨c, cv, b, rfl, h⟩
/-- isinstance(e, (c, ..)) -/
def rIsE2 (K : PySem.W.Frag) (D : Addr) : List V → Hp → VK → Prop := fun xs H Q => ∃ (a tp : Addr) (Ds : List Addr) (b : Bool), xs = [.ref a, .ref tp] ∧ H tp = some (.tup (Ds.map V.ref)) ∧ PySem.W.kitAny K (.ref D) (Ds.map Value.ref) = some b ∧ IsX H a D ∧ Q (.bl b) H
theorem vals_refs : ∀ {Ds : List Addr} {us : List Value}, Vals (Ds.map V.ref) us → us = Ds.map Value.ref
  | [], _, .nil => rfl
  | D :: r, _, .cons a b => by rw [vals_refs b, show _ = Value.ref D from a]; rfl
theorem tup_refs {H : Hp} {s : Shared} {pins : List (Addr × Obj)} {σ : L2.St} {tp : Addr} {Ds : List Addr} (I : Inv X pins σ H s) (hT : H tp = some (.tup (Ds.map V.ref))) : ∃ dd n sl, s.heap.get? tp = some ⟨.type "tuple", dd, .seq (Ds.map Value.ref).toArray n, sl⟩ := by
  obtain ⟨_, its, rv, o, h1, h2, n, h3⟩ := (show ObjOk X.prog X.w H s.heap tp (.tup (Ds.map V.ref)) from I.hok tp _ hT)
  have e3 := vals_refs rv
  subst e3
  obtain ⟨oc, od, dt, sl⟩ := o
  simp only at h2 h3
  subst h2 h3
  exact ⟨_, _, _, h1⟩
theorem call_isE2 {K : PySem.W.Frag} {D : Addr} (eK : X.K = K) (C : ExcC K D) : CallR X (.builtin "isinstance") (rIsE2 K D) := by
  subst eK
  intro pins s σ H xs us Q I r h
  obtain ⟨a, tp, Ds, b, rfl, hT, e, hi, q⟩ := h
  cases r with
  | cons rx rr =>
    cases rr with
    | cons rt rr =>
      cases rr
      cases rx
      cases rt
      obtain ⟨oe, od, J⟩ := isx_at I hi
      obtain ⟨dd, n, sl, ht⟩ := tup_refs I hT
      obtain ⟨cdD, hcD, _⟩ := PySem.W.any_some C.hd
      exact PySem.W.kia_tup (PySem.W.kitx_exc (by rw [hcD]; rfl) C.hg C.hk C.hs C.ha C.hn C.ht C.hm) I.kIn J ht e (fun z => nomatch z) fun tk => ⟨.bl b, H, I.kept (t' := tk) fun _ _ z => z, rfl, q⟩
/-- isinstance(e, (c, ..)), e the exception of the suite, with fields -/
def rIsX2 (K : PySem.W.Frag) (D a : Addr) (cls : Value) (d : Option Addr) : List V → Hp → VK → Prop := fun xs H Q => ∃ (tp : Addr) (Ds : List Addr) (b : Bool) (dd : Addr) (fs : List (Str × V)),
  xs = [.ref a, .ref tp] ∧ H tp = some (.tup (Ds.map V.ref)) ∧ PySem.W.kitAny K (.ref D) (Ds.map Value.ref) = some b ∧ cls = .ref D ∧ d = some dd ∧ H dd = some (.xd fs) ∧ Q (.bl b) H
theorem call_isX2 {K : PySem.W.Frag} {a D : Addr} {oe : Obj} {cls : Value} {d : Option Addr} {pn : List (Addr × Obj)} (eK : X.K = K) (C : ExcC K D) (hz : Zc cls d oe) (hf : ∃ vs, oe.data = .fields vs) : CallR (X.suite a ((a, oe) :: pn)) (.builtin "isinstance") (rIsX2 K D a cls d) := by
  subst eK
  intro pins s σ H xs us Q I r h
  obtain ⟨tp, Ds, b, dd, fs, rfl, hT, e, rfl, rfl, hdd, q⟩ := h
  cases r with
  | cons rx rr =>
    cases rr with
    | cons rt rr =>
      cases rr
      cases rx
      cases rt
      obtain ⟨hget, _⟩ := I.pin (a, oe) (List.mem_append.mpr (.inl List.mem_cons_self))
      obtain ⟨vs, hv⟩ := hf
      have hx : ObjOk X.prog X.w H s.heap dd (.xd fs) := I.hok dd _ hdd
      obtain ⟨mA, ⟨od, es, ep, hod, _⟩, _⟩ := hx
      have J : PySem.W.InstAt s.heap a oe D (some od) := by
        obtain ⟨h1, h2⟩ := hz
        exact ⟨hget, h1, by unfold PySem.W.notCls; rw [hv] <;> rfl, by rw [h2]; exact hod⟩
      obtain ⟨dt, n, sl, ht⟩ := tup_refs I hT
      obtain ⟨cdD, hcD, _⟩ := PySem.W.any_some C.hd
      exact PySem.W.kia_tup (PySem.W.kitx_exc (by rw [hcD]; rfl) C.hg C.hk C.hs C.ha C.hn C.ht C.hm) I.kIn J ht e (fun z => nomatch z) fun tk => ⟨.bl b, H, I.kept (t' := tk) fun _ _ z => z, rfl, q⟩
end
end Rc

namespace Rc
open PySem PySem.Spec PyProof.Rows L2 RZ
def abcS : Str := "abcdefghijklmnopqrstuvwxyz"
theorem abcS_len : abcS.length = 26 := by decide +kernel
theorem abcS_abc : abcS.cps.toList = abc := letters_abc
theorem nodup_le {α : Type} [DecidableEq α] : ∀ (l zs : List α), l.Nodup → (∀ x ∈ l, x ∈ zs) → l.length ≤ zs.length
  | [], _, _, _ => Nat.zero_le _
  | a :: r, zs, nd, h => by
    have hn := List.nodup_cons.mp nd
    have ha : a ∈ zs := h a List.mem_cons_self
    have ih := nodup_le r (zs.erase a) hn.2 fun x hx => by
      have ne : x ≠ a := fun e => hn.1 (e ▸ hx)
      exact (List.mem_erase_of_ne ne).mpr (h x (List.mem_cons_of_mem _ hx))
    rw [List.length_erase_of_mem ha] at ih
    have : 0 < zs.length := List.length_pos_of_mem ha
    rw [List.length_cons]
    omega
def oneS (c : Nat) : Str := ⟨#[c]⟩
theorem oneS_name {c : Nat} (h : c ∈ abc) : nameT (oneS c) = true := by
  have e1 : (oneS c).length = 1 := rfl
  have e2 : (oneS c).cps.toList = [c] := rfl
  unfold nameT
  rw [e1, e2]
  simp [h]
theorem abc_nodup : (abc.map oneS).Nodup := by decide +kernel
/-- some letter is not among thirteen names -/
theorem free_letter {zs : List Str} (h : zs.length ≤ 13) : (abc.filter fun c => !decide (oneS c ∈ zs)) ≠ [] := fun e => by
  have hall : ∀ x ∈ abc.map oneS, x ∈ zs := fun x hx => by
    obtain ⟨c, hc, rfl⟩ := List.mem_map.mp hx
    by_cases hz : oneS c ∈ zs
    · exact hz
    · have hm : c ∈ abc.filter fun c => !decide (oneS c ∈ zs) := List.mem_filter.mpr ⟨hc, by simp [hz]⟩
      rw [e] at hm
      cases hm
  have := nodup_le _ _ abc_nodup hall
  rw [List.length_map] at this
  have e26 : abc.length = 26 := by decide
  omega
theorem nameT_of {z : Str} (h1 : 1 ≤ z.length) (h2 : z.length ≤ 8) (h3 : ∀ c ∈ z.cps.toList, c ∈ abc) : nameT z = true := by
  unfold nameT
  rw [decide_eq_true h1, decide_eq_true h2]
  simp only [Bool.true_and, List.all_eq_true, decide_eq_true_eq]
  exact h3
def wordsL : List Str := ["person", "persons", "pay", "clear", "settle", "put", "give", "yes"]
theorem words_ok : ∀ z ∈ wordsL, nameT z = true := by decide +kernel
section
variable {P : Program} {w : World} {K : PySem.W.Frag} {mg : Str → Option Value} {base : Heap}
/-! ### _law_name -/
abbrev sLNm : Stmt := topS 33
abbrev nLNm : List Str := ["_law_pot_here", "_law_used", "_law_letters", "_law_name_here", "_law_k", "_law_letter"]
theorem scLNm : FnScope nLNm ["_law_pot_here", "_law_used"] (defScope sLNm) := ⟨rfl, rfl, rfl, by decide +kernel, rfl, by decide +kernel, by decide +kernel⟩
def spLNm : Sp := fun vs H Q _ => ∃ p u zs, vs = [.ref p, .ref u] ∧ Pot H p ∧ u ≠ p ∧ H u = some (.lst (List.map V.str zs)) ∧ zs.length ≤ 13 ∧ ∀ z H', nameT z = true → z ∉ zs → Pot H' p → But p H H' → Q (.str z) H'
theorem ok_lnm {f fT : Addr} {fd fdT : FuncData} (F : Fun K "_law_name" "_law_name" sLNm f fd) (B : Blt mg) (B2 : Blt2 mg) (T : HasTake P w K mg base fT fdT) : FnOk P w K mg base CX0 2 f fd ["_law_pot_here", "_law_used"] spLNm := by
  refine F.ok scLNm (fun vs H Q E h => ?_) (fun cdv Ar outer s H vs Q E hr h => ?_)
  · obtain ⟨_, _, _, rfl, _⟩ := h
    rfl
  · obtain ⟨p, u, zs, rfl, hp, up, hu, hz, q⟩ := h
    refine ⟨_, pss_cons (ps_set (i := 2) scLNm.nd rfl (.inr rfl) pe_str)
      (pss_cons (ps_set (i := 3) scLNm.nd rfl (.inl rfl) (pe_join pe_str
        (pe_lc (own := [("_law_k", 4)]) (g := gName 4) (tt := tYes) rfl scLNm.nd (pi_range1 (by rfl) B2.range (pa_cons (pe_op op_add pe_int (pe_call T.ok hr (by rfl) T.g T.kp T.b .nil pass0 (pa_cons (pv 0) (pa_cons pe_int pa_nil)))) pa_nil))
          (blkOk_by (N := nLNm) (sc := defScope sLNm) (own := [("_law_k", 4)]) (by decide +kernel))
          (fun _ _ _ _ _ => pg_name (i := 4) scLNm.nd rfl (.inl rfl)) (fun _ _ _ _ _ => pts_nil)
          (fun _ _ _ _ _ => pe_ix ix_str (pv 2) (pe_call T.ok hr (by rfl) T.g T.kp T.b .nil pass0 (pa_cons (pv 0) (pa_cons pe_int pa_nil))) (fun _ _ => rfl)))))
      (C8.pss_cut (ps_if (pt_cmpR op_eq (pe_call T.ok hr (by rfl) T.g T.kp T.b .nil pass0 (pa_cons (pv 0) (pa_cons pe_int pa_nil))) pe_int (nomark _))
        (pss_one (ps_set (i := 3) scLNm.nd rfl (.inl rfl) (pe_ix ix_list (pe_lst (pa_cons pe_str (pa_cons pe_str (pa_cons pe_str (pa_cons pe_str (pa_cons pe_str (pa_cons pe_str (pa_cons pe_str (pa_cons pe_str pa_nil)))))))))
          (pe_call T.ok hr (by rfl) T.g T.kp T.b .nil pass0 (pa_cons (pv 0) (pa_cons pe_int pa_nil))) (fun _ _ => rfl)))) pss_nil)
      (pss_cons (ps_if (pt_cmpR op_in_seq (pv 3) (pv 1) (by rfl))
        (pss_one (ps_ret (pe_ix ix_list (pe_lc (own := [("_law_letter", 5)]) (g := gName 5) (tt := tTest (tOp (rIn K true) (tVar 5) (tVar 1))) (te := tVar 5) rfl scLNm.nd (pi_str (pv 2)) (blkOk_by (N := nLNm) (sc := defScope sLNm) (own := [("_law_letter", 5)]) (by decide +kernel))
          (fun _ _ _ _ _ => pg_name (i := 5) scLNm.nd rfl (.inl rfl)) (fun _ _ _ _ _ => pts_one (pt_cmpR op_notIn_seq (pv 5) (pv 1) (by rfl))) (fun _ _ _ _ _ => pv 5)) pe_int (fun _ _ => rfl)))) pss_nil)
      (pss_one (ps_ret (pv 3)))))), ?_⟩
    refine ⟨⟨_, rfl⟩, .ref p, rfl, p, 8, rfl, hp, litM _ (by decide) (by decide), fun d H1 d0 d1 hp1 hb1 => ⟨_, _, rfl, rfl, 1 + d, rfl, by omega, by omega, fun D nD => ?_⟩⟩
    have nDp : D ≠ p := by
      obtain ⟨x, y, e, _⟩ := hp1
      exact (ne_of_none e nD).symm
    refine lc_it walk_range (fun i H' => ∃ cs : List Nat, cs.length = i ∧ (∀ c ∈ cs, c ∈ abc) ∧ H' D = some (.lst (cs.map fun c => .str ⟨#[c]⟩)) ∧ Pot H' p ∧ But p H H')
      ⟨[], rfl, fun c hc => absurd hc List.not_mem_nil, upd_same, hp1.new nD, hb1.trans (But.new nD)⟩ (fun _ _ _ _ => trivial) (fun i x H2 H3 hi hP hY => ?_) (fun H2 hP => ?_)
    · obtain ⟨rfl, rfl⟩ := hY
      obtain ⟨cs, lc, hc, hD, hp2, hb2⟩ := hP
      refine ⟨rfl, .str abcS, rfl, .ref p, rfl, p, 26, rfl, hp2, litM _ (by decide) (by decide), fun e H4 e0 e1 hp4 hb4 => ?_⟩
      have el : abcS.cps.toList.length = 26 := abcS_len
      obtain ⟨c, p1, p2⟩ := pick (xs := abcS.cps.toList) e0 (by rw [el]; exact e1)
      refine ⟨abcS, e, c, rfl, rfl, small_line (by rw [abcS_len]; decide), p1, _, hb4 _ _ nDp hD, ?_, cs ++ [c], by rw [List.length_append, lc]; rfl, fun k hk => ?_, ?_, ?_, fun b o n eb => ?_⟩
      · rw [List.length_map, lc]
        exact small1000 (by omega)
      · rcases List.mem_append.mp hk with z | z
        · exact hc k z
        · rw [List.mem_singleton.mp z, ← abcS_abc]
          exact p2
      · rw [upd_same, List.map_append]
        rfl
      · obtain ⟨x, y, z, r⟩ := hp4
        exact ⟨x, y, by rw [upd_ne nDp.symm]; exact z, r⟩
      · have nb : b ≠ D := ne_of_none (hb1 b o n eb) nD
        rw [upd_ne nb]
        exact hb4 _ _ n (hb2 _ _ n eb)
    · obtain ⟨cs, lc, hc, hD, hp2, hb2⟩ := hP
      have ej := join_ones cs
      have nm : nameT (Txt.join "" (cs.map fun c => (⟨#[c]⟩ : Str))) = true := by
        have el : (Txt.join "" (cs.map fun c => (⟨#[c]⟩ : Str))).length = cs.length := by
          show (Txt.join "" (cs.map fun c => (⟨#[c]⟩ : Str))).cps.size = cs.length
          rw [← Array.length_toList, ej]
        refine nameT_of (by rw [el]; omega) (by rw [el]; omega) (by rw [ej]; exact hc)
      refine ⟨"", D, cs.map fun c => ⟨#[c]⟩, rfl, rfl, .inl (.inl (.inl (by rw [hD, List.map_map]; rfl))), ?_, ?_⟩
      · rw [lens_ones]
        show cs.length + _ * 0 ≤ _
        omega
      generalize Txt.join "" (cs.map fun c => (⟨#[c]⟩ : Str)) = z at nm
      refine ⟨fun σ' H' => ∃ z' y4 y5, σ' = [some (.ref p), some (.ref u), some (.str abcS), some (.str z'), y4, y5] ∧ nameT z' = true ∧ Pot H' p ∧ But p H H', ?_, ?_⟩
      · refine ⟨.ref p, rfl, p, 8, rfl, hp2, litM _ (by decide) (by decide), fun k H3 k0 k1 hp3 hb3 => ⟨rfl, _, rfl, ite2 (fun e => ?_) (fun e => ?_)⟩⟩
        · refine ⟨by show 8 ≤ sizeLine; decide, fun l nl => ?_⟩
          have nlp : l ≠ p := by
            obtain ⟨x, y, e, _⟩ := hp3
            exact (ne_of_none e nl).symm
          refine ⟨.ref p, rfl, p, 8, rfl, hp3.new nl, litM _ (by decide) (by decide), fun e H5 e0 e1 hp5 hb5 => ?_⟩
          obtain ⟨v, p1, p2⟩ := pick (xs := wordsL.map V.str) e0 e1
          refine ⟨l, _, e, v, rfl, rfl, .inl (.inl (hb5 _ _ nlp upd_same)), p1, ?_⟩
          obtain ⟨z', hz', rfl⟩ := List.mem_map.mp p2
          exact ⟨z', _, _, rfl, words_ok z' hz', hp5, hb2.trans (hb3.trans ((But.new nl).trans hb5))⟩
        · exact ⟨z, _, _, rfl, nm, hp3, hb2.trans hb3⟩
      · rintro σ' H' ⟨z', y4, y5, rfl, nm', hp', hb'⟩
        have hu' := hb' _ _ up hu
        refine ⟨.str z', rfl, .ref u, rfl, u, _, rfl, .inl (.inl (.inl hu')), rfl, flat_strs _, _, rfl, ?_⟩
        show if inV (.str z') (zs.map V.str) = true then _ else _
        rw [inV_strs]
        refine ite2 (fun e => ?_) (fun e => ?_)
        · refine ⟨.str abcS, rfl, abcS, rfl, fun D' nD' => ?_⟩
          refine lc_it walk_str (fun i H'' => Same H' H'' ∧ H'' D' = some (.lst (((abc.take i).filter fun c => !decide (oneS c ∈ zs)).map fun c => .str (oneS c)))) ⟨same_upd nD', upd_same⟩ (fun _ _ _ _ => trivial) (fun i x H3' H3 hi hP hY => ?_) (fun H3 hP => ?_)
          · obtain ⟨rfl, c, hc', rfl⟩ := hY
            have hc2 : abc[i]? = some c := by
              rw [← abcS_abc, Array.getElem?_toList]
              exact hc'
            refine ⟨rfl, _, rfl, .ref u, rfl, u, _, rfl, .inl (.inl (.inl (hP.1 _ _ hu'))), rfl, flat_strs _, _, rfl, ?_⟩
            have tk : abc.take (i + 1) = abc.take i ++ [c] := by
              rw [List.take_add_one, hc2]
              rfl
            show if (!inV (.str (oneS c)) (zs.map V.str)) = true then _ else _
            rw [inV_strs]
            refine ite2 (fun e' => ?_) (fun e' => ?_)
            · refine ⟨_, rfl, _, hP.2, ?_, fun b o eb => ?_, ?_⟩
              · rw [List.length_map]
                have h1 := List.length_filter_le (fun c => !decide (oneS c ∈ zs)) (abc.take i)
                have h2 : (abc.take i).length ≤ 26 := by
                  rw [List.length_take]
                  exact Nat.min_le_right _ _
                exact small1000 (by omega)
              · rw [upd_ne (ne_of_none eb nD')]
                exact hP.1 b o eb
              · rw [upd_same, tk, List.filter_append, List.map_append]
                simp only [List.filter_cons, e', if_true, List.filter_nil, List.map_cons, List.map_nil]
                rfl
            · refine ⟨hP.1, ?_⟩
              rw [hP.2, tk, List.filter_append]
              simp only [List.filter_cons, e', List.filter_nil, Bool.false_eq_true, if_false, List.append_nil]
          · have esz : abc.take abcS.cps.size = abc := List.take_of_length_le (by decide +kernel)
            rw [esz] at hP
            have ne := free_letter hz
            cases hl : (abc.filter fun c => !decide (oneS c ∈ zs)) with
            | nil => exact absurd hl ne
            | cons c r =>
              have hm : c ∈ abc.filter fun c => !decide (oneS c ∈ zs) := by
                rw [hl]
                exact List.mem_cons_self
              obtain ⟨m1, m2⟩ := List.mem_filter.mp hm
              rw [hl] at hP
              refine ⟨D', _, 0, .str (oneS c), rfl, rfl, .inl (.inl hP.2), atI_nat (j := 0) rfl, ?_⟩
              exact q _ _ (oneS_name m1) (by simpa using m2) (hp'.same hP.1) (hb'.trans (same_but hP.1))
        · exact ⟨_, rfl, q z' H' nm' (fun c => e (decide_eq_true c)) hp' hb'⟩
end
end Rc

namespace Rc
open PySem PySem.Spec PyProof.Rows L2 RZ
section
variable {P : Program} {w : World} {K : PySem.W.Frag} {mg : Str → Option Value} {base : Heap}
/-! ### _law_names -/
abbrev sLNms : Stmt := topS 34
theorem scLNms : FnScope ["_law_pot_here", "_law_many", "_law_found", "_law_k"] ["_law_pot_here", "_law_many"] (defScope sLNms) := ⟨rfl, rfl, rfl, by decide +kernel, rfl, by decide +kernel, by decide +kernel⟩
def spLNms : Sp := fun vs H Q _ => ∃ (p : Addr) (m : Nat), vs = [.ref p, .int (m : Nat)] ∧ Pot H p ∧ m ≤ 13 ∧ ∀ r zs H', H r = none → r ≠ p → H' r = some (.lst (List.map V.str zs)) → zs.length = m → zs.Nodup → (∀ z ∈ zs, nameT z = true) → Pot H' p → But p H H' → Q (.ref r) H'
theorem ok_lnms {f fN : Addr} {fd fdN : FuncData} (F : Fun K "_law_names" "_law_names" sLNms f fd) (B2 : Blt2 mg) (N : Has P w K mg base 2 "_law_name" ["_law_pot_here", "_law_used"] spLNm fN fdN) :
    FnOk P w K mg base CX0 3 f fd ["_law_pot_here", "_law_many"] spLNms := by
  refine F.ok scLNms (fun vs H Q E h => ?_) (fun cdv Ar outer s H vs Q E hr h => ?_)
  · obtain ⟨_, _, rfl, _⟩ := h
    rfl
  · obtain ⟨p, m, rfl, hp, hm, q⟩ := h
    refine ⟨_, pss_cons (ps_set (i := 2) scLNms.nd rfl (.inl rfl) (pe_lst pa_nil))
      (pss_cons (ps_for PassesOwn.never rfl (pi_range1 (by rfl) B2.range (pa_cons (pv 1) pa_nil)) (pg_name (i := 3) scLNms.nd rfl (.inl rfl))
        (pss_one (ps_expr (pe_bm PySem.F.plainAttrs_list PySem.F.slot_list_append PySem.F.type_list_append mt_append (pv 2) (pa_cons (pe_call N.ok hr (by rfl) N.g N.kp N.b .nil pass0 (pa_cons (pv 0) (pa_cons (pv 2) pa_nil))) pa_nil)))))
      (pss_one (ps_ret (pv 2)))), ?_⟩
    refine ⟨Nat.zero_le _, fun r nr => ?_⟩
    have rp : r ≠ p := by
      obtain ⟨x, y, e, _⟩ := hp
      exact (ne_of_none e nr).symm
    refine ⟨_, rfl, _, rfl, by omega, by omega, ?_⟩
    refine for_it walk_range (fun i σ H' => ∃ zs y3, σ = [some (.ref p), some (.int (m : Nat)), some (.ref r), y3] ∧ H' r = some (.lst (List.map V.str zs)) ∧ zs.length = i ∧ zs.Nodup ∧ (∀ z ∈ zs, nameT z = true) ∧ Pot H' p ∧ But p H H')
      ⟨[], _, rfl, upd_same, rfl, List.nodup_nil, fun z hz => absurd hz List.not_mem_nil, hp.new nr, But.new nr⟩ (fun _ _ _ _ _ => trivial) (fun i x σ H1' H1 hi hP hY => ?_) (fun σ H1 hP => ?_)
    · obtain ⟨rfl, rfl⟩ := hY
      obtain ⟨zs, y3, rfl, hr1, lz, nd, nm, hp1, hb1⟩ := hP
      have hi' : i < m := by simpa using hi
      refine ⟨.ref r, rfl, .inl ⟨rfl, _, .inl (.inl hr1)⟩, .ref p, rfl, .ref r, rfl, p, r, zs, rfl, hp1, rp, hr1, by omega, fun z H2 nz nin hp2 hb2 => ?_⟩
      refine ⟨r, _, _, rfl, rfl, hb2 _ _ rp hr1, by rw [List.length_map]; exact small1000 (by omega), ?_⟩
      refine ⟨zs ++ [z], _, rfl, by rw [upd_same, List.map_append]; rfl, by rw [List.length_append, lz]; rfl, ?_, fun y hy => ?_, ?_, fun b o n e => ?_⟩
      · rw [List.nodup_append]
        refine ⟨nd, by simp, fun a ha b hb e => ?_⟩
        rw [List.mem_singleton.mp hb] at e
        exact nin (e ▸ ha)
      · rcases List.mem_append.mp hy with h | h
        · exact nm y h
        · rw [List.mem_singleton.mp h]
          exact nz
      · obtain ⟨x, y, e, rr⟩ := hp2
        exact ⟨x, y, by rw [upd_ne rp.symm]; exact e, rr⟩
      · rw [upd_ne (ne_of_none e nr)]
        exact hb2 _ _ n (hb1 _ _ n e)
    · obtain ⟨zs, y3, rfl, hr1, lz, nd, nm, hp1, hb1⟩ := hP
      exact ⟨.ref r, rfl, q r zs H1 nr rp hr1 (by simpa using lz) nd nm hp1 hb1⟩
end
end Rc

namespace Rc
open PySem PySem.Spec PyProof.Rows L2 RZ
/-! ### data that can be shown -/
structure NiceD (d : PyData) (n : Nat) : Prop where
  sh : d.showable = true
  lv : d.leavesShort 1921 = true
  nd : d.hasDict = false
  dp : d.depth ≤ 5
  bk : d.bulk ≤ n
  cl : d.canLay0 = true
structure NiceA (ds : List PyData) (n : Nat) : Prop where
  sh : PyData.showableAll ds = true
  lv : PyData.leavesShortAll 1921 ds = true
  nd : PyData.hasDictAll ds = false
  dp : PyData.depthAll ds ≤ 4
  bk : PyData.bulkAll ds ≤ n
  cl : PyData.canLayAll0 ds = true
theorem NiceA.nil : NiceA [] 0 := ⟨rfl, rfl, rfl, Nat.zero_le _, Nat.le_refl _, rfl⟩
theorem NiceA.cons {d : PyData} {ds : List PyData} {n m : Nat} (a : NiceD d n) (hd : d.depth ≤ 4) (b : NiceA ds m) : NiceA (d :: ds) (n + 1 + m) := by
  refine ⟨?_, ?_, ?_, ?_, ?_, ?_⟩
  · simp only [PyData.showableAll, a.sh, b.sh, Bool.and_self]
  · simp only [PyData.leavesShortAll, a.lv, b.lv, Bool.and_self]
  · simp only [PyData.hasDictAll, a.nd, b.nd, Bool.or_self]
  · simp only [PyData.depthAll]
    have := b.dp
    omega
  · simp only [PyData.bulkAll]
    have := a.bk
    have := b.bk
    omega
  · simp only [PyData.canLayAll0, a.cl, b.cl, Bool.and_self]
theorem NiceA.list {ds : List PyData} {n : Nat} (a : NiceA ds n) : NiceD (.list ds) n := by
  refine ⟨by simpa only [PyData.showable] using a.sh, by simpa only [PyData.leavesShort] using a.lv, by simpa only [PyData.hasDict] using a.nd, ?_, by simpa only [PyData.bulk] using a.bk, by simpa only [PyData.canLay0] using a.cl⟩
  simp only [PyData.depth]
  have := a.dp
  omega
theorem NiceA.tuple {ds : List PyData} {n : Nat} (a : NiceA ds n) : NiceD (.tuple ds) n := by
  refine ⟨by simpa only [PyData.showable] using a.sh, by simpa only [PyData.leavesShort] using a.lv, by simpa only [PyData.hasDict] using a.nd, ?_, by simpa only [PyData.bulk] using a.bk, by simpa only [PyData.canLay0] using a.cl⟩
  simp only [PyData.depth]
  have := a.dp
  omega
def BigOk (i : Int) : Prop := i.natAbs < 2 ^ 300
theorem nice_int {i : Int} (h : BigOk i) : NiceD (.int i) 0 := by
  have h1 : i.natAbs.log2 < 1920 := Nat.lt_trans (PySem.Flt.log2_lt_of (by decide) h) (by decide)
  refine ⟨?_, ?_, by simp only [PyData.hasDict], by simp only [PyData.depth]; omega, by simp only [PyData.bulk]; omega, by simp only [PyData.canLay0]⟩
  · simp only [PyData.showable]
    exact decide_eq_true h1
  · simp only [PyData.leavesShort, PyData.shown]
    exact decide_eq_true (int_text_len_1921 h1)
theorem abc_lt : ∀ c ∈ abc, c < 128 := by decide +kernel
theorem name_signs {z : Str} (h : nameT z = true) : ∀ c ∈ z.cps.toList, c ∈ abc := by
  unfold nameT at h
  simp only [Bool.and_eq_true, List.all_eq_true, decide_eq_true_eq] at h
  exact h.2
theorem nice_name {z : Str} (h : nameT z = true) : NiceD (.str z) 8 := by
  have hs := name_signs h
  refine ⟨by simp only [PyData.showable], ?_, by simp only [PyData.hasDict], by simp only [PyData.depth]; omega, ?_, ?_⟩
  · simp only [PyData.leavesShort, List.all_eq_true, decide_eq_true_eq]
    exact fun c hc => Nat.lt_trans (abc_lt c (hs c hc)) (by decide)
  · simp only [PyData.bulk]
    exact (nameT_len h).2
  · simp only [PyData.canLay0]
    show z.cps.all (fun c => decide (c < 0x110000)) = true
    rw [← Array.all_toList, List.all_eq_true]
    exact fun c hc => decide_eq_true (Nat.lt_trans (abc_lt c (hs c hc)) (by decide))
theorem nice_names : ∀ {zs : List Str}, (∀ z ∈ zs, nameT z = true) → NiceA (zs.map PyData.str) (9 * zs.length)
  | [], _ => NiceA.nil
  | z :: r, h => by
    have a := nice_name (h z List.mem_cons_self)
    have b := nice_names fun y hy => h y (List.mem_cons_of_mem _ hy)
    have c := NiceA.cons a (by simp only [PyData.depth]; omega) b
    rw [List.map_cons, List.length_cons]
    have e : 9 * (r.length + 1) = 8 + 1 + 9 * r.length := by omega
    rw [e]
    exact c
/-- notes as the law draws them -/
theorem nice_fits {d : PyData} {n : Nat} (h : NiceD d n) (hn : n ≤ 8000) : (∃ i, d = .int i) ∨ d.shown.length ≤ sizeLine := by
  have h1 := PyData.shown_le_bulk 1921 (by decide) d h.lv
  have h2 := h.bk
  refine .inr ?_
  rw [sizeLine_eq]
  have : (1921 + 2) * d.bulk ≤ 1923 * 8000 := Nat.mul_le_mul (Nat.le_refl _) (by omega)
  omega
theorem nice_shaped {d : PyData} {n : Nat} (h : NiceD d n) : SeqAt.shaped d = true := by
  unfold SeqAt.shaped
  rw [h.cl, decide_eq_true (show d.depth ≤ 64 by have := h.dp; omega)]
  rfl
theorem DpAll.strs {K : PySem.W.Frag} {H : Hp} : ∀ zs : List Str, DpAll K H (zs.map V.str) (zs.map PyData.str)
  | [] => .nil
  | z :: r => .cons (.str z) (DpAll.strs r)
end Rc

namespace Rc
open PySem PySem.Spec PyProof.Rows L2 RZ
theorem Pot.ne {H : Hp} {p b : Addr} (h : Pot H p) (n : H b = none) : b ≠ p := by
  obtain ⟨x, y, e, _⟩ := h
  exact (ne_of_none e n).symm
def rListS (K : PySem.W.Frag) : List V → Hp → VK → Prop := fun xs H Q => ∃ p ys, xs = [.ref p] ∧ (SqL K H p ys ∨ SqT K H p ys) ∧ ∀ l, H l = none → Q (.ref l) (upd H l (.lst ys))
theorem call_listS {X : Cx} {K : PySem.W.Frag} (e : X.K = K) : CallR X (.type "list") (rListS K) := by
  subst e
  exact call_list_of
/-- a def that is called, no repr being under way -/
structure HasG (P : Program) (w : World) (K : PySem.W.Frag) (mg : Str → Option Value) (base : Heap) (k : Nat) (nm : Str) (ps : List Str) (sp : Sp) (f : Addr) (fd : FuncData) : Prop where
  ok : FnG P w K mg base CX0 k f fd ps sp
  g : mg nm = some (.ref f)
  kp : PySem.W.keepIn K (.ref f) = true
  b : Binds K fd ps []
mutual
theorem Dt.dp {K : PySem.W.Frag} {H : Hp} : ∀ {v : V} (d : PyData), tupD d = true → Dt K H v d → Dp K H v d
  | _, .none, _, h => by cases h; exact .non
  | _, .bool _, _, h => by cases h; exact .bl _
  | _, .int _, _, h => by cases h; exact .int _
  | _, .str _, _, h => by cases h; exact .str _
  | _, .list ds, t, h => by simp [tupD] at t
  | _, .dict ps, t, h => by simp [tupD] at t
  | _, .tuple ds, t, h => by
    cases h with
    | tup q a => exact .tup q (DtAll.dp ds (by simpa [tupD] using t) a)
theorem DtAll.dp {K : PySem.W.Frag} {H : Hp} : ∀ {vs : List V} (ds : List PyData), tupDs ds = true → DtAll K H vs ds → DpAll K H vs ds
  | _, [], _, h => by cases h; exact .nil
  | _, d :: ds, t, h => by
    cases h with
    | cons a b =>
      have t' : tupD d = true ∧ tupDs ds = true := by simpa [tupDs] using t
      exact .cons (Dt.dp d t'.1 a) (DtAll.dp ds t'.2 b)
end
theorem tup_key (M : Bk) : tupD (keyD M) = true := by
  have h1 := tup_strs M.names
  have h2 := tup_ints M.gifts
  have h3 := tup_stacks M.stacks
  have h4 := tup_ints M.drops
  unfold keyD
  simp only [tupD, tupDs] at *
  simp [h1, h2, h3, h4]
theorem lay_map {α : Type} {f : α → PyData} : ∀ {l : List α}, (∀ x ∈ l, (f x).canLay0 = true) → PyData.canLayAll0 (l.map f) = true
  | [], _ => rfl
  | x :: r, h => by
    rw [List.map_cons]
    simp only [PyData.canLayAll0, h x List.mem_cons_self, lay_map fun y hy => h y (List.mem_cons_of_mem _ hy), Bool.and_self]
theorem dep_map {α : Type} {f : α → PyData} {n : Nat} : ∀ {l : List α}, (∀ x ∈ l, (f x).depth ≤ n) → PyData.depthAll (l.map f) ≤ n
  | [], _ => Nat.zero_le _
  | x :: r, h => by
    rw [List.map_cons]
    simp only [PyData.depthAll]
    have h1 := h x List.mem_cons_self
    have h2 := dep_map (f := f) fun y hy => h y (List.mem_cons_of_mem _ hy)
    omega
theorem But.kpP {p : Addr} {H H' : Hp} (b : But p H H') (hp : Pot H p) : Kp H H' := by
  obtain ⟨x, y, e, _⟩ := hp
  exact b.kp e
theorem kp_same {H H' : Hp} (s : Same H H') : Kp H H' := fun b o e _ => s b o e
theorem mem_cut {xs : List V} {lo hi : Option Int} {v : V} (h : v ∈ cutV xs lo hi) : v ∈ xs := by
  unfold cutV at h
  exact List.mem_of_mem_drop (List.mem_of_mem_take h)
theorem op_eqS {X : Cx} {K : PySem.W.Frag} (e : X.K = K) (hu : X.A.units + 64 < cLine) : OpR X (compareOp .Eq) (rEqD K) := by
  subst e
  exact op_eqD hu
end Rc

namespace Rc
open PySem PySem.Spec PyProof.Rows L2
/-! ### what can be shown -/
structure ShowOk (d : PyData) : Prop where
  sh : d.showable = true
  tp : DictTop d
  dp : d.depth ≤ 20
  ft : (∃ i, d = .int i) ∨ d.shown.length ≤ sizeLine
theorem NiceD.show {d : PyData} {n : Nat} (h : NiceD d n) (hn : n ≤ 8000) : ShowOk d := ⟨h.sh, .inl h.nd, by have := h.dp; omega, nice_fits h hn⟩
theorem nice_text {z : Str} {n : Nat} (hc : ∀ c ∈ z.cps.toList, c < 128) (hl : z.length ≤ n) : NiceD (.str z) n := by
  refine ⟨by simp only [PyData.showable], ?_, by simp only [PyData.hasDict], by simp only [PyData.depth]; omega, ?_, ?_⟩
  · simp only [PyData.leavesShort, List.all_eq_true, decide_eq_true_eq]
    exact fun c h => Nat.lt_trans (hc c h) (by decide)
  · simp only [PyData.bulk]
    exact hl
  · simp only [PyData.canLay0]
    show z.cps.all (fun c => decide (c < 0x110000)) = true
    rw [← Array.all_toList, List.all_eq_true]
    exact fun c h => decide_eq_true (Nat.lt_trans (hc c h) (by decide))
section
variable {X : Cx}
/-- repr, whatever is being handled -/
theorem call_reprU {K : PySem.W.Frag} (eK : X.K = K) (hu : X.A.units + 64 < cLine) (hg : X.A.guards = some []) : CallR X (.builtin "repr") (rRepr K) := by
  subst eK
  intro pins s σ H xs us Q I r h
  obtain ⟨v, d, rfl, hd, hs, ht, hp, hz, q⟩ := h
  obtain ⟨u, rfl, ru⟩ := vals1 r
  obtain ⟨as, rd, nsm⟩ := Dt.reads I d v u hd ru
  have far : ∀ a, u = .ref a → d.shown.length ≤ sizeLine → wpAny (model X.prog X.w) X.A (call (.builtin "repr") [u]) (EP X pins σ Q) X.xe s := by
    rintro a rfl fit
    refine repr_of_reads' rd hs (fun hx => ?_) hg (by omega) (fun _ _ e => e) (fun h' t tk hk => ⟨.str _, H, I.kept hk, ⟨t, rfl⟩, q⟩) fit
    rcases ht with z | z
    · rw [z] at hx; cases hx
    · exact nsm z
  cases hd with
  | non => cases ru; exact PySem.P.repr_of_none ⟨.str _, H, I.tok _, ⟨_, rfl⟩, q⟩
  | bl b => cases ru; exact PySem.P.repr_of_bool ⟨.str _, H, I.tok _, ⟨_, rfl⟩, q⟩
  | int i =>
    obtain ⟨t, rfl⟩ := ru
    exact PySem.P.repr_of_int (by simpa [PyData.showable] using hs) ⟨.str _, H, I.tok _, ⟨_, rfl⟩, by simpa [PyData.shown] using q⟩
  | str x =>
    obtain ⟨t, rfl⟩ := ru
    exact PySem.P.repr_of_str ⟨.str _, H, I.tok _, ⟨_, rfl⟩, by simpa [PyData.shown] using q⟩ (by simpa [PyData.shown] using notInt hz (fun _ z => nomatch z))
  | lst _ _ => exact far _ ru (notInt hz fun _ z => nomatch z)
  | tup _ _ => exact far _ ru (notInt hz fun _ z => nomatch z)
  | dct _ _ _ => exact far _ ru (notInt hz fun _ z => nomatch z)
/-- isinstance(e, c), e the exception of the suite, with fields -/
def rIsX (K : PySem.W.Frag) (D a : Addr) (cls : Value) (d : Option Addr) : List V → Hp → VK → Prop := fun xs H Q => ∃ (c : V) (cv : Value) (b : Bool) (dd : Addr) (fs : List (Str × V)),
  xs = [.ref a, c] ∧ (∀ u, RelV c u → u = cv) ∧ PySem.W.kitOne K (.ref D) cv = some b ∧ cls = .ref D ∧ d = some dd ∧ H dd = some (.xd fs) ∧ Q (.bl b) H
theorem call_isX {K : PySem.W.Frag} {a D : Addr} {oe : Obj} {cls : Value} {d : Option Addr} {pn : List (Addr × Obj)} (eK : X.K = K) (C : ExcC K D) (hz : Zc cls d oe) (hf : ∃ vs, oe.data = .fields vs) : CallR (X.suite a ((a, oe) :: pn)) (.builtin "isinstance") (rIsX K D a cls d) := by
  subst eK
  intro pins s σ H xs us Q I r h
  obtain ⟨c, cv, b, dd, fs, rfl, hcv, e, rfl, rfl, hdd, q⟩ := h
  cases r with
  | cons rx rr =>
    cases rr with
    | cons rt rr =>
      cases rr
      cases rx
      have ec := hcv _ rt
      subst ec
      obtain ⟨hget, _⟩ := I.pin (a, oe) (List.mem_append.mpr (.inl List.mem_cons_self))
      obtain ⟨vs, hv⟩ := hf
      have hx : ObjOk X.prog X.w H s.heap dd (.xd fs) := I.hok dd _ hdd
      obtain ⟨mA, ⟨od, es, ep, hod, _⟩, _⟩ := hx
      have J : PySem.W.InstAt s.heap a oe D (some od) := by
        obtain ⟨h1, h2⟩ := hz
        exact ⟨hget, h1, by unfold PySem.W.notCls; rw [hv] <;> rfl, by rw [h2]; exact hod⟩
      obtain ⟨cdD, hcD, _⟩ := PySem.W.any_some C.hd
      exact PySem.W.kia_one (PySem.W.kitx_exc (by rw [hcD]; rfl) C.hg C.hk C.hs C.ha C.hn C.ht C.hm) I.kIn J e (fun z => nomatch z) fun tk => ⟨.bl b, H, I.kept (t' := tk) fun _ _ z => z, rfl, q⟩
/-- "a" * 9 -/
theorem op_mulA : OpR X (binaryOp .Mult) (fun x y H Q => x = .str "a" ∧ y = .int 9 ∧ Q (.str "aaaaaaaaa") H) := by
  intro pins s σ H x y v u Q I rx ry h
  obtain ⟨rfl, rfl, q⟩ := h
  obtain ⟨t, rfl⟩ := rx
  obtain ⟨t', rfl⟩ := ry
  refine PySem.P.mul_str (by decide) (fun _ _ => by decide) (fun _ _ => by decide +kernel) ?_
  rw [if_neg (by decide), if_neg (by decide)]
  exact ⟨by decide +kernel, ⟨.str "aaaaaaaaa", H, I.tok _, ⟨_, rfl⟩, q⟩⟩
end
/-- BookError, beside NoSuch -/
structure ClsB (K : PySem.W.Frag) (mg : Str → Option Value) (CB CN : Addr) : Prop where
  g : mg "BookError" = some (.ref CB)
  ex : PySem.W.subIn K (.ref CB) (.type "BaseException") = some true
  hd : PySem.W.hasDictIn K CB = true
  ty : PySem.W.typeIn K (.ref CB) = some (.type "type")
  no : PySem.W.subIn K (.ref CN) (.ref CB) = some false
  self : PySem.W.subIn K (.ref CN) (.ref CN) = some true
  kit : PySem.W.kitOne K (.ref CN) (.ref CB) = some false
  kil : PySem.W.kitOne K (.ref CN) (.type "LookupError") = some true
  lk : mg "LookupError" = none
  cl : PySem.W.findIn K (.ref CN) "__class__" = some (some (.builtin "object.__class__"))
  sp : PySem.W.specialIn K (.builtin "object.__class__") "__get__" = some (some (.builtin "getset_descriptor.__get__"))
  tk : PySem.W.takesIn K (.builtin "object.__class__") = some true
  ob : PySem.W.mroIn K CN (.type "object") = some true
section
variable {P : Program} {K : PySem.W.Frag} {mg : Str → Option Value} {CB CN : Addr}
theorem ClsB.exc (B : ClsB K mg CB CN) (N : ClsN P K mg CN) : ExcC K CN := ⟨N.ga, N.gg, N.exC, N.hd, B.cl, B.sp, B.tk, B.ob⟩
theorem ClsB.miss (B : ClsB K mg CB CN) : PySem.W.exmOne K (.ref CN) (.ref CB) = some false := PySem.W.exm_ref B.ex B.hd B.ty B.no
theorem ClsB.hit (B : ClsB K mg CB CN) (N : ClsN P K mg CN) : PySem.W.exmOne K (.ref CN) (.ref CN) = some true := PySem.W.exm_ref N.exC N.hd N.tyC B.self
theorem no_xf (N : ClsN P K mg CN) : XfC K CN := ⟨N.ga, N.gg, N.exC, N.hd⟩
end
end Rc

namespace Rc
open PySem PySem.Spec PyProof.Rows L2 RZ PySem.Builtin.Str
/-! ### texts of plain signs -/
def Asc (x : Str) : Prop := ∀ c ∈ x.cps.toList, c < 128
instance (x : Str) : Decidable (Asc x) := inferInstanceAs (Decidable (∀ c ∈ x.cps.toList, c < 128))
theorem Asc.app {x y : Str} (a : Asc x) (b : Asc y) : Asc (x ++ y) := fun c hc => by
  have e : (x ++ y).cps.toList = x.cps.toList ++ y.cps.toList := by
    show (x.cps ++ y.cps).toList = _
    rw [Array.toList_append]
  rw [e] at hc
  rcases List.mem_append.mp hc with h | h
  · exact a c h
  · exact b c h
theorem asc2 {a b : Str} (ha : Asc a) (hb : Asc b) : ∀ t ∈ [a, b], Asc t := fun t h => by
  rcases List.mem_cons.mp h with rfl | h
  · exact ha
  · rw [List.mem_singleton.mp h]
    exact hb
theorem asc_ok {x : Str} (h : Asc x) : PyData.strOk x = true := by
  show x.cps.all (· < 0x110000) = true
  rw [← Array.all_toList, List.all_eq_true]
  exact fun c hc => decide_eq_true (Nat.lt_trans (h c hc) (by decide))
theorem quote_two (x : Str) : reprQuote x = 34 ∨ reprQuote x = 39 := by
  unfold reprQuote
  split <;> simp
theorem char_asc : ∀ q ∈ [34, 39], ∀ c < 128, ∀ d ∈ Builtin.Str.reprChar q c, d < 128 := by decide +kernel
theorem repr_asc {x : Str} (h : Asc x) : Asc (reprText x) := by
  have q2 : reprQuote x ∈ [34, 39] := by
    rcases quote_two x with e | e <;> rw [e] <;> decide
  have q3 : reprQuote x < 128 := by
    rcases quote_two x with e | e <;> rw [e] <;> decide
  unfold reprText
  generalize reprQuote x = q at q2 q3
  have go : ∀ (l : List Nat) (acc : Array Nat), (∀ c ∈ l, c < 128) → (∀ c ∈ acc.toList, c < 128) → ∀ c ∈ (l.foldl (fun out c => out ++ (Builtin.Str.reprChar q c).toArray) acc).toList, c < 128 := fun l => by
    induction l with
    | nil => exact fun _ _ ha => ha
    | cons a r ih =>
      intro acc hl ha
      refine ih _ (fun c hc => hl c (List.mem_cons_of_mem _ hc)) fun c hc => ?_
      rw [Array.toList_append] at hc
      rcases List.mem_append.mp hc with h | h
      · exact ha c h
      · exact char_asc q q2 a (hl a List.mem_cons_self) c (by simpa using h)
  intro c hc
  have hc : c ∈ ((x.cps.foldl (fun out c => out ++ (Builtin.Str.reprChar q c).toArray) #[q]).push q).toList := hc
  rw [Array.toList_push] at hc
  rcases List.mem_append.mp hc with hc | hc
  · rw [← Array.foldl_toList] at hc
    exact go _ _ h (fun c hc => by rw [List.mem_singleton.mp hc]; exact q3) c hc
  · rw [List.mem_singleton.mp hc]
    exact q3
theorem text_asc : ∀ (ts : List Str) (k : Nat) (acc : Str), Asc acc → (∀ t ∈ ts, Asc t) → Asc (textFrom k acc ts)
  | [], _, _, ha, _ => ha
  | t :: r, k, acc, ha, h => by
    refine text_asc r (k + 1) _ ((ha.app ?_).app (h t List.mem_cons_self)) fun u hu => h u (List.mem_cons_of_mem _ hu)
    split
    · exact (by decide +kernel : Asc (", " : Str))
    · exact (by decide +kernel : Asc ("" : Str))
theorem list_asc {ts : List Str} (h : ∀ t ∈ ts, Asc t) : Asc (listText ts) := (text_asc ts 0 _ (by decide +kernel : Asc ("[" : Str)) h).app (by decide +kernel : Asc ("]" : Str))
theorem shownAll_strs : ∀ zs : List Str, PyData.shownAll (zs.map .str) = zs.map reprText
  | [] => by simp [PyData.shownAll]
  | z :: r => by
    rw [List.map_cons, List.map_cons, PyData.shownAll, shownAll_strs r, PyData.shown]
theorem name_asc {z : Str} (h : nameT z = true) : Asc z := fun c hc => abc_lt c (name_signs h c hc)
theorem str_asc {z : Str} (h : Asc z) : Asc (PyData.shown (.str z)) := by
  rw [PyData.shown]
  exact repr_asc h
theorem names_asc {zs : List Str} (h : ∀ z ∈ zs, nameT z = true) : Asc (PyData.shown (.list (zs.map .str))) := by
  rw [PyData.shown, shownAll_strs]
  refine list_asc fun t ht => ?_
  obtain ⟨z, hz, rfl⟩ := List.mem_map.mp ht
  exact repr_asc (name_asc (h z hz))
theorem one_asc {z : Str} (h : nameT z = true) : Asc (PyData.shown (.tuple [.str z])) := by
  have e : PyData.shown (.tuple [.str z]) = ("(" : Str) ++ reprText z ++ (",)" : Str) := by
    simp only [PyData.shown, PyData.shownAll]
    rfl
  rw [e]
  exact ((by decide +kernel : Asc ("(" : Str)).app (repr_asc (name_asc h))).app (by decide +kernel)
/-! ### lists of plain texts -/
theorem strs_self12 : ∀ l : List Str, PyData.eqvAll (l.map PyData.str) (l.map PyData.str) = true
  | [] => by simp [PyData.eqvAll]
  | x :: r => by
    rw [List.map_cons, PyData.eqvAll, strs_self12 r]
    have : PyData.eqv (.str x) (.str x) = true := by simp [PyData.eqv]
    rw [this]
    rfl
theorem list_self12 (l : List Str) : PyData.eqv (.list (l.map PyData.str)) (.list (l.map PyData.str)) = true := by
  have := strs_self12 l
  simp only [PyData.eqv]
  exact this
theorem shaped12 {l : List Str} (h : ∀ t ∈ l, Asc t) : SeqAt.shaped (.list (l.map PyData.str)) = true := by
  have c : PyData.canLayAll0 (l.map PyData.str) = true := by
    induction l with
    | nil => rfl
    | cons a r ih =>
      rw [List.map_cons, PyData.canLayAll0, ih fun t ht => h t (List.mem_cons_of_mem _ ht), PyData.canLay0, asc_ok (h a List.mem_cons_self)]
      rfl
  have d : PyData.depthAll (l.map PyData.str) ≤ 1 := by
    induction l with
    | nil => exact Nat.zero_le _
    | cons a r ih =>
      rw [List.map_cons]
      simp only [PyData.depthAll]
      have h1 : (PyData.str a).depth ≤ 0 := by simp only [PyData.depth]; omega
      have h2 := ih (fun t ht => h t (List.mem_cons_of_mem _ ht)) (by
        rw [List.map_cons, PyData.canLayAll0, Bool.and_eq_true] at c
        exact c.2)
      omega
  unfold SeqAt.shaped
  have ec : (PyData.list (l.map PyData.str)).canLay0 = true := by rw [PyData.canLay0]; exact c
  rw [ec, decide_eq_true (show (PyData.list (l.map PyData.str)).depth ≤ 64 by simp only [PyData.depth]; omega)]
  rfl
theorem strs_dp12 {K : PySem.W.Frag} {H : Hp} {x : Addr} {l : List Str} (h : H x = some (.lst (l.map V.str))) : Dp K H (.ref x) (.list (l.map PyData.str)) := .lst (.inl (.inl h)) (DpAll.strs l)
end Rc

namespace Rc
open PySem PySem.Spec PyProof.Rows L2 RZ
theorem take_succ {α : Type} {l : List α} {i : Nat} (h : i < l.length) : l.take (i + 1) = l.take i ++ [l[i]] := by
  rw [List.take_add_one, List.getElem?_eq_getElem h]
  rfl
def wholeN (l : List (Str × Int)) : Int := (l.map (·.2)).sum
section
variable {P : Program} {w : World} {K : PySem.W.Frag} {mg : Str → Option Value} {base : Heap}
/-! ### whole_of -/
abbrev sWhOf : Stmt := inBook 9
abbrev nWhOf : List Str := ["self", "who", "to", "amount"]
theorem scWhOf : FnScope nWhOf ["self", "who"] (defScope sWhOf) := ⟨rfl, rfl, rfl, by decide +kernel, rfl, by decide +kernel, by decide +kernel⟩
theorem ok_whOf {f fn C : Addr} {fd fdn : FuncData} (F : Fun K "whole_of" "Book.whole_of" sWhOf f fd) (T : ClsF K C) (B3 : Blt3 mg) (NT : HasM P w K mg base C 4 "notes" ["self", "who"] (spRow K C fun l _ => l) fn fdn) :
    FnOk P w K mg base CX0 5 f fd ["self", "who"] (spCalc K C fun M j _ => wholeN (M.stacks.getD j [])) := by
  refine F.ok scWhOf (fun vs H Q E h => ?_) (fun cdv A outer s H vs Q E hr h => ?_)
  · obtain ⟨_, _, _, _, rfl, _⟩ := h
    rfl
  · obtain ⟨b, M, z, j, rfl, hb, ok, ej, q⟩ := h
    refine ⟨_, pss_one (ps_ret (pe_callB (cr_sum rfl) (by rfl) B3.sum (by decide +kernel) (pa_cons
          (pe_lc (own := [("to", 2), ("amount", 3)]) (g := gTup K 2 (gCons (gName 2) (gCons (gName 3) gNil))) (tt := tYes) rfl scWhOf.nd (pi_list (pe_meth (pv 0) T.cl NT.m NT.ok hr NT.b .nil pass0 (pa_cons (pv 1) pa_nil))) (blkOk_by (N := nWhOf) (sc := defScope sWhOf) (own := [("to", 2), ("amount", 3)]) (by decide +kernel))
            (fun _ _ _ _ _ => pg_tup rfl (pgs_cons (pg_name (i := 2) scWhOf.nd rfl (.inl rfl) (hf := .inr rfl)) (pgs_cons (pg_name (i := 3) scWhOf.nd rfl (.inl rfl) (hf := .inr rfl)) pgs_nil)))
            (fun _ _ _ _ _ => pts_nil) (fun _ _ _ _ _ => pv 3)) pa_nil))), ?_⟩
    obtain ⟨g, l, d, eg, el, ed, ll⟩ := ok.at_ ej
    obtain ⟨dx, tn, on, wg, ws, wd, e, h1, hn, h2, h3, h4⟩ := hb.ex
    refine ⟨.ref b, rfl, b, dx, _, rfl, e, bf_no (NoF.mk' (by decide +kernel)), .str z, rfl, b, M, z, j, l, d, rfl, hb, ok.names, ej, el, ed, by omega, fun r xs H1 s1 nr hr1 dr => ⟨r, rfl, ⟨_, .inl (.inl hr1)⟩, fun D nD => ?_⟩⟩
    have lx : xs.length = l.length := by
      rw [dr.len]
      unfold notesD
      rw [List.length_map]
    refine lc_it (walk_list (K := K) (a := r) (xs := xs)) (fun i H' => Same H1 H' ∧ H' D = some (.lst ((l.take i).map fun n => .int n.2))) ⟨same_upd nD, upd_same⟩ (fun i H' _ hP => hP.1.seq (.inl (.inl hr1)))
      (fun i x H2' H2 hi hP hY => ?_) (fun H2 hP => ?_)
    · obtain ⟨rfl, hx⟩ := hY
      obtain ⟨hil, dn⟩ := (DtAll.same hP.1 _ dr).notes_get hx
      obtain ⟨na, rfl, qn⟩ := note_inv dn
      refine ⟨na, _, rfl, qn, rfl, _, _, rfl, _, _, rfl, rfl, rfl, _, rfl, _, hP.2, ?_, fun c o ec => ?_, ?_⟩
      · rw [List.length_map, List.length_take]
        exact small1000 (by omega)
      · rw [upd_ne (ne_of_none ec nD)]
        exact hP.1 c o ec
      · rw [upd_same, take_succ hil, List.map_append]
        rfl
    · refine ⟨D, l.map (·.2), rfl, .inl (.inl ?_), ?_⟩
      · rw [hP.2, lx, List.take_length, List.map_map]
        rfl
      have qq : Q (V.int (wholeN (M.stacks.getD j []))) H2 := q H2 (s1.trans hP.1)
      rw [getD_of el] at qq
      exact qq
end
end Rc

set_option pp.maxSteps 700
namespace Rc
open PySem PySem.Spec PyProof.Rows L2 RZ
/-! ### NoBook -/
abbrev sNoB : Stmt := inClass (topS 3) 0
theorem txNoB : EX.Txt sNoB ["what", "who"] :=
  ⟨by simp, by decide, rfl, rfl, rfl, by decide +kernel, rfl, rfl, rfl, fun f hf => by
      rcases List.mem_cons.mp hf with rfl | hf
      · exact ⟨rfl, by decide, by decide⟩
      · obtain rfl := List.mem_singleton.mp hf
        exact ⟨rfl, by decide, by decide⟩, by decide, ⟨_, rfl, rfl⟩,
    fun _ _ _ _ _ _ _ _ vs hl => match vs, hl with | [v, u], _ => rfl, ⟨_, _, _, _, _, _, _, _, rfl, ⟨_, fun _ => rfl⟩, .cons (.cons .nil)⟩⟩
abbrev ClsNoB (P : Program) (K : PySem.W.Frag) (mg : Str → Option Value) (CN : Addr) : Prop :=
  EX.Cx' P K mg "NoBook" sNoB ["what", "who"] "ValueError" "ValueError.__new__" "ValueError.__init__" [.type "ValueError", .type "Exception", .type "BaseException", .type "object"] CN
/-! C(e, ..) within a try -/
section
variable {X : Cx} {CX : CXT} {k : Nat} {f C : Addr} {fd : FuncData} {ps : List Str} {sp : Sp} {E : L2.St → XK} {x : Str} {p pos : Pos} {e : Expr} {es : List Expr} {t : TA}
def tMakeP (C : Addr) (sp : Sp) (E : L2.St → XK) (t : TA) : TE := fun σ H Q => t σ H fun vs H1 => ∀ x dx, H1 x = none → H1 dx = none → dx ≠ x →
  sp (.ref x :: vs) (upd (upd H1 dx (.own x)) x (.ins C dx [])) (fun v H2 => v = .non ∧ Q (.ref x) H2) (E σ)
theorem run_makeP {pins : List (Addr × Obj)} {σ : L2.St} {H : Hp} {s : Shared} {Q : VK} {us : List Value} {vs : List V} (M : Mk X.K C f) (F : FnOk X.prog X.w X.K X.mg X.base CX k f fd ps sp) (hr : Room (k + 1) X.A) (hb : Binds X.K fd ps [])
    (hx : PassesAt CX X σ (E σ)) (I : Inv X pins σ H s) (r : Vals vs us)
    (h : ∀ x dx, H x = none → H dx = none → dx ≠ x → sp (.ref x :: vs) (upd (upd H dx (.own x)) x (.ins C dx [])) (fun v H2 => v = .non ∧ Q (.ref x) H2) (E σ)) :
    wpAny (model X.prog X.w) X.A (call (.ref C) us) (EP X pins σ Q) X.xe s := by
  have hq := h (s.heap.objs.size + 1) s.heap.objs.size (I.hok.fresh (Nat.le_succ _)) (I.hok.fresh (Nat.le_refl _)) (Nat.ne_of_lt (Nat.lt_succ_self _))
  have I2 := Inv.made (C := C) I
  have r2 : Vals (V.ref (s.heap.objs.size + 1) :: vs) (Value.ref (s.heap.objs.size + 1) :: us) := .cons rfl r
  have hl : (Value.ref (s.heap.objs.size + 1) :: us).length = ps.length := by
    have e := r2.length
    rw [F.len _ _ _ _ hq] at e
    exact e.symm
  have b := hb _ (Value.ref (s.heap.objs.size + 1) :: us) I2.kIn (by rw [List.append_nil]; exact hl)
  rw [List.append_nil] at b
  refine wpAny_call (make_map (f := f) I.kIn M.makes M.init (beq_iff_eq.mp M.fn) (codeAny_mono (F.run _ X.stack _ _ ⟨Value.ref (s.heap.objs.size + 1) :: us, []⟩ (Value.ref (s.heap.objs.size + 1) :: us) _ _ (E σ) (hr.make C us [])
    (I2.env0.make C us []) b r2 hq) fun r s' hq' => ?_))
  cases r with
  | error e => exact hx pins _ _ e s' I2 hq'
  | ok fl =>
    cases fl with
    | ret u =>
      obtain ⟨v, H', I3, rv, ev, q3⟩ := I2.after hq'
      subst ev
      exact ⟨rv, ⟨V.ref (s.heap.objs.size + 1), H', I3, rfl, q3⟩⟩
    | next => exact False.elim hq'
    | brk => exact False.elim hq'
    | cont => exact False.elim hq'
theorem pe_makeP (M : Mk X.K C f) (F : FnOk X.prog X.w X.K X.mg X.base CX k f fd ps sp) (hr : Room (k + 1) X.A) (hg : Gl X x) (hm : X.mg x = some (.ref C)) (hb : Binds X.K fd ps []) (hx : ∀ σ, PassesAt CX X σ (E σ))
    (ha : PA X (e :: es) t) (hdb : (x == ("__debug__" : Str)) = false := by decide) (he : starEach (e :: es) X.env = (false, eval e X.env) :: starEach es X.env := by rfl) (hpl : (backTo pos (starEach es X.env)).any (·.1) = false := by rfl) :
    PE X (.Call (.Name x p) (e :: es) [] pos) (tMakeP C sp E t) := by
  refine ⟨fun pins s σ H Q I h => ?_⟩
  refine wpAny_Call_Name_kw (ld_glob I hg hm ?_ hdb)
  refine PySem.W.callWith_K (h₀ := X.base) I.ok.mod.kin M.kp (thn (ha.run pos pins s σ H _ I h) fun us s1 ⟨vs, H1, I1, r, q⟩ => ⟨I1.kIn, ?_⟩) he hpl
  exact run_makeP M F hr hb (hx σ) I1 r q
end
def listD : PyData → Bool
  | .list _ => true
  | _ => false
theorem kit_list {K : PySem.W.Frag} (d : PyData) : PySem.W.kitOne K (.type (tyD d)) (.type "list") = some (listD d) :=
  match d with
  | PyData.none => kit_ty (a := "NoneType") (b := "list") (r := false) (by decide +kernel)
  | .bool _ => kit_ty (a := "bool") (b := "list") (r := false) (by decide +kernel)
  | .int _ => kit_ty (a := "int") (b := "list") (r := false) (by decide +kernel)
  | .str _ => kit_ty (a := "str") (b := "list") (r := false) (by decide +kernel)
  | .list _ => kit_ty (a := "list") (b := "list") (r := true) (by decide +kernel)
  | .tuple _ => kit_ty (a := "tuple") (b := "list") (r := false) (by decide +kernel)
  | .dict _ => kit_ty (a := "dict") (b := "list") (r := false) (by decide +kernel)
/-- what is told of a thing that is no name -/
def whoV (n : Nat) : PyData → V
  | .str z => .str z
  | _ => .str (Str.ofString (toString ((n : Nat) : Int)))
/-- what is no list of persons, and what is told of it -/
def BadQ (K : PySem.W.Frag) (H : Hp) (v w1 w2 : V) : Prop :=
  (∃ d, Dt K H v d ∧ listD d = false ∧ w1 = .str "persons" ∧ w2 = .str "persons") ∨
  (∃ (a : Addr) (xs : List V), v = .ref a ∧ H a = some (.lst xs) ∧ (xs = [] ∨ 12 < xs.length) ∧ w1 = .str "persons" ∧ w2 = .str "persons") ∨
  (∃ (a : Addr) (zs : List Str) (x : V) (rest : List V), v = .ref a ∧ H a = some (.lst (zs.map V.str ++ x :: rest)) ∧ zs.length + 1 + rest.length ≤ 12 ∧ zs.Nodup ∧ (∀ z ∈ zs, nameT z = true) ∧
    ((∃ z, x = .str z ∧ z ∈ zs ∧ w1 = .str "again" ∧ w2 = .str z) ∨ (∃ d, Dt K H x d ∧ ShortD d ∧ nameD d = false ∧ w1 = .str "name" ∧ w2 = whoV zs.length d)))
theorem BadQ.same {K : PySem.W.Frag} {H H' : Hp} {v w1 w2 : V} (h : BadQ K H v w1 w2) (s : Same H H') : BadQ K H' v w1 w2 := by
  rcases h with ⟨d, hd, h⟩ | ⟨a, xs, e, ha, h⟩ | ⟨a, zs, x, rest, e, ha, l, nd, nm, h⟩
  · exact .inl ⟨d, Dt.same s _ hd, h⟩
  · exact .inr (.inl ⟨a, xs, e, s _ _ ha, h⟩)
  · refine .inr (.inr ⟨a, zs, x, rest, e, s _ _ ha, l, nd, nm, ?_⟩)
    rcases h with h | ⟨d, hd, h⟩
    · exact .inl h
    · exact .inr ⟨d, Dt.same s _ hd, h⟩
def ENB (CN : Addr) (E : XK) (H : Hp) (w1 w2 : V) : Prop := ∀ H' dd, Same H H' → H dd = none → H' dd = some (.xd [("who", w2), ("what", w1)]) → E (.ref CN) (some dd) H'
theorem ENB.same {CN : Addr} {E : XK} {H H1 : Hp} {w1 w2 : V} (h : ENB CN E H w1 w2) (s : Same H H1) : ENB CN E H1 w1 w2 := fun H' dd s1 nd hd => h H' dd (s.trans s1) (s.free nd) hd
section
variable {P : Program} {w : World} {K : PySem.W.Frag} {mg : Str → Option Value} {base : Heap}
def spCkX (K : PySem.W.Frag) (CN : Addr) : Sp := fun vs H _ E => ∃ v w1 w2, vs = [v] ∧ BadQ K H v w1 w2 ∧ ENB CN E H w1 w2
theorem no_checkP {f fN CN : Addr} {fd fdN : FuncData} (F : Fun K "check_persons" "check_persons" sCheckP f fd) (B : Blt mg) (B3 : Blt3 mg) (NB : ClsNoB P K mg CN) (gM : ∃ t, mg "MOST_PERSONS" = some (.int 12 t))
    (N : Has P w K mg base 1 "is_name" ["thing"] (spBool K nameD) fN fdN) : FnOk P w K mg base (L2.CX P w) 2 f fd ["persons"] (spCkX K CN) := by
  obtain ⟨tM, gM⟩ := gM
  refine F.okX scCheckP (fun vs H Q E h => ?_) (fun cdv A outer s H vs Q E hr h => ?_)
  · obtain ⟨_, _, _, rfl, _⟩ := h
    rfl
  · obtain ⟨v, w1, w2, rfl, bad, q⟩ := h
    refine ⟨_, pss_cons (ps_if (PW.pt (pw_or (pt_not (pt_val (pe_callB call_isi (by rfl) B.isi (by decide +kernel) (pa_cons (pv 0) (pa_cons (pe_bltn (v := .ty "list") (by rfl) B3.list (by decide +kernel) rfl) pa_nil)))))
        (pw_or (pt_cmpR op_lt (pe_callB call_len_seq (by rfl) B.len PySem.boot_len (pa_cons (pv 0) pa_nil)) pe_int (nomark _))
        (pw_or1 (pt_cmpR op_gt (pe_callB call_len_seq (by rfl) B.len PySem.boot_len (pa_cons (pv 0) pa_nil)) (pe_glob (v := .int 12) (by rfl) gM ⟨_, rfl⟩) (nomark _))))))
          (pss_one (ps_raise rfl (takes_of rfl rfl rfl rfl) (pmk_ex NB txNoB EX.base_Value hr (pa_cons pe_str (pa_cons pe_str pa_nil)) (by rfl)))) pss_nil)
      (pss_one (ps_for (passes_of rfl) rfl (pi_enum (by rfl) B3.enumerate (pa_cons (pv 0) pa_nil)) (pg_tup rfl (pgs_cons (pg_name (i := 1) scCheckP.nd rfl (.inl rfl)) (pgs_cons (pg_name (i := 2) scCheckP.nd rfl (.inl rfl)) pgs_nil)))
        (pss_cons (ps_if (pt_not (pt_val (pe_call N.ok hr (by rfl) N.g N.kp N.b .nil pass0 (pa_cons (pv 2) pa_nil))))
          (pss_one (ps_raise rfl (takes_of rfl rfl rfl rfl) (pmk_ex NB txNoB EX.base_Value hr (pa_cons pe_str (pa_cons (pe_ifExp (pt_val (pe_callB call_isi (by rfl) B.isi (by decide +kernel) (pa_cons (pv 2) (pa_cons (pe_bltn (v := .ty "str") (by rfl) B.str (by decide +kernel) rfl) pa_nil)))) (pv 2) (pe_callTy call_str_int (by rfl) B.str (by decide +kernel) (pa_cons (pv 1) pa_nil))) pa_nil)) (by rfl)))) pss_nil)
        (pss_one (ps_if (pt_cmpR op_in_seq (pv 2) (pe_slice sl_list (pv 0) po_none (po_some (pv 1))) (by rfl))
          (pss_one (ps_raise rfl (takes_of rfl rfl rfl rfl) (pmk_ex NB txNoB EX.base_Value hr (pa_cons pe_str (pa_cons (pv 2) pa_nil)) (by rfl)))) pss_nil))))), ?_⟩
    have out : ∀ {H1 : Hp}, Same H H1 → ∀ dd, H1 dd = none → E (.ref CN) (some dd) (upd H1 dd (.xd [("who", w2), ("what", w1)])) := fun s1 dd nd => q _ dd (s1.trans (same_upd nd)) (s1.free nd) upd_same
    rcases bad with ⟨d, hd, ld, rfl, rfl⟩ | ⟨a, xs, rfl, ha, hl, rfl, rfl⟩ | ⟨a, zs, x, rest, rfl, ha, l11, znd, znm, hx⟩
    · refine ⟨v, rfl, v, .ty "list", _, _, listD d, rfl, .ty "list", hd.ty, kit_list d, _, rfl, ?_⟩
      rw [ld]
      exact iteT ⟨rfl, fun dd nd => out (Same.refl _) dd nd⟩
    · have sq : SqL K H a xs := .inl (.inl ha)
      refine ⟨.ref a, rfl, _, .ty "list", _, _, true, rfl, .ty "list", .base (.lst ha), kit_ty (by decide +kernel), _, rfl, iteF ?_⟩
      refine ⟨.ref a, rfl, a, _, rfl, .inl sq, _, _, rfl, rfl, _, rfl, ite2 (fun _ => ⟨rfl, fun dd nd => out (Same.refl _) dd nd⟩) (fun c => ?_)⟩
      refine ⟨.ref a, rfl, a, _, rfl, .inl sq, _, _, rfl, rfl, _, rfl, ?_⟩
      have c' : ¬ ((xs.length : Int) < 1) := by simpa using c
      rw [show decide ((12 : Int) < (xs.length : Int)) = true from decide_eq_true (by
        rcases hl with rfl | h
        · exact absurd (by decide) c'
        · omega)]
      exact iteT ⟨rfl, fun dd nd => out (Same.refl _) dd nd⟩
    · have sq : SqL K H a (zs.map V.str ++ x :: rest) := .inl (.inl ha)
      have lx : (zs.map V.str ++ x :: rest).length = zs.length + (rest.length + 1) := by rw [List.length_append, List.length_map]; rfl
      refine ⟨.ref a, rfl, _, .ty "list", _, _, true, rfl, .ty "list", .base (.lst ha), kit_ty (by decide +kernel), _, rfl, iteF ?_⟩
      refine ⟨.ref a, rfl, a, _, rfl, .inl sq, _, _, rfl, rfl, _, rfl, ?_⟩
      rw [show decide (((zs.map V.str ++ x :: rest).length : Int) < 1) = false from decide_eq_false (by rw [lx]; omega)]
      refine iteF ⟨.ref a, rfl, a, _, rfl, .inl sq, _, _, rfl, rfl, _, rfl, ?_⟩
      rw [show decide ((12 : Int) < ((zs.map V.str ++ x :: rest).length : Int)) = false from decide_eq_false (by rw [lx]; omega)]
      refine iteF ⟨.ref a, rfl, a, _, rfl, sq, ?_⟩
      refine for_it (walk_enum (xs := zs.map V.str ++ x :: rest)) (fun i σ H' => i ≤ zs.length ∧ ∃ y1 y2, σ = [some (.ref a), y1, y2] ∧ Same H H') ⟨Nat.zero_le _, _, _, rfl, Same.refl _⟩ (fun i σ H' _ hP => ?_) (fun i x σ H1' H1 hi hP hY => ?_) (fun σ H' hP => ?_)
      · obtain ⟨_, _, _, _, s⟩ := hP
        exact s.seq sq
      · obtain ⟨T, x1, x2, rfl, nT, rfl, e1, e2⟩ := hY
        obtain ⟨il, y1, y2, rfl, s1⟩ := hP
        cases e1
        have s2 := s1.trans (same_upd (o := .tup [V.int (i : Nat), x2]) nT)
        refine ⟨T, _, rfl, .inl (.inl upd_same), rfl, _, _, rfl, _, _, rfl, rfl, ?_⟩
        have e2' : (zs.map V.str ++ x :: rest)[i]? = some x2 := e2
        have tk : ∀ z : Str, nameT z = true → z.length ≤ 1000 := fun z h => by have := (nameT_len h).2; omega
        by_cases hz : i < zs.length
        · have ex : x2 = .str zs[i] := by
            rw [List.getElem?_append_left (by rw [List.length_map]; exact hz), List.getElem?_map, List.getElem?_eq_getElem hz] at e2'
            exact (Option.some.inj e2').symm
          subst ex
          have hm : zs[i] ∈ zs := List.getElem_mem hz
          have nm := znm _ hm
          refine ⟨.str zs[i], rfl, .str zs[i], .str zs[i], rfl, .str _, fun z e => by cases e; exact tk _ nm, fun H2 sm => ⟨_, rfl, ?_⟩⟩
          rw [show nameD (.str zs[i]) = true from nm]
          refine iteF ⟨.str zs[i], rfl, .ref a, rfl, .int (i : Nat), rfl, _, rfl, a, _, rfl, sm.seq (s2.seq sq), fun p np => ?_⟩
          rw [cut_take, List.take_append_of_le_length (by rw [List.length_map]; omega), ← List.map_take]
          refine ⟨p, _, rfl, .inl (.inl (.inl upd_same)), rfl, flat_strs _, _, rfl, ?_⟩
          have no : ¬ zs[i] ∈ zs.take i := fun z => by
            obtain ⟨j, hj, e⟩ := List.getElem_of_mem z
            rw [List.length_take] at hj
            rw [List.getElem_take] at e
            have := (List.getElem_inj znd).mp e
            omega
          show if inV (.str zs[i]) ((zs.take i).map V.str) = true then _ else _
          rw [inV_strs, decide_eq_false no]
          exact iteF ⟨by omega, _, _, rfl, s2.trans (sm.trans (same_upd np))⟩
        · have ei : i = zs.length := by omega
          subst ei
          have ex : x2 = x := by
            rw [List.getElem?_append_right (by rw [List.length_map]; exact Nat.le_refl _), List.length_map, Nat.sub_self] at e2'
            exact (Option.some.inj e2').symm
          subst ex
          rcases hx with ⟨z, rfl, hz, rfl, rfl⟩ | ⟨d, hd, sd, nn, rfl, rfl⟩
          · have nm := znm _ hz
            refine ⟨.str z, rfl, .str z, .str z, rfl, .str _, fun z e => by cases e; exact tk _ nm, fun H2 sm => ⟨_, rfl, ?_⟩⟩
            rw [show nameD (.str z) = true from nm]
            refine iteF ⟨.str z, rfl, .ref a, rfl, .int (zs.length : Nat), rfl, _, rfl, a, _, rfl, sm.seq (s2.seq sq), fun p np => ?_⟩
            rw [cut_take, List.take_append_of_le_length (by rw [List.length_map]; omega), ← List.map_take, List.take_length]
            refine ⟨p, _, rfl, .inl (.inl (.inl upd_same)), rfl, flat_strs _, _, rfl, ?_⟩
            show if inV (.str z) (zs.map V.str) = true then _ else _
            rw [inV_strs, decide_eq_true hz]
            exact iteT ⟨.str z, rfl, rfl, fun dd nd => out (s2.trans (sm.trans (same_upd np))) dd nd⟩
          · have hd2 := Dt.same s2 _ hd
            refine ⟨x2, rfl, x2, d, rfl, hd2, sd, fun H2 sm => ⟨_, rfl, ?_⟩⟩
            rw [nn]
            have hd3 := Dt.same sm _ hd2
            refine iteT ⟨x2, rfl, x2, .ty "str", _, _, strD d, rfl, .ty "str", hd3.ty, kit_str d, _, rfl, ?_⟩
            cases hs : strD d with
            | true =>
              obtain ⟨z, rfl⟩ : ∃ z, d = .str z := by cases d <;> first | exact ⟨_, rfl⟩ | cases hs
              obtain rfl : x2 = .str z := by
                cases hd3
                rfl
              exact iteT ⟨.str z, rfl, rfl, fun dd nd => out (s2.trans sm) dd nd⟩
            | false =>
              have ew : whoV zs.length d = .str (Str.ofString (toString ((zs.length : Nat) : Int))) := by cases d <;> first | rfl | cases hs
              rw [ew] at out
              refine iteF ⟨.int (zs.length : Nat), rfl, _, rfl, ?_, rfl, fun dd nd => out (s2.trans sm) dd nd⟩
              have h11 : zs.length < 12 := by omega
              have := (by decide : ∀ n, n < 12 → ((n : Nat) : Int).natAbs.log2 < 10) _ h11
              omega
      · obtain ⟨hle, _⟩ := hP
        rw [lx] at hle
        omega
def spInX (K : PySem.W.Frag) (CN : Addr) : Sp := fun vs H _ E => ∃ x v w1 w2, vs = [.ref x, v] ∧ BadQ K H v w1 w2 ∧ ENB CN E H w1 w2
theorem no_init {f fc C CN : Addr} {fd fdc : FuncData} (F : Fun K "__init__" "Book.__init__" sInit f fd) (CP : HasX P w K mg base 2 "check_persons" ["persons"] (spCkX K CN) fc fdc) : FnOk P w K mg base (L2.CX P w) 3 f fd ["self", "persons"] (spInX K CN) := by
  refine F.okX scInit (fun vs H Q E h => ?_) (fun cdv A outer s H vs Q E hr h => ?_)
  · obtain ⟨_, _, _, _, rfl, _⟩ := h
    rfl
  · obtain ⟨x, v, w1, w2, rfl, bad, q⟩ := h
    exact ⟨_, pss_cons (ps_expr (pe_call CP.ok hr (by rfl) CP.g CP.kp CP.b .nil (passes_call (takes_of rfl rfl rfl rfl) fun _ _ _ _ z => z) (pa_cons (pv 1) pa_nil))) pss_never, v, rfl, v, w1, w2, rfl, bad, q⟩
end
end Rc

namespace Rc
open PySem PySem.Spec PyProof.Rows L2 RZ
section
variable {X : Cx}
/-- list(x), the new one not where modules stand -/
def rListN (K : PySem.W.Frag) : List V → Hp → VK → Prop := fun xs H Q => ∃ p ys, xs = [.ref p] ∧ (SqL K H p ys ∨ SqT K H p ys) ∧ ∀ l, H l = none → l ≠ sysModules → Q (.ref l) (upd H l (.lst ys))
theorem fresh_sys {pins : List (Addr × Obj)} {σ : L2.St} {H : Hp} {s : Shared} (I : Inv X pins σ H s) : s.heap.objs.size ≠ sysModules := by
  have := I.big
  intro e
  rw [e] at this
  exact absurd this (by decide)
theorem call_listN {K : PySem.W.Frag} (eK : X.K = K) : CallR X (.type "list") (rListN K) := by
  subst eK
  intro pins s σ H xs us Q I r h
  obtain ⟨p, ys, rfl, hq, q⟩ := h
  obtain ⟨u, rfl, rx⟩ := vals1 r
  cases rx
  have fin : ∀ (its : List Value), Vals ys its → ys.length ≤ sizeLine → ∀ (h' : Heap) (c' : Nat), (∀ b o', s.heap.get? b = some o' → h'.get? b = some o') →
      h'.get? s.heap.objs.size = some { cls := .type "list", dict := none, data := .seq its.toArray c', slots := #[] } → EP X pins σ Q (.ref s.heap.objs.size) { s with heap := h' } := fun its r' hz h' c' kp e =>
    ⟨.ref s.heap.objs.size, _, I.laid (t' := s.toks) kp (Nat.le_refl _) (show ObjOk X.prog X.w _ h' _ (.lst ys) from ⟨hz, its, c', r', e⟩), rfl, q _ (I.hok.fresh (Nat.le_refl _)) (fresh_sys I)⟩
  rcases hq with hq | hq
  · obtain ⟨its, r', pl, hz⟩ := I.list hq
    have hlen := r'.length
    obtain ⟨o, ho, hc, n, hd⟩ := pl.isList
    exact call_list_seq p (.inl rfl) ho hc hd (fun h' c' kp e => fin its r' hz h' c' kp e) (by simp only [List.size_toArray] <;> omega)
  · obtain ⟨its, r', pl, hz⟩ := I.tuple hq
    have hlen := r'.length
    obtain ⟨o, ho, hc, n, hd⟩ := pl
    exact call_list_seq p (.inr rfl) ho hc hd (fun h' c' kp e => fin its r' hz h' c' kp e) (by simp only [List.size_toArray] <;> omega)
/-! ### repr of a list in which there may be dicts -/
inductive FlD (H : Hp) : List V → List PyData → Prop
  | nil : FlD H [] []
  | flat {v : V} {d : PyData} {vs : List V} {ds : List PyData} : Flat v d → FlD H vs ds → FlD H (v :: vs) (d :: ds)
  | dct {a : Addr} {kvs : List (Key × V)} {ps : List (PyData × PyData)} {vs : List V} {ds : List PyData} : H a = some (.dK kvs) → Flats (kvs.map fun p => kV p.1) (ps.map (·.1)) → Flats (kvs.map (·.2)) (ps.map (·.2)) → FlD H vs ds → FlD H (.ref a :: vs) (.dict ps :: ds)
theorem FlD.reads {pins : List (Addr × Obj)} {σ : L2.St} {H : Hp} {s : Shared} (I : Inv X pins σ H s) : ∀ {vs : List V} {ds : List PyData} {us : List Value}, FlD H vs ds → Vals vs us → ∃ as, ReadsAll s.heap us ds as ∧ sysModules ∉ as
  | _, _, _, .nil, .nil => ⟨_, .nil, by simp⟩
  | _, _, _, .flat f r, .cons r1 r2 => by
    obtain ⟨as, q, n⟩ := FlD.reads I r r2
    exact ⟨_, .cons (f.reads r1) q, by simpa using n⟩
  | _, _, _, .dct e fk fv r, .cons r1 r2 => by
    obtain ⟨as, q, n⟩ := FlD.reads I r r2
    cases r1
    obtain ⟨_, ns, vs, kv, o, es, ep, ho, hx, hd, _, hp, _⟩ := I.hok _ _ e
    obtain ⟨a, b⟩ := keys_rel hp kv
    refine ⟨_, .cons (.dict ho hx.1 hd (fk.reads a) (fv.reads b)) q, fun z => ?_⟩
    rcases List.mem_append.mp z with z | z
    · have z' := List.mem_singleton.mp (by simpa using z)
      rw [← z'] at ns
      simp at ns
    · exact n z
def rReprM (K : PySem.W.Frag) : List V → Hp → VK → Prop := fun xs H Q => ∃ (a : Addr) (vs : List V) (ds : List PyData), xs = [.ref a] ∧ SqL K H a vs ∧ a ≠ sysModules ∧ FlD H vs ds ∧ (PyData.list ds).showable = true ∧ (PyData.list ds).depth ≤ 20 ∧ (PyData.list ds).shown.length ≤ sizeLine ∧ Q (.str (PyData.list ds).shown) H
theorem call_reprM {k : Nat} (hr : Room k X.A) (hg : X.A.guards = some []) : CallR X (.builtin "repr") (rReprM X.K) := by
  intro pins s σ H xs us Q I r h
  obtain ⟨a, vs, ds, rfl, hs, na, fd, sh, dp, hz, q⟩ := h
  obtain ⟨u, rfl, ru⟩ := vals1 r
  cases ru
  obtain ⟨its, rv, ⟨o, n, ho, hc, _, hd⟩, _⟩ := I.list hs
  obtain ⟨as, rd, nsm⟩ := fd.reads I rv
  have hu := hr.units
  refine repr_of_reads' (.list ho hc hd rd) sh (fun _ z => ?_) hg (by omega) (fun _ _ e => e) (fun h' t tk hk => ⟨.str _, H, I.kept hk, ⟨t, rfl⟩, q⟩) hz
  rcases List.mem_cons.mp z with z | z
  · exact na z.symm
  · exact nsm z
end
/-- either -/
def rReprE (K : PySem.W.Frag) : List V → Hp → VK → Prop := fun xs H Q => rRepr K xs H Q ∨ rReprM K xs H Q
theorem call_reprE {X : Cx} {k : Nat} (hr : Room k X.A) (hg : X.A.guards = some []) : CallR X (.builtin "repr") (rReprE X.K) := fun pins s σ H xs us Q I r h => h.elim (call_repr hr hg pins s σ H xs us Q I r) (call_reprM hr hg pins s σ H xs us Q I r)
/-- lists of things that can be shown -/
structure NiceB (ds : List PyData) (n : Nat) : Prop where
  sh : PyData.showableAll ds = true
  lv : PyData.leavesShortAll 1921 ds = true
  dp : PyData.depthAll ds ≤ 4
  bk : PyData.bulkAll ds ≤ n
theorem NiceB.nil : NiceB [] 0 := ⟨rfl, rfl, Nat.zero_le _, Nat.le_refl _⟩
theorem NiceB.cons {d : PyData} {ds : List PyData} {n m : Nat} (sh : d.showable = true) (lv : d.leavesShort 1921 = true) (dp : d.depth ≤ 4) (bk : d.bulk ≤ n) (b : NiceB ds m) : NiceB (d :: ds) (n + 1 + m) := by
  refine ⟨?_, ?_, ?_, ?_⟩
  · simp only [PyData.showableAll, sh, b.sh]; rfl
  · simp only [PyData.leavesShortAll, lv, b.lv]; rfl
  · simp only [PyData.depthAll]; have := b.dp; omega
  · simp only [PyData.bulkAll]; have := b.bk; omega
theorem NiceB.show {ds : List PyData} {n : Nat} (b : NiceB ds n) (hn : n ≤ 8000) : (PyData.list ds).showable = true ∧ (PyData.list ds).depth ≤ 20 ∧ (PyData.list ds).shown.length ≤ sizeLine := by
  refine ⟨by simp only [PyData.showable]; exact b.sh, by simp only [PyData.depth]; have := b.dp; omega, ?_⟩
  have h1 := PyData.shown_le_bulk 1921 (by decide) (.list ds) (by simp only [PyData.leavesShort]; exact b.lv)
  have h2 : (PyData.list ds).bulk ≤ n := by simp only [PyData.bulk]; exact b.bk
  rw [sizeLine_eq]
  have : (1921 + 2) * (PyData.list ds).bulk ≤ 1923 * 8000 := Nat.mul_le_mul (Nat.le_refl _) (by omega)
  omega
end Rc

namespace Rc
open PySem PySem.Spec PyProof.Rows L2 RZ
/-! ### data, whatever becomes of the pot -/
def DB (K : PySem.W.Frag) (p : Addr) (H : Hp) (v : V) (d : PyData) : Prop := ∀ G : Hp, But p H G → Dt K G v d
theorem But.self {p : Addr} (H : Hp) : But p H H := fun _ _ _ e => e
theorem DB.step {K : PySem.W.Frag} {p : Addr} {H H' : Hp} {v : V} {d : PyData} (h : DB K p H v d) (b : But p H H') : DB K p H' v d := fun G g => h G (b.trans g)
theorem DB.dt {K : PySem.W.Frag} {p : Addr} {H : Hp} {v : V} {d : PyData} (h : DB K p H v d) : Dt K H v d := h H (But.self H)
/-- data of new objects alone -/
def NF (K : PySem.W.Frag) (H H' : Hp) (v : V) (d : PyData) : Prop := ∀ G : Hp, (∀ c o, H c = none → H' c = some o → G c = some o) → Dt K G v d
/-- a thing that is no name -/
structure Od11 (d : PyData) : Prop where
  so : ShowOk d
  sd : ShortD d
  as : Asc d.shown
  nn : nameD d = false
  az : ∀ z, d = .str z → Asc z
  lv : d.leavesShort 1921 = true
  d3 : d.depth ≤ 3
  bk : d.bulk ≤ 20
section
variable {P : Program} {w : World} {K : PySem.W.Frag} {mg : Str → Option Value} {base : Heap}
/-! ### _law_odd -/
abbrev sLOd : Stmt := topS 35
abbrev nLOd : List Str := ["_law_pot_here", "_law_some"]
theorem scLOd : FnScope nLOd ["_law_pot_here"] (defScope sLOd) := ⟨rfl, rfl, rfl, by decide +kernel, rfl, by decide +kernel, by decide +kernel⟩
def spLOd (K : PySem.W.Frag) : Sp := fun vs H Q _ => ∃ (p : Addr), vs = [.ref p] ∧ Pot H p ∧ ∀ v d H', Pot H' p → But p H H' → NF K H H' v d → Od11 d → Q v H'
set_option maxHeartbeats 2000000 in
theorem ok_lod {f fT : Addr} {fd fdT : FuncData} (F : Fun K "_law_odd" "_law_odd" sLOd f fd) (B : Blt mg) (TK : HasTake P w K mg base fT fdT) : FnOk P w K mg base CX0 2 f fd ["_law_pot_here"] (spLOd K) := by
  refine F.ok scLOd (fun vs H Q E h => ?_) (fun cdv Ar outer s H vs Q E0 hr h => ?_)
  · obtain ⟨_, rfl, _⟩ := h
    rfl
  · obtain ⟨p, rfl, hp, q⟩ := h
    have hr1 := hr
    refine ⟨_, (pss_cons (ps_set (i := 1) scLOd.nd rfl (.inl rfl) (pe_lst (pa_cons pe_non (pa_cons pe_int (pa_cons pe_bl (pa_cons pe_str (pa_cons pe_str (pa_cons pe_str (pa_cons pe_str (pa_cons (pe_lst pa_nil) (pa_cons (pe_tup pa_nil) (pa_cons (pe_disp (pps_cons pe_str pe_int pps_nil) (by rfl) (by rfl) (fun z => by cases z) (by show 1 ≤ 15; decide)) (pa_cons pe_str (pa_cons (pe_tup (pa_cons pe_str pa_nil)) (pa_cons (pe_lst (pa_cons pe_str pa_nil)) (pa_cons pe_str (pa_cons pe_int pa_nil))))))))))))))))) (pss_one (ps_ret (pe_ix ix_list (pv 1) (pe_call TK.ok hr1 (by rfl) TK.g TK.kp TK.b .nil pass0 (pa_cons (pv 0) (pa_cons (pe_callB call_len_seq (by rfl) B.len PySem.boot_len (pa_cons (pv 1) pa_nil)) pa_nil))) (fun _ _ => rfl))))), ?_⟩
    refine ⟨Nat.zero_le _, fun a1 na1 => ?_⟩
    have s1 := same_upd (o := .lst []) na1
    have h1 : upd H a1 (.lst []) a1 = some (.lst []) := upd_same
    have p1 := hp.same s1
    have n1 := hp.ne na1
    generalize upd H a1 (.lst []) = H1 at s1 h1 p1
    refine ⟨Nat.zero_le _, fun a2 na2 => ?_⟩
    have s2 := same_upd (o := .tup []) na2
    have h2 : upd H1 a2 (.tup []) a2 = some (.tup []) := upd_same
    have p2 := p1.same s2
    have n2 := p1.ne na2
    generalize upd H1 a2 (.tup []) = H2 at s2 h2 p2
    refine fun a3 na3 => ⟨upd_same, [(Sum.inr "a", .int 1)], rfl, by decide, ?_⟩
    have s3 : Same H2 (upd (upd H2 a3 (.dK [])) a3 (.dK (mergeK [] [(Sum.inr "a", .int 1)]))) := fun c o e => by
      rw [upd_ne (ne_of_none e na3), upd_ne (ne_of_none e na3)]
      exact e
    have h3 : upd (upd H2 a3 (.dK [])) a3 (.dK (mergeK [] [(Sum.inr "a", .int 1)])) a3 = some (.dK [(Sum.inr "a", .int 1)]) := upd_same
    have p3 := p2.same s3
    have n3 := p2.ne na3
    generalize upd (upd H2 a3 (.dK [])) a3 (.dK (mergeK [] [(Sum.inr "a", .int 1)])) = H3 at s3 h3 p3
    refine ⟨by show 1 ≤ sizeLine; decide, fun a4 na4 => ?_⟩
    have s4 := same_upd (o := .tup [V.str "a"]) na4
    have h4 : upd H3 a4 (.tup [V.str "a"]) a4 = some (.tup [V.str "a"]) := upd_same
    have p4 := p3.same s4
    have n4 := p3.ne na4
    generalize upd H3 a4 (.tup [V.str "a"]) = H4 at s4 h4 p4
    refine ⟨by show 1 ≤ sizeLine; decide, fun a5 na5 => ?_⟩
    have s5 := same_upd (o := .lst [V.str "a"]) na5
    have h5 : upd H4 a5 (.lst [V.str "a"]) a5 = some (.lst [V.str "a"]) := upd_same
    have p5 := p4.same s5
    have n5 := p4.ne na5
    generalize upd H4 a5 (.lst [V.str "a"]) = H5 at s5 h5 p5
    refine ⟨by show 15 ≤ sizeLine; decide, fun L nL => ?_⟩
    generalize eX : ([V.non, .int 5, .bl true, .str "", .str "A", .str "ninelongs", .str "a b", .ref a1, .ref a2, .ref a3, .str "z9", .ref a4, .ref a5, .str "pay-", .int 0] : List V) = XS
    have s6 := same_upd (o := .lst XS) nL
    have h6 : upd H5 L (.lst XS) L = some (.lst XS) := upd_same
    have p6 := p5.same s6
    have n6 := p5.ne nL
    generalize upd H5 L (.lst XS) = H6 at s6 h6 p6
    have lX : XS.length = 15 := by rw [← eX]; rfl
    refine ⟨.ref L, rfl, .ref p, rfl, .ref L, rfl, L, _, rfl, .inl (.inl (.inl h6)), p, _, rfl, p6, litM _ (by rw [lX]; decide) (by rw [lX]; decide), fun u H7 u0 u1 p7 b7 => ?_⟩
    obtain ⟨x, ex, mx⟩ := pick (xs := XS) u0 u1
    refine ⟨L, _, _, x, rfl, rfl, .inl (.inl (b7 _ _ n6 h6)), ex, ?_⟩
    have b07 : But p H H7 := (same_but (s1.trans (s2.trans (s3.trans (s4.trans (s5.trans s6)))))).trans b7
    have g1 := b7 _ _ n1 (s6 _ _ (s5 _ _ (s4 _ _ (s3 _ _ (s2 _ _ h1)))))
    have g2 := b7 _ _ n2 (s6 _ _ (s5 _ _ (s4 _ _ (s3 _ _ h2))))
    have g3 := b7 _ _ n3 (s6 _ _ (s5 _ _ (s4 _ _ h3)))
    have g4 := b7 _ _ n4 (s6 _ _ (s5 _ _ h4))
    have g5 := b7 _ _ n5 (s6 _ _ h5)
    have m1 := na1
    have m2 := s1.free na2
    have m3 := (s1.trans s2).free na3
    have m4 := (s1.trans (s2.trans s3)).free na4
    have m5 := (s1.trans (s2.trans (s3.trans s4))).free na5
    have key : ∃ d, NF K H H7 x d ∧ Od11 d := by
      rw [← eX] at mx
      simp only [List.mem_cons, List.not_mem_nil, or_false] at mx
      rcases mx with rfl | rfl | rfl | rfl | rfl | rfl | rfl | rfl | rfl | rfl | rfl | rfl | rfl | rfl | rfl
      · exact ⟨.none, fun _ _ => .non, ⟨by decide +kernel, .inl (by decide +kernel), by decide +kernel, .inr (by decide +kernel)⟩, (fun y e => by cases e), by decide +kernel, rfl, (fun z e => by cases e), by decide +kernel, by decide +kernel, by decide +kernel⟩
      · exact ⟨.int 5, fun _ _ => .int _, ⟨by decide +kernel, .inl (by decide +kernel), by decide +kernel, .inr (by decide +kernel)⟩, (fun y e => by cases e), by decide +kernel, rfl, (fun z e => by cases e), by decide +kernel, by decide +kernel, by decide +kernel⟩
      · exact ⟨.bool true, fun _ _ => .bl _, ⟨by decide +kernel, .inl (by decide +kernel), by decide +kernel, .inr (by decide +kernel)⟩, (fun y e => by cases e), by decide +kernel, rfl, (fun z e => by cases e), by decide +kernel, by decide +kernel, by decide +kernel⟩
      · exact ⟨.str "", fun _ _ => .str _, ⟨by decide +kernel, .inl (by decide +kernel), by decide +kernel, .inr (by decide +kernel)⟩, (fun y e => by cases e; decide), by decide +kernel, by decide +kernel, (fun z e => by cases e; decide +kernel), by decide +kernel, by decide +kernel, by decide +kernel⟩
      · exact ⟨.str "A", fun _ _ => .str _, ⟨by decide +kernel, .inl (by decide +kernel), by decide +kernel, .inr (by decide +kernel)⟩, (fun y e => by cases e; decide), by decide +kernel, by decide +kernel, (fun z e => by cases e; decide +kernel), by decide +kernel, by decide +kernel, by decide +kernel⟩
      · exact ⟨.str "ninelongs", fun _ _ => .str _, ⟨by decide +kernel, .inl (by decide +kernel), by decide +kernel, .inr (by decide +kernel)⟩, (fun y e => by cases e; decide), by decide +kernel, by decide +kernel, (fun z e => by cases e; decide +kernel), by decide +kernel, by decide +kernel, by decide +kernel⟩
      · exact ⟨.str "a b", fun _ _ => .str _, ⟨by decide +kernel, .inl (by decide +kernel), by decide +kernel, .inr (by decide +kernel)⟩, (fun y e => by cases e; decide), by decide +kernel, by decide +kernel, (fun z e => by cases e; decide +kernel), by decide +kernel, by decide +kernel, by decide +kernel⟩
      · exact ⟨.list [], fun G k => .lst (.inl (.inl (k _ _ m1 g1))) .nil, ⟨by decide +kernel, .inl (by decide +kernel), by decide +kernel, .inr (by decide +kernel)⟩, (fun y e => by cases e), by decide +kernel, rfl, (fun z e => by cases e), by decide +kernel, by decide +kernel, by decide +kernel⟩
      · exact ⟨.tuple [], fun G k => .tup (.inl (.inl (k _ _ m2 g2))) .nil, ⟨by decide +kernel, .inl (by decide +kernel), by decide +kernel, .inr (by decide +kernel)⟩, (fun y e => by cases e), by decide +kernel, rfl, (fun z e => by cases e), by decide +kernel, by decide +kernel, by decide +kernel⟩
      · exact ⟨.dict [(.str "a", .int 1)], fun G k => .dct (k _ _ m3 g3) (.cons (.str _) .nil) (.cons (.int _) .nil), ⟨by decide +kernel, .inr ⟨_, rfl⟩, by decide +kernel, .inr (by decide +kernel)⟩, (fun y e => by cases e), by decide +kernel, rfl, (fun z e => by cases e), by decide +kernel, by decide +kernel, by decide +kernel⟩
      · exact ⟨.str "z9", fun _ _ => .str _, ⟨by decide +kernel, .inl (by decide +kernel), by decide +kernel, .inr (by decide +kernel)⟩, (fun y e => by cases e; decide), by decide +kernel, by decide +kernel, (fun z e => by cases e; decide +kernel), by decide +kernel, by decide +kernel, by decide +kernel⟩
      · exact ⟨.tuple [.str "a"], fun G k => .tup (.inl (.inl (k _ _ m4 g4))) (.cons (.str _) .nil), ⟨by decide +kernel, .inl (by decide +kernel), by decide +kernel, .inr (by decide +kernel)⟩, (fun y e => by cases e), by decide +kernel, rfl, (fun z e => by cases e), by decide +kernel, by decide +kernel, by decide +kernel⟩
      · exact ⟨.list [.str "a"], fun G k => .lst (.inl (.inl (k _ _ m5 g5))) (.cons (.str _) .nil), ⟨by decide +kernel, .inl (by decide +kernel), by decide +kernel, .inr (by decide +kernel)⟩, (fun y e => by cases e), by decide +kernel, rfl, (fun z e => by cases e), by decide +kernel, by decide +kernel, by decide +kernel⟩
      · exact ⟨.str "pay-", fun _ _ => .str _, ⟨by decide +kernel, .inl (by decide +kernel), by decide +kernel, .inr (by decide +kernel)⟩, (fun y e => by cases e; decide), by decide +kernel, by decide +kernel, (fun z e => by cases e; decide +kernel), by decide +kernel, by decide +kernel, by decide +kernel⟩
      · exact ⟨.int 0, fun _ _ => .int _, ⟨by decide +kernel, .inl (by decide +kernel), by decide +kernel, .inr (by decide +kernel)⟩, (fun y e => by cases e), by decide +kernel, rfl, (fun z e => by cases e), by decide +kernel, by decide +kernel, by decide +kernel⟩
    obtain ⟨d, db, od⟩ := key
    exact q x d H7 p7 b07 db od

/-! ### _law_is_name -/
abbrev sLIn : Stmt := topS 36
abbrev nLIn : List Str := ["_law_thing", "_law_letters", "_law_sign"]
theorem scLIn : FnScope nLIn ["_law_thing"] (defScope sLIn) := ⟨rfl, rfl, rfl, by decide +kernel, rfl, by decide +kernel, by decide +kernel⟩
def spIn11 (K : PySem.W.Frag) : Sp := fun vs H Q _ => ∃ v d, vs = [v] ∧ Dt K H v d ∧ ShortD d ∧ (∀ z, d = .str z → Asc z) ∧ ∀ H', Same H H' → Q (.bl (nameD d)) H'
theorem eq_nils {l : List Str} : PyData.eqv (.list (l.map PyData.str)) (.list []) = decide (l = []) := by
  cases l with
  | nil => decide +kernel
  | cons a r => simp [PyData.eqv, PyData.eqvAll]
set_option maxHeartbeats 2000000 in
theorem ok_lin {f : Addr} {fd : FuncData} (F : Fun K "_law_is_name" "_law_is_name" sLIn f fd) (B : Blt mg) : FnOk P w K mg base CX0 1 f fd ["_law_thing"] (spIn11 K) := by
  refine F.ok scLIn (fun vs H Q E h => ?_) (fun cdv Ar outer s H vs Q E0 hr h => ?_)
  · obtain ⟨v, d, rfl, _⟩ := h
    rfl
  · obtain ⟨v, d, rfl, hd, hz, az, q⟩ := h
    refine ⟨_, (pss_cons (ps_set (i := 1) scLIn.nd rfl (.inr rfl) pe_str) (pss_cons (ps_if (PW.pt (pw_or (pt_not (pt_val (pe_callB call_isi (by rfl) B.isi (by decide +kernel) (pa_cons (pv 0) (pa_cons (pe_bltn (v := .ty "str") (by rfl) B.str (by decide +kernel) rfl) pa_nil))))) (pw_or (pt_cmpR op_eq (pv 0) pe_str (nomark _)) (pw_or1 (pt_cmpR op_gt (pe_callB call_len_str (by rfl) B.len PySem.boot_len (pa_cons (pv 0) pa_nil)) pe_int (nomark _)))))) (pss_one (ps_ret pe_bl)) pss_nil) (pss_one (ps_ret (pe_cmpR (op_eqD hr.units) (pe_lc (own := [("_law_sign", 2)]) (g := gName 2) rfl scLIn.nd (pi_str (pv 0)) (blkOk_by (N := nLIn) (sc := defScope sLIn) (own := [("_law_sign", 2)]) (by decide +kernel)) (fun _ _ _ _ _ => pg_name (i := 2) scLIn.nd rfl (.inl rfl) (hf := .inr rfl)) (fun _ _ _ _ _ => pts_one (pt_cmpR op_notIn_sign (pv 2) (pv 1) (by rfl))) (fun _ _ _ _ _ => pv 2)) (pe_lst pa_nil) (nomark _)))))), ?_⟩
    refine ⟨v, rfl, v, .ty "str", _, _, strD d, rfl, .ty "str", hd.ty, kit_str d, _, rfl, ?_⟩
    cases hd with
    | str z =>
      refine iteF ⟨.str z, rfl, rfl, _, rfl, ?_⟩
      have hz1 := hz z rfl
      have hz2 := small_line hz1
      by_cases e0 : z = ""
      · rw [decide_eq_true (show V.str z = V.str "" from congrArg _ e0)]
        subst e0
        exact iteT (iteT (by have := q H (Same.refl _); rwa [show nameD (.str "") = false from by decide +kernel] at this))
      · rw [decide_eq_false (show ¬ V.str z = V.str "" from fun e => e0 (V.str.inj e))]
        refine iteF ⟨.str z, rfl, z, rfl, hz2, _, _, rfl, rfl, _, rfl, ?_⟩
        have l1 : 1 ≤ z.length := Nat.one_le_iff_ne_zero.mpr fun c => e0 (by
          have : z.cps = #[] := Array.eq_empty_of_size_eq_zero c
          cases z
          simp only at this
          subst this
          rfl)
        by_cases e8 : (8 : Int) < z.length
        · rw [show decide ((8 : Int) < z.length) = true from decide_eq_true e8]
          have en : nameD (.str z) = false := by
            show nameT z = false
            unfold nameT
            rw [decide_eq_false (show ¬ z.length ≤ 8 by omega), Bool.and_false]
            rfl
          rw [en] at q
          exact iteT (q _ (Same.refl _))
        · rw [show decide ((8 : Int) < z.length) = false from decide_eq_false e8]
          refine iteF ⟨.str z, rfl, z, rfl, fun D hD => lc_it walk_str (fun i H' => Same H H' ∧ ∃ cs : List Nat, H' D = some (.lst (cs.map fun c => .str ⟨#[c]⟩)) ∧ cs.length ≤ i ∧ (∀ c ∈ cs, c < 128) ∧ (cs = [] ↔ ∀ c ∈ z.cps.toList.take i, c ∈ abc))
            ⟨same_upd hD, [], upd_same, Nat.le_refl _, (fun c h => by cases h), by simp⟩ (fun _ _ _ _ => trivial) (fun i x H1 H2 hi hP hY => ?_) (fun H1 hP => ?_)⟩
          · obtain ⟨rfl, c, hc, rfl⟩ := hY
            obtain ⟨s1, cs, hD1, lc, ac, iff⟩ := hP
            have g : z.cps.toList[i]? = some c := by rw [Array.getElem?_toList]; exact hc
            have c128 : c < 128 := az z rfl c (List.mem_of_getElem? g)
            refine ⟨rfl, .str ⟨#[c]⟩, rfl, .str "abcdefghijklmnopqrstuvwxyz", rfl, c, _, rfl, rfl, _, rfl, ?_⟩
            rw [letters_abc]
            have tk : z.cps.toList.take (i + 1) = z.cps.toList.take i ++ [c] := by
              rw [List.take_add_one, g]
              rfl
            by_cases hb : c ∈ abc
            · rw [decide_eq_true hb]
              refine iteF ⟨s1, cs, hD1, by omega, ac, ?_⟩
              rw [tk, iff]
              constructor
              · intro h d hd
                rcases List.mem_append.mp hd with hd | hd
                · exact h d hd
                · rw [List.mem_singleton.mp hd]
                  exact hb
              · exact fun h d hd => h d (List.mem_append_left _ hd)
            · rw [decide_eq_false hb]
              refine iteT ⟨.str ⟨#[c]⟩, rfl, _, hD1, ?_, fun b o eb => ?_, cs ++ [c], ?_, ?_, fun d hd => ?_, ?_⟩
              · rw [List.length_map]
                have hi' : i < z.cps.size := hi
                exact Nat.lt_of_le_of_lt lc (small1000 (by have : z.cps.size = z.length := rfl; omega))
              · rw [upd_ne (ne_of_none eb hD)]
                exact s1 b o eb
              · rw [upd_same, List.map_append]
                rfl
              · rw [List.length_append]
                have : [c].length = 1 := rfl
                omega
              · rcases List.mem_append.mp hd with hd | hd
                · exact ac d hd
                · rw [List.mem_singleton.mp hd]
                  exact c128
              · rw [tk]
                constructor
                · intro h
                  exact absurd h (by simp)
                · exact fun h => absurd (h c (List.mem_append_right _ List.mem_cons_self)) hb
          · obtain ⟨s1, cs, hD1, lc, ac, iff⟩ := hP
            refine ⟨Nat.zero_le _, fun L nL => ?_⟩
            have sL := same_upd (o := .lst []) nL
            have hL : upd H1 L (.lst []) L = some (.lst []) := upd_same
            generalize upd H1 L (.lst []) = H2 at sL hL
            have em : (cs.map fun c => V.str ⟨#[c]⟩) = (cs.map fun c => (⟨#[c]⟩ : Str)).map V.str := by rw [List.map_map]; rfl
            rw [em] at hD1
            have asc : ∀ t ∈ (cs.map fun c => (⟨#[c]⟩ : Str)), Asc t := fun t ht => by
              obtain ⟨c, hc, rfl⟩ := List.mem_map.mp ht
              intro d hd
              have : d = c := by simpa using hd
              rw [this]
              exact ac c hc
            refine ⟨_, _, strs_dp12 (sL _ _ hD1), .lst (.inl (.inl hL)) .nil, shaped12 asc, by decide +kernel, ?_⟩
            rw [eq_nils]
            have en : nameD (.str z) = decide ((cs.map fun c => (⟨#[c]⟩ : Str)) = []) := by
              show nameT z = _
              unfold nameT
              rw [decide_eq_true l1, decide_eq_true (show z.length ≤ 8 by omega)]
              have ez : z.cps.size = z.cps.toList.length := rfl
              rw [ez, List.take_length] at iff
              rw [Bool.eq_iff_iff]
              simp only [Bool.true_and, List.all_eq_true, decide_eq_true_eq, List.map_eq_nil_iff]
              exact iff.symm
            rw [← en]
            exact q _ (s1.trans sL)
    | _ => exact iteT (iteT (q _ (Same.refl _)))
end
end Rc

namespace Rc
open PySem PySem.Spec PyProof.Rows L2 RZ
def DB2 (K : PySem.W.Frag) (p a : Addr) (H : Hp) (v : V) (d : PyData) : Prop := ∀ G : Hp, (∀ c o, c ≠ p → c ≠ a → H c = some o → G c = some o) → Dt K G v d
theorem DB2.db {K : PySem.W.Frag} {p a : Addr} {H : Hp} {v : V} {d : PyData} (h : DB2 K p a H v d) : DB K p H v d := fun G b => h G fun c o n _ e => b c o n e
theorem DB2.step {K : PySem.W.Frag} {p a : Addr} {H H' : Hp} {v : V} {d : PyData} (h : DB2 K p a H v d) (s : ∀ c o, c ≠ p → c ≠ a → H c = some o → H' c = some o) : DB2 K p a H' v d := fun G k => h G fun c o n1 n2 e => k c o n1 n2 (s c o n1 n2 e)
/-- a list of names, of which one may be another thing -/
inductive Ls11 (K : PySem.W.Frag) (p a : Addr) (H : Hp) : List V → Prop
  | nms {zs : List Str} : (∀ z ∈ zs, nameT z = true) → zs.length ≤ 25 → Ls11 K p a H (zs.map V.str)
  | odd {zs ys : List Str} {x : V} {d : PyData} : (∀ z ∈ zs, nameT z = true) → (∀ z ∈ ys, nameT z = true) → zs.length + ys.length ≤ 24 → a ≠ sysModules → DB2 K p a H x d → Od11 d → Ls11 K p a H (zs.map V.str ++ x :: ys.map V.str)
theorem Ls11.step2 {K : PySem.W.Frag} {p a : Addr} {H H' : Hp} {xs : List V} (h : Ls11 K p a H xs) (b : ∀ c o, c ≠ p → c ≠ a → H c = some o → H' c = some o) : Ls11 K p a H' xs := by
  cases h with
  | nms h l => exact .nms h l
  | odd h1 h2 l n d o => exact .odd h1 h2 l n (d.step b) o
theorem Ls11.step {K : PySem.W.Frag} {p a : Addr} {H H' : Hp} {xs : List V} (h : Ls11 K p a H xs) (b : But p H H') : Ls11 K p a H' xs := h.step2 fun c o n _ e => b c o n e
theorem Ls11.len {K : PySem.W.Frag} {p a : Addr} {H : Hp} {xs : List V} (h : Ls11 K p a H xs) : xs.length ≤ 25 := by
  cases h with
  | nms h l => rw [List.length_map]; exact l
  | odd h1 h2 l n d o =>
    rw [List.length_append, List.length_cons, List.length_map, List.length_map]
    omega
/-- each of it -/
theorem Ls11.el {K : PySem.W.Frag} {p a : Addr} {H : Hp} {xs : List V} (h : Ls11 K p a H xs) {i : Nat} {x : V} (e : xs[i]? = some x) : ∃ d, DB K p H x d ∧ (Od11 d ∨ ∃ z, d = .str z ∧ nameT z = true) := by
  have hm := List.mem_of_getElem? e
  have nm : ∀ {zs : List Str}, (∀ z ∈ zs, nameT z = true) → x ∈ zs.map V.str → ∃ d, DB K p H x d ∧ (Od11 d ∨ ∃ z, d = .str z ∧ nameT z = true) := fun {zs} hz hx => by
    obtain ⟨z, hz', rfl⟩ := List.mem_map.mp hx
    exact ⟨.str z, fun _ _ => .str z, .inr ⟨z, rfl, hz z hz'⟩⟩
  cases h with
  | nms h l => exact nm h hm
  | odd h1 h2 l n d o =>
    rcases List.mem_append.mp hm with hm | hm
    · exact nm h1 hm
    · rcases List.mem_cons.mp hm with rfl | hm
      · exact ⟨_, d.db, .inl o⟩
      · exact nm h2 hm
theorem names_app {a b : List Str} (ha : ∀ z ∈ a, nameT z = true) (hb : ∀ z ∈ b, nameT z = true) : ∀ z ∈ a ++ b, nameT z = true := fun z h => (List.mem_append.mp h).elim (ha z) (hb z)
theorem names_one {z : Str} (h : nameT z = true) : ∀ y ∈ [z], nameT y = true := fun y hy => by rw [List.mem_singleton.mp hy]; exact h
theorem Ls11.app {K : PySem.W.Frag} {p a : Addr} {H : Hp} {xs : List V} (h : Ls11 K p a H xs) (l : xs.length ≤ 13) {z : Str} (hz : nameT z = true) : Ls11 K p a H (xs ++ [.str z]) := by
  cases h with
  | @nms zs h l' =>
    have e : zs.map V.str ++ [V.str z] = (zs ++ [z]).map V.str := by rw [List.map_append]; rfl
    rw [e]
    rw [List.length_map] at l
    exact .nms (names_app h (names_one hz)) (by rw [List.length_append]; have : [z].length = 1 := rfl; omega)
  | @odd zs ys x d h1 h2 l' n db o =>
    have e : (zs.map V.str ++ x :: ys.map V.str) ++ [V.str z] = zs.map V.str ++ x :: (ys ++ [z]).map V.str := by rw [List.append_assoc, List.cons_append, List.map_append]; rfl
    rw [e]
    rw [List.length_append, List.length_cons, List.length_map, List.length_map] at l
    exact .odd h1 (names_app h2 (names_one hz)) (by rw [List.length_append]; have : [z].length = 1 := rfl; omega) n db o
theorem set_names {zs : List Str} {k : Nat} (x : V) (hk : k < zs.length) : (zs.map V.str).set k x = (zs.take k).map V.str ++ x :: (zs.drop (k + 1)).map V.str := by
  rw [List.set_eq_take_append_cons_drop, if_pos (by rw [List.length_map]; exact hk), List.map_take, List.map_drop]
theorem set_str {zs : List Str} {k : Nat} (y : Str) : (zs.map V.str).set k (.str y) = (zs.set k y).map V.str := by rw [List.map_set]
/-- a thing that is handed in -/
inductive Th11 (K : PySem.W.Frag) (p : Addr) (H : Hp) : V → Prop
  | no {v : V} {d : PyData} : DB K p H v d → listD d = false → ShowOk d → ShortD d → (∀ z, d = .str z → Asc z) → Th11 K p H v
  | lst {a : Addr} {xs : List V} : H a = some (.lst xs) → a ≠ p → Ls11 K p a H xs → Th11 K p H (.ref a)
theorem Th11.step {K : PySem.W.Frag} {p : Addr} {H H' : Hp} {v : V} (h : Th11 K p H v) (b : But p H H') : Th11 K p H' v := by
  cases h with
  | no a l s t u => exact .no (a.step b) l s t u
  | lst e n l => exact .lst (b _ _ n e) n (l.step b)
section
variable {P : Program} {w : World} {K : PySem.W.Frag} {mg : Str → Option Value} {base : Heap}
/-! ### _law_spoilt -/
abbrev sLSo : Stmt := topS 37
abbrev nLSo : List Str := ["_law_pot_here", "_law_names_here", "_law_way", "_law_at", "_law_some", "_law_found"]
theorem scLSo : FnScope nLSo ["_law_pot_here", "_law_names_here"] (defScope sLSo) := ⟨rfl, rfl, rfl, by decide +kernel, rfl, by decide +kernel, by decide +kernel⟩
def spLSo (K : PySem.W.Frag) : Sp := fun vs H Q _ => ∃ (p nl : Addr) (zs : List Str), vs = [.ref p, .ref nl] ∧ Pot H p ∧ H nl = some (.lst (zs.map V.str)) ∧ nl ≠ p ∧ 1 ≤ zs.length ∧ zs.length ≤ 13 ∧ (∀ z ∈ zs, nameT z = true) ∧ ∀ v H', Pot H' p → But p H H' → Th11 K p H' v → Q v H'
set_option maxHeartbeats 4000000 in
theorem ok_lso {f fT f1 : Addr} {fd fdT fd1 : FuncData} (F : Fun K "_law_spoilt" "_law_spoilt" sLSo f fd) (B : Blt mg) (B3 : Blt3 mg) (TK : HasTake P w K mg base fT fdT) (OD : Has P w K mg base 2 "_law_odd" ["_law_pot_here"] (spLOd K) f1 fd1) : FnOk P w K mg base CX0 3 f fd ["_law_pot_here", "_law_names_here"] (spLSo K) := by
  refine F.ok scLSo (fun vs H Q E h => ?_) (fun cdv Ar outer s H vs Q E0 hr h => ?_)
  · obtain ⟨_, _, _, rfl, _⟩ := h
    rfl
  · obtain ⟨p, nl, zs, rfl, hp, hn, np, l1, l13, nm, q⟩ := h
    have hr1 := hr.mono (show 1 ≤ 2 by decide)
    refine ⟨_, (pss_cons (ps_set (i := 2) scLSo.nd rfl (.inl rfl) (pe_call TK.ok hr1 (by rfl) TK.g TK.kp TK.b .nil pass0 (pa_cons (pv 0) (pa_cons pe_int pa_nil)))) (pss_cons (ps_set (i := 3) scLSo.nd rfl (.inl rfl) (pe_call TK.ok hr1 (by rfl) TK.g TK.kp TK.b .nil pass0 (pa_cons (pv 0) (pa_cons (pe_callB call_len_seq (by rfl) B.len PySem.boot_len (pa_cons (pv 1) pa_nil)) pa_nil)))) (pss_cons (ps_if (pt_cmpR op_eq (pv 2) pe_int (nomark _)) (pss_cons (ps_set (i := 4) scLSo.nd rfl (.inl rfl) (pe_lst (pa_cons pe_non (pa_cons (pe_callTy call_tuple_of (by rfl) B3.tuple (by decide +kernel) (pa_cons (pv 1) pa_nil)) (pa_cons pe_dnewK (pa_cons pe_str (pa_cons pe_int (pa_cons pe_bl (pa_cons (pe_lst pa_nil) (pa_cons (pe_op op_cat (pv 1) (pe_op op_rep (pe_lst (pa_cons pe_str pa_nil)) pe_int)) pa_nil)))))))))) (pss_one (ps_ret (pe_ix ix_list (pv 4) (pe_call TK.ok hr1 (by rfl) TK.g TK.kp TK.b .nil pass0 (pa_cons (pv 0) (pa_cons pe_int pa_nil))) (fun _ _ => rfl))))) pss_nil) (pss_cons (ps_set (i := 5) scLSo.nd rfl (.inl rfl) (pe_callTy (call_listN (K := K) rfl) (by rfl) B3.list (by decide +kernel) (pa_cons (pv 1) pa_nil))) (C8.pss_cut (ps_if (pt_cmpR op_in_seq (pv 2) (pe_tup (pa_cons pe_int (pa_cons pe_int pa_nil))) (by rfl)) (pss_one (ps_asg (pe_call OD.ok hr (by rfl) OD.g OD.kp OD.b .nil pass0 (pa_cons (pv 0) pa_nil)) (pg_sub (pv 5) (pv 3) set_list))) pss_nil) (C8.pss_cut (ps_if (pt_cmpR op_eq (pv 2) pe_int (nomark _)) (pss_one (ps_asg (pe_ix ix_list (pv 1) (pe_call TK.ok hr1 (by rfl) TK.g TK.kp TK.b .nil pass0 (pa_cons (pv 0) (pa_cons (pe_callB call_len_seq (by rfl) B.len PySem.boot_len (pa_cons (pv 1) pa_nil)) pa_nil))) (fun _ _ => rfl)) (pg_sub (pv 5) (pv 3) set_list))) pss_nil) (pss_cons (ps_if (pt_cmpR op_eq (pv 2) pe_int (nomark _)) (pss_one (ps_expr (pe_bm PySem.F.plainAttrs_list PySem.F.slot_list_append PySem.F.type_list_append mt_append (pv 5) (pa_cons (pe_ix ix_list (pv 1) (pv 3) (fun _ _ => rfl)) pa_nil)))) pss_nil) (pss_one (ps_ret (pv 5)))))))))), ?_⟩
    have sq : SqL K H nl (zs.map V.str) := .inl (.inl hn)
    refine ⟨.ref p, rfl, p, 6, rfl, hp, litM _ (by decide) (by decide), fun way H1 w0 w1 p1 b1 => ?_⟩
    have hn1 := b1 _ _ np hn
    refine ⟨.ref p, rfl, .ref nl, rfl, nl, _, rfl, .inl (.inl (.inl hn1)), p, ((zs.map V.str).length : Nat), rfl, p1, litM _ (by rw [List.length_map]; omega) (by rw [List.length_map]; omega), fun at_ H2 a0 a1 p2 b2 => ?_⟩
    have hn2 := b2 _ _ np hn1
    have b02 := b1.trans b2
    rw [List.length_map] at a1
    obtain ⟨k, rfl⟩ := Int.eq_ofNat_of_zero_le a0
    have hk : k < zs.length := by omega
    refine ⟨.int way, rfl, rfl, _, rfl, ?_⟩
    by_cases e0 : way = 0
    · subst e0
      rw [decide_eq_true rfl]
      refine iteT ⟨.ref nl, rfl, nl, _, rfl, .inl ⟨.inl (.inl hn2), fun t nt => ?_⟩⟩
      have s1 := same_upd (o := .tup (zs.map V.str)) nt
      have h1 : upd H2 t (.tup (zs.map V.str)) t = some (.tup (zs.map V.str)) := upd_same
      have q1 := p2.same s1
      have tp := p2.ne nt
      generalize upd H2 t (.tup (zs.map V.str)) = H3 at s1 h1 q1
      refine fun d nd => ?_
      have s2 := same_upd (o := .dK []) nd
      have h2 : upd H3 d (.dK []) d = some (.dK []) := upd_same
      have q2 := q1.same s2
      have dp := q1.ne nd
      generalize upd H3 d (.dK []) = H4 at s2 h2 q2
      refine ⟨Nat.zero_le _, fun l nl0 => ?_⟩
      have s3 := same_upd (o := .lst []) nl0
      have h3 : upd H4 l (.lst []) l = some (.lst []) := upd_same
      have q3 := q2.same s3
      have lp := q2.ne nl0
      generalize upd H4 l (.lst []) = H5 at s3 h3 q3
      refine ⟨.ref nl, rfl, by show 1 ≤ sizeLine; decide, fun o no => ?_⟩
      have s4 := same_upd (o := .lst [V.str "a"]) no
      have h4 : upd H5 o (.lst [V.str "a"]) o = some (.lst [V.str "a"]) := upd_same
      have q4 := q3.same s4
      generalize upd H5 o (.lst [V.str "a"]) = H6 at s4 h4 q4
      refine ⟨o, 12, [V.str "a"], rfl, rfl, h4, by decide, by decide, by show 1 * 12 ≤ sizeLine; decide, fun o2 no2 => ?_⟩
      have s5 := same_upd (o := .lst (List.replicate (12 : Int).toNat [V.str "a"]).flatten) no2
      have h5 : upd H6 o2 (.lst (List.replicate (12 : Int).toNat [V.str "a"]).flatten) o2 = some (.lst ((List.replicate 12 ("a" : Str)).map V.str)) := upd_same
      have q5 := q4.same s5
      generalize upd H6 o2 (.lst (List.replicate (12 : Int).toNat [V.str "a"]).flatten) = H7 at s5 h5 q5
      have hn7 := (s1.trans (s2.trans (s3.trans (s4.trans s5)))) _ _ hn2
      have e3 : zs.map V.str ++ (List.replicate 12 ("a" : Str)).map V.str = (zs ++ List.replicate 12 ("a" : Str)).map V.str := by rw [List.map_append]
      refine ⟨nl, o2, _, _, rfl, rfl, hn7, h5, by rw [List.length_map, List.length_map, List.length_replicate]; exact small_line (by omega), fun o3 no3 => ?_⟩
      rw [e3]
      have s6 := same_upd (o := .lst ((zs ++ List.replicate 12 ("a" : Str)).map V.str)) no3
      have h6 : upd H7 o3 (.lst ((zs ++ List.replicate 12 ("a" : Str)).map V.str)) o3 = some (.lst ((zs ++ List.replicate 12 ("a" : Str)).map V.str)) := upd_same
      have q6 := q5.same s6
      have o3p := q5.ne no3
      generalize upd H7 o3 (.lst ((zs ++ List.replicate 12 ("a" : Str)).map V.str)) = H8 at s6 h6 q6
      refine ⟨by show 8 ≤ sizeLine; decide, fun S1 nS1 => ?_⟩
      generalize eX : ([V.non, .ref t, .ref d, .str "abc", .int 5, .bl true, .ref l, .ref o3] : List V) = XS
      have s7 := same_upd (o := .lst XS) nS1
      have h7 : upd H8 S1 (.lst XS) S1 = some (.lst XS) := upd_same
      have q7 := q6.same s7
      have S1p := q6.ne nS1
      generalize upd H8 S1 (.lst XS) = H9 at s7 h7 q7
      have lX : XS.length = 8 := by rw [← eX]; rfl
      refine ⟨.ref S1, rfl, .ref p, rfl, p, 8, rfl, q7, litM _ (by decide) (by decide), fun u Ha u0 u1 qa ba => ?_⟩
      obtain ⟨x, ex, mx⟩ := pick (xs := XS) u0 (by rw [lX]; exact u1)
      refine ⟨S1, _, _, x, rfl, rfl, .inl (.inl (ba _ _ S1p h7)), ex, ?_⟩
      have b0a : But p H Ha := b02.trans ((same_but (s1.trans (s2.trans (s3.trans (s4.trans (s5.trans (s6.trans s7))))))).trans ba)
      have g1 := ba _ _ tp (s7 _ _ (s6 _ _ (s5 _ _ (s4 _ _ (s3 _ _ (s2 _ _ h1))))))
      have g2 := ba _ _ dp (s7 _ _ (s6 _ _ (s5 _ _ (s4 _ _ (s3 _ _ h2)))))
      have g3 := ba _ _ lp (s7 _ _ (s6 _ _ (s5 _ _ (s4 _ _ h3))))
      have g6 := ba _ _ o3p (s7 _ _ h6)
      refine q x Ha qa b0a ?_
      rw [← eX] at mx
      simp only [List.mem_cons, List.not_mem_nil, or_false] at mx
      rcases mx with rfl | rfl | rfl | rfl | rfl | rfl | rfl | rfl
      · exact .no (d := .none) (fun _ _ => .non) rfl ⟨by decide +kernel, .inl (by decide +kernel), by decide +kernel, .inr (by decide +kernel)⟩ (fun y e => by cases e) (fun z e => by cases e)
      · exact .no (d := .tuple (zs.map .str)) (fun G k => .tup (.inl (.inl (k _ _ tp g1))) (DtAll.strs _)) rfl (((nice_names nm).tuple).show (by omega)) (fun y e => by cases e) (fun z e => by cases e)
      · exact .no (d := .dict []) (fun G k => .dct (kvs := []) (k _ _ dp g2) .nil .nil) rfl ⟨by decide +kernel, .inr ⟨_, rfl⟩, by decide +kernel, .inr (by decide +kernel)⟩ (fun y e => by cases e) (fun z e => by cases e)
      · exact .no (d := .str "abc") (fun _ _ => .str _) rfl ⟨by decide +kernel, .inl (by decide +kernel), by decide +kernel, .inr (by decide +kernel)⟩ (fun y e => by cases e; decide) (fun z e => by cases e; decide +kernel)
      · exact .no (d := .int 5) (fun _ _ => .int _) rfl ⟨by decide +kernel, .inl (by decide +kernel), by decide +kernel, .inr (by decide +kernel)⟩ (fun y e => by cases e) (fun z e => by cases e)
      · exact .no (d := .bool true) (fun _ _ => .bl _) rfl ⟨by decide +kernel, .inl (by decide +kernel), by decide +kernel, .inr (by decide +kernel)⟩ (fun y e => by cases e) (fun z e => by cases e)
      · exact .lst (xs := []) g3 lp (.nms (zs := []) (fun z h => by cases h) (by decide))
      · exact .lst g6 o3p (.nms (names_app nm (fun z h => by rw [(List.mem_replicate.mp h).2]; decide +kernel)) (by rw [List.length_append, List.length_replicate]; omega))
    · rw [decide_eq_false (fun e => e0 (V.int.inj e))]
      refine iteF ⟨.ref nl, rfl, nl, _, rfl, .inl (.inl (.inl hn2)), fun r nr rs => ?_⟩
      have s1 := same_upd (o := .lst (zs.map V.str)) nr
      have h1 : upd H2 r (.lst (zs.map V.str)) r = some (.lst (zs.map V.str)) := upd_same
      have q1 := p2.same s1
      have rp := p2.ne nr
      have nlr : nl ≠ r := ne_of_none hn2 nr
      have nrH : H r = none := by
        cases e : H r with
        | none => rfl
        | some o =>
          have := b02 _ _ rp e
          rw [nr] at this
          cases this
      generalize upd H2 r (.lst (zs.map V.str)) = H3 at s1 h1 q1
      have b03 := b02.trans (same_but s1)
      have zk := List.getElem?_eq_getElem hk
      have ix : ixN (zs.map V.str).length (k : Int) = some k := by
        unfold ixN
        rw [List.length_map, if_pos (by omega), if_pos (by omega)]
        congr 1
      have lz : (zs.map V.str).length = zs.length := List.length_map ..
      -- one of them odd
      refine ⟨fun σ H' => ∃ xs, σ = [some (.ref p), some (.ref nl), some (.int way), some (.int (k : Int)), none, some (.ref r)] ∧ Pot H' p ∧ But p H H' ∧ H' r = some (.lst xs) ∧ xs.length ≤ 13 ∧ Ls11 K p r H' xs ∧ (way = 2 → xs = zs.map V.str), ?_, fun σ H4 hR => ?_⟩
      · refine ⟨.int way, rfl, by show 2 ≤ sizeLine; decide, fun t nt => ?_⟩
        have s2 := same_upd (o := .tup [V.int 1, V.int 3]) nt
        have h2 : upd H3 t (.tup [V.int 1, V.int 3]) t = some (.tup [V.int 1, V.int 3]) := upd_same
        have q2 := q1.same s2
        generalize upd H3 t (.tup [V.int 1, V.int 3]) = H4 at s2 h2 q2
        have b04 := b03.trans (same_but s2)
        refine ⟨t, _, rfl, .inr (.inl (.inl h2)), rfl, rfl, _, rfl, ?_⟩
        cases hc : inV (V.int way) [V.int 1, V.int 3] with
        | true =>
          have hr4 := s2 _ _ h1
          refine iteT ⟨.ref p, rfl, p, rfl, q2, fun x d H5 q5 b5 db od => ?_⟩
          refine ⟨.ref r, rfl, .int (k : Int), rfl, r, _, (k : Int), k, rfl, rfl, b5 _ _ rp hr4, ix, ?_⟩
          have b0G : But p H (upd H5 r (.lst ((zs.map V.str).set k x))) := fun c o n e => by
            rw [upd_ne (ne_of_none e nrH)]
            exact b5 _ _ n (b04 _ _ n e)
          have pG : Pot (upd H5 r (.lst ((zs.map V.str).set k x))) p := by
            obtain ⟨u, v, e, hh⟩ := q5
            exact ⟨u, v, by rw [upd_ne rp.symm]; exact e, hh⟩
          have db2 : DB2 K p r (upd H5 r (.lst ((zs.map V.str).set k x))) x d := fun G kk => db G fun c o n e => kk c o (fun z => by
            obtain ⟨u, v, ep, _⟩ := q2
            rw [z, ep] at n
            cases n) (fun z => by
            rw [z, hr4] at n
            cases n) (by
            rw [upd_ne (fun z => by
              rw [z, hr4] at n
              cases n)]
            exact e)
          refine ⟨_, rfl, pG, b0G, upd_same, by rw [List.length_set, lz]; exact l13, ?_, fun e2 => by rw [e2] at hc; cases hc⟩
          rw [set_names x hk]
          rw [set_names x hk] at db2
          exact .odd (fun z hz => nm z (List.mem_of_mem_take hz)) (fun z hz => nm z (List.mem_of_mem_drop hz)) (by rw [List.length_take, List.length_drop]; omega) rs db2 od
        | false => exact iteF ⟨_, rfl, q2, b04, s2 _ _ h1, by rw [lz]; exact l13, .nms nm (by omega), fun _ => rfl⟩
      obtain ⟨xs, rfl, q4, b04, hr4, lx, ls4, w2⟩ := hR
      have hn4 := b04 _ _ np hn
      -- one again
      refine ⟨fun σ H' => ∃ xs, σ = [some (.ref p), some (.ref nl), some (.int way), some (.int (k : Int)), none, some (.ref r)] ∧ Pot H' p ∧ But p H H' ∧ H' r = some (.lst xs) ∧ xs.length ≤ 13 ∧ Ls11 K p r H' xs, ?_, fun σ H5 hR => ?_⟩
      · refine ⟨.int way, rfl, rfl, _, rfl, ?_⟩
        by_cases e2 : way = 2
        · rw [show decide (V.int way = V.int 2) = true from decide_eq_true (by rw [e2])]
          have ex := w2 e2
          subst ex
          refine iteT ⟨.ref nl, rfl, .ref p, rfl, .ref nl, rfl, nl, _, rfl, .inl (.inl (.inl hn4)), p, ((zs.map V.str).length : Nat), rfl, q4, litM _ (by rw [List.length_map]; omega) (by rw [List.length_map]; omega), fun j H5 j0 j1 q5 b5 => ?_⟩
          obtain ⟨x, ex, mx⟩ := pick (xs := zs.map V.str) j0 j1
          obtain ⟨y, hy, rfl⟩ := List.mem_map.mp mx
          refine ⟨nl, _, _, .str y, rfl, rfl, .inl (.inl (b5 _ _ np hn4)), ex, .ref r, rfl, .int (k : Int), rfl, r, _, (k : Int), k, rfl, rfl, b5 _ _ rp hr4, ix, ?_⟩
          refine ⟨(zs.map V.str).set k (.str y), rfl, ?_, fun c o n e => ?_, upd_same, by rw [List.length_set, lz]; exact l13, ?_⟩
          · obtain ⟨u, v, e, hh⟩ := q5
            exact ⟨u, v, by rw [upd_ne rp.symm]; exact e, hh⟩
          · rw [upd_ne (ne_of_none e nrH)]
            exact b5 _ _ n (b04 _ _ n e)
          · rw [set_str]
            exact .nms (fun z hz => (List.mem_or_eq_of_mem_set hz).elim (nm z) (fun e => by rw [e]; exact nm y hy)) (by rw [List.length_set]; omega)
        · rw [show decide (V.int way = V.int 2) = false from decide_eq_false fun c => e2 (V.int.inj c)]
          exact iteF ⟨xs, rfl, q4, b04, hr4, lx, ls4⟩
      obtain ⟨xs', rfl, q5, b05, hr5, lx5, ls5⟩ := hR
      refine ⟨.int way, rfl, rfl, _, rfl, ?_⟩
      by_cases e3 : way = 3
      · rw [show decide (V.int way = V.int 3) = true from decide_eq_true (by rw [e3])]
        have hn5 := b05 _ _ np hn
        refine iteT ⟨.ref r, rfl, .inl ⟨rfl, _, .inl (.inl hr5)⟩, .ref nl, rfl, .int (k : Int), rfl, nl, _, (k : Int), .str zs[k], rfl, rfl, .inl (.inl hn5), atI_nat (map_get zk), r, xs', _, rfl, rfl, hr5, Nat.lt_of_le_of_lt lx5 (small1000 (by decide)), ?_⟩
        have zm := nm _ (List.getElem_mem hk)
        have step : Ls11 K p r (upd H5 r (.lst (xs' ++ [.str zs[k]]))) (xs' ++ [.str zs[k]]) := by
          exact (ls5.app lx5 zm).step2 fun c o _ n2 e => (upd_ne n2).trans e
        refine ⟨.ref r, rfl, q _ _ ?_ (fun c o n e => ?_) (.lst upd_same rp step)⟩
        · obtain ⟨u, v, e, hh⟩ := q5
          exact ⟨u, v, by rw [upd_ne rp.symm]; exact e, hh⟩
        · rw [upd_ne (ne_of_none e nrH)]
          exact b05 _ _ n e
      · rw [show decide (V.int way = V.int 3) = false from decide_eq_false fun c => e3 (V.int.inj c)]
        exact iteF ⟨.ref r, rfl, q _ _ q5 b05 (.lst hr5 rp ls5)⟩
end
end Rc

namespace Rc
open PySem PySem.Spec PyProof.Rows L2 RZ
/-- xs == [], xs of anything -/
def rEqNil (K : PySem.W.Frag) : R2 := fun x y H Q => ∃ (a b : Addr) (xs : List V), x = .ref a ∧ y = .ref b ∧ SqL K H a xs ∧ SqL K H b [] ∧ Q (.bl (decide (xs = []))) H
theorem op_eqNil {X : Cx} (hu : X.A.units < cLine) : OpR X (compareOp .Eq) (rEqNil X.K) := by
  intro pins s σ H x y v u Q I rx ry h
  obtain ⟨a, b, xs, rfl, rfl, ha, hb, q⟩ := h
  cases rx
  cases ry
  obtain ⟨its, rv, pa, _⟩ := I.list ha
  obtain ⟨its2, rv2, pb, _⟩ := I.list hb
  have ha' := pa.isList
  have hb' := pb.isList
  cases rv2
  show wpAny _ _ (richCompare .Eq (.ref a) (.ref b)) _ _ _
  cases rv with
  | nil => exact SeqAt.RcAt.lists (e := fun _ => true) ha' hb' rfl hu (fun j h1 _ => absurd h1 (by simp)) _ _ _ _ ⟨.bl _, H, I, rfl, q⟩
  | cons r1 r2 => exact SeqAt.RcAt.lists_lengths ha' hb' (by simp) hu _ _ _ _ ⟨.bl _, H, I, rfl, q⟩
def whoS (n : Nat) : PyData → Str
  | .str z => z
  | _ => Str.ofString (toString ((n : Nat) : Int))
theorem whoS_V (n : Nat) (d : PyData) : whoV n d = .str (whoS n d) := by cases d <;> rfl
theorem num_asc (n : Nat) : Asc (Str.ofString (toString ((n : Nat) : Int))) := by
  rw [SX.num_S]
  intro c hc
  have := TL.numL_digits n c (by simpa [SX.S] using hc)
  omega
/-- what is wrong with a thing, or nothing -/
inductive Wr11 (K : PySem.W.Frag) (H : Hp) (v : V) : Option (Str × Str) → Prop
  | bad {w1 w2 : Str} : BadQ K H v (.str w1) (.str w2) → Asc w1 → Asc w2 → Wr11 K H v (some (w1, w2))
  | good {a : Addr} {zs : List Str} : v = .ref a → H a = some (.lst (zs.map V.str)) → NamesOk zs → Wr11 K H v none
theorem Wr11.same {K : PySem.W.Frag} {H H' : Hp} {v : V} {o : Option (Str × Str)} (h : Wr11 K H v o) (s : Same H H') : Wr11 K H' v o := by
  cases h with
  | bad b a1 a2 => exact .bad (b.same s) a1 a2
  | good e h n => exact .good e (s _ _ h) n
def Op11 (H' : Hp) (x : V) : Option (Str × Str) → Prop
  | none => x = .non
  | some (a, b) => ∃ r, x = .ref r ∧ H' r = some (.lst [.str a, .str b])
section
variable {P : Program} {w : World} {K : PySem.W.Frag} {mg : Str → Option Value} {base : Heap}
/-! ### _law_wrong -/
abbrev sLWr : Stmt := topS 38
abbrev nLWr : List Str := ["_law_thing", "_law_number", "_law_name_here", "_law_who"]
theorem scLWr : FnScope nLWr ["_law_thing"] (defScope sLWr) := ⟨rfl, rfl, rfl, by decide +kernel, rfl, by decide +kernel, by decide +kernel⟩
def spLWr11 (K : PySem.W.Frag) : Sp := fun vs H Q _ => ∃ (p : Addr) (v : V), vs = [v] ∧ Th11 K p H v ∧ ∀ x o H', Same H H' → Wr11 K H' v o → Op11 H' x o → Q x H'
set_option maxHeartbeats 4000000 in
theorem ok_lwr {f f1 : Addr} {fd fd1 : FuncData} (F : Fun K "_law_wrong" "_law_wrong" sLWr f fd) (B : Blt mg) (B3 : Blt3 mg) (IN : Has P w K mg base 1 "_law_is_name" ["_law_thing"] (spIn11 K) f1 fd1) : FnOk P w K mg base CX0 2 f fd ["_law_thing"] (spLWr11 K) := by
  refine F.ok scLWr (fun vs H Q E h => ?_) (fun cdv Ar outer s H vs Q E0 hr h => ?_)
  · obtain ⟨_, _, rfl, _⟩ := h
    rfl
  · obtain ⟨p, v, rfl, ht, q⟩ := h
    have hu0 : (Ar.deeper (envOfC "_law_wrong" (defScope sLWr) s.heap.objs.size f cdv)).units < cLine := by have := hr.un; omega
    refine ⟨_, (pss_cons (ps_if (PW.pt (pw_or (pt_not (pt_val (pe_callB call_isi (by rfl) B.isi (by decide +kernel) (pa_cons (pv 0) (pa_cons (pe_bltn (v := .ty "list") (by rfl) B3.list (by decide +kernel) rfl) pa_nil))))) (pw_or (pt_cmpR (op_eqNil hu0) (pv 0) (pe_lst pa_nil) (nomark _)) (pw_or1 (pt_cmpR op_gt (pe_callB call_len_seq (by rfl) B.len PySem.boot_len (pa_cons (pv 0) pa_nil)) pe_int (nomark _)))))) (pss_one (ps_ret (pe_lst (pa_cons pe_str (pa_cons pe_str pa_nil))))) pss_nil) (pss_cons (ps_for PassesOwn.never rfl (pi_enum (by rfl) B3.enumerate (pa_cons (pv 0) pa_nil)) (pg_tup rfl (pgs_cons (pg_name (i := 1) scLWr.nd rfl (.inl rfl)) (pgs_cons (pg_name (i := 2) scLWr.nd rfl (.inl rfl)) pgs_nil))) (C8.pss_cut (ps_set (i := 3) scLWr.nd rfl (.inl rfl) (pe_ifExp (pt_val (pe_callB call_isi (by rfl) B.isi (by decide +kernel) (pa_cons (pv 2) (pa_cons (pe_bltn (v := .ty "str") (by rfl) B.str (by decide +kernel) rfl) pa_nil)))) (pv 2) (pe_callTy call_str_int (by rfl) B.str (by decide +kernel) (pa_cons (pv 1) pa_nil)))) (pss_cons (ps_if (pt_not (pt_val (pe_call IN.ok hr (by rfl) IN.g IN.kp IN.b .nil pass0 (pa_cons (pv 2) pa_nil)))) (pss_one (ps_ret (pe_lst (pa_cons pe_str (pa_cons (pv 3) pa_nil))))) pss_nil) (pss_one (ps_if (pt_cmpR op_in_seq (pv 2) (pe_slice sl_list (pv 0) po_none (po_some (pv 1))) (by rfl)) (pss_one (ps_ret (pe_lst (pa_cons pe_str (pa_cons (pv 3) pa_nil))))) pss_nil))))) (pss_one (ps_ret pe_non)))), ?_⟩
    have pp : ∀ {G : Hp}, Same H G → BadQ K G v (.str "persons") (.str "persons") → ∀ r, G r = none → Q (.ref r) (upd G r (.lst [.str "persons", .str "persons"])) := fun {G} s bq r nr => q (.ref r) (some ("persons", "persons")) _ (s.trans (same_upd nr)) (.bad (bq.same (same_upd nr)) (by decide +kernel) (by decide +kernel)) ⟨r, rfl, upd_same⟩
    cases ht with
    | @no _ d hd hl so sd az =>
      refine ⟨v, rfl, v, .ty "list", _, _, listD d, rfl, .ty "list", hd.dt.ty, kit_list d, _, rfl, ?_⟩
      rw [hl]
      exact iteT (iteT ⟨by show 2 ≤ sizeLine; decide, pp (Same.refl _) (.inl ⟨d, hd.dt, hl, rfl, rfl⟩)⟩)
    | @lst a xs ha ap ls =>
      refine ⟨.ref a, rfl, _, .ty "list", _, _, true, rfl, .ty "list", .base (.lst ha), kit_ty (by decide +kernel), _, rfl, iteF ?_⟩
      refine ⟨.ref a, rfl, Nat.zero_le _, fun e ne => ?_⟩
      have s1 := same_upd (o := .lst []) ne
      have he : upd H e (.lst []) e = some (.lst []) := upd_same
      generalize upd H e (.lst []) = H1 at s1 he
      have ha1 := s1 _ _ ha
      have sq : SqL K H1 a xs := .inl (.inl ha1)
      refine ⟨a, e, xs, rfl, rfl, sq, .inl (.inl he), _, rfl, ?_⟩
      by_cases e0 : xs = []
      · rw [decide_eq_true e0]
        exact iteT (iteT ⟨by show 2 ≤ sizeLine; decide, pp s1 (.inr (.inl ⟨a, xs, rfl, ha1, .inl e0, rfl, rfl⟩))⟩)
      rw [decide_eq_false e0]
      refine iteF ⟨.ref a, rfl, a, _, rfl, .inl sq, _, _, rfl, rfl, _, rfl, ?_⟩
      by_cases e12 : (12 : Int) < (xs.length : Int)
      · rw [show decide ((12 : Int) < (xs.length : Int)) = true from decide_eq_true e12]
        exact iteT ⟨by show 2 ≤ sizeLine; decide, pp s1 (.inr (.inl ⟨a, xs, rfl, ha1, .inr (by omega), rfl, rfl⟩))⟩
      rw [show decide ((12 : Int) < (xs.length : Int)) = false from decide_eq_false e12]
      refine iteF ⟨.ref a, rfl, a, _, rfl, sq, ?_⟩
      refine for_it (walk_enum (xs := xs)) (fun i σ H' => ∃ (zs : List Str) (y1 y2 y3 : Option V), σ = [some (.ref a), y1, y2, y3] ∧ Same H1 H' ∧ xs.take i = zs.map V.str ∧ zs.Nodup ∧ ∀ z ∈ zs, nameT z = true) ⟨[], _, _, _, rfl, Same.refl _, rfl, List.nodup_nil, fun z h => by cases h⟩ (fun i σ H' _ hP => ?_) (fun i x σ H2' H2 hi hP hY => ?_) (fun σ H2 hP => ?_)
      · obtain ⟨_, _, _, _, _, s, _⟩ := hP
        exact s.seq sq
      · obtain ⟨T, x1, x2, rfl, nT, rfl, e1, e2⟩ := hY
        obtain ⟨zs, y1, y2, y3, rfl, s2, et, nd, nm⟩ := hP
        cases e1
        have s3 := s2.trans (same_upd (o := .tup [V.int (i : Nat), x2]) nT)
        refine ⟨T, _, rfl, .inl (.inl upd_same), rfl, _, _, rfl, _, _, rfl, rfl, ?_⟩
        generalize upd H2' T (.tup [V.int (i : Nat), x2]) = H3 at s3 ⊢
        have e2 : xs[i]? = some x2 := e2
        have hi : i < xs.length := (List.getElem?_eq_some_iff.mp e2).1
        obtain ⟨d, db, hod⟩ := ls.el e2
        have hd3 : Dt K H3 x2 d := db H3 (same_but (s1.trans s3))
        have lzs : zs.length = i := by
          have := congrArg List.length et
          rw [List.length_take, List.length_map] at this
          omega
        have sd : ShortD d := by
          rcases hod with o | ⟨z, rfl, hz⟩
          · exact o.sd
          · exact fun y e => by cases e; have := (nameT_len hz).2; omega
        have az : ∀ z, d = .str z → Asc z := by
          rcases hod with o | ⟨z, rfl, hz⟩
          · exact o.az
          · exact fun y e => by cases e; exact name_asc hz
        have aw : Asc (whoS i d) := by
          cases d with
          | str z => exact az z rfl
          | _ => exact num_asc i
        have exs : xs = zs.map V.str ++ x2 :: xs.drop (i + 1) := by
          rw [← et]
          have : x2 = xs[i] := by
            rw [List.getElem?_eq_getElem hi] at e2
            exact (Option.some.inj e2).symm
          rw [this, ← List.drop_eq_getElem_cons hi, List.take_append_drop]
        have bad : ∀ {G : Hp} {w1 : Str}, Same H3 G → Asc w1 → ((∃ z, x2 = .str z ∧ z ∈ zs ∧ V.str w1 = .str "again" ∧ V.str (whoS i d) = .str z) ∨ (∃ d', Dt K G x2 d' ∧ ShortD d' ∧ nameD d' = false ∧ V.str w1 = .str "name" ∧ V.str (whoS i d) = whoV zs.length d')) → ∀ r, G r = none → Q (.ref r) (upd G r (.lst [.str w1, .str (whoS i d)])) := fun {G w1} s a1 h r nr => by
          have s4 := s1.trans (s3.trans s)
          refine q (.ref r) (some (w1, whoS i d)) _ (s4.trans (same_upd nr)) (.bad (BadQ.same (.inr (.inr ⟨a, zs, x2, xs.drop (i + 1), rfl, ?_, ?_, nd, nm, h⟩)) (same_upd nr)) a1 aw) ⟨r, rfl, upd_same⟩
          · rw [← exs]
            exact s4 _ _ ha
          · rw [List.length_drop]
            omega
        refine ⟨fun σ H' => σ = [some (.ref a), some (.int (i : Nat)), some x2, some (.str (whoS i d))] ∧ Same H3 H', ?_, fun σ H4 hR => ?_⟩
        · refine ⟨x2, rfl, x2, .ty "str", _, _, strD d, rfl, .ty "str", hd3.ty, kit_str d, _, rfl, ?_⟩
          cases hs : strD d with
          | true =>
            obtain ⟨z, rfl⟩ : ∃ z, d = .str z := by cases d <;> first | exact ⟨_, rfl⟩ | cases hs
            obtain rfl : x2 = .str z := by
              cases hd3
              rfl
            exact iteT ⟨.str z, rfl, rfl, Same.refl _⟩
          | false =>
            have ew : whoS i d = Str.ofString (toString ((i : Nat) : Int)) := by cases d <;> first | rfl | cases hs
            rw [ew]
            refine iteF ⟨.int (i : Nat), rfl, _, rfl, ?_, rfl, Same.refl _⟩
            have h11 : i < 12 := by omega
            have := (by decide : ∀ n, n < 12 → ((n : Nat) : Int).natAbs.log2 < 10) _ h11
            omega
        obtain ⟨rfl, s4⟩ := hR
        refine ⟨x2, rfl, x2, d, rfl, Dt.same s4 _ hd3, sd, az, fun H5 s5 => ⟨_, rfl, ?_⟩⟩
        have s45 := s4.trans s5
        cases hn : nameD d with
        | false =>
          exact iteT ⟨.str (whoS i d), rfl, by show 2 ≤ sizeLine; decide, bad s45 (by decide +kernel) (.inr ⟨d, Dt.same s45 _ hd3, sd, hn, rfl, by rw [lzs, whoS_V]⟩)⟩
        | true =>
          obtain ⟨z, rfl, hz⟩ : ∃ z, d = .str z ∧ nameT z = true := by
            rcases hod with o | h
            · rw [o.nn] at hn
              cases hn
            · exact h
          obtain rfl : x2 = .str z := by
            cases hd3
            rfl
          have sq5 := (s3.trans s45).seq sq
          refine iteF ⟨.str z, rfl, .ref a, rfl, .int (i : Nat), rfl, _, rfl, a, _, rfl, sq5, fun p' np => ?_⟩
          rw [cut_take, et]
          refine ⟨p', _, rfl, .inl (.inl (.inl upd_same)), rfl, flat_strs _, _, rfl, ?_⟩
          show if inV (.str z) (zs.map V.str) = true then _ else _
          rw [inV_strs]
          by_cases hm : z ∈ zs
          · rw [decide_eq_true hm]
            exact iteT ⟨.str z, rfl, by show 2 ≤ sizeLine; decide, bad (s45.trans (same_upd np)) (by decide +kernel) (.inl ⟨z, rfl, hm, rfl, rfl⟩)⟩
          · rw [decide_eq_false hm]
            refine iteF ⟨zs ++ [z], _, _, _, rfl, s3.trans (s45.trans (same_upd np)), ?_, ?_, names_app nm (names_one hz)⟩
            · rw [List.take_add_one, et, e2, List.map_append]
              rfl
            · rw [List.nodup_append]
              refine ⟨nd, by simp, fun b hb c hc e => hm ?_⟩
              rw [← List.mem_singleton.mp hc, ← e]
              exact hb
      · obtain ⟨zs, y1, y2, y3, rfl, s2, et, nd, nm⟩ := hP
        have et' : xs = zs.map V.str := by
          rw [← et]
          exact (List.take_length).symm
        have lz : xs.length = zs.length := by rw [et', List.length_map]
        refine q .non none _ (s1.trans s2) (.good (zs := zs) rfl (by rw [← et']; exact s2 _ _ ha1) ⟨?_, by omega, nd, nm⟩) rfl
        rw [← lz]
        exact Nat.one_le_iff_ne_zero.mpr fun c => e0 (List.eq_nil_of_length_eq_zero c)

/-! ### _law_refused -/
abbrev sLRf : Stmt := topS 39
abbrev nLRf : List Str := ["_law_thing", "_law_told", "e"]
theorem scLRf : FnScope nLRf ["_law_thing"] (defScope sLRf) := ⟨rfl, rfl, rfl, by decide +kernel, rfl, by decide +kernel, by decide +kernel⟩
def spLRf (K : PySem.W.Frag) : Sp := fun vs H Q _ => ∃ (v : V) (o : Option (Str × Str)), vs = [v] ∧ Wr11 K H v o ∧ ∀ x H', Same H H' → Op11 H' x o → Q x H'
def spInO (K : PySem.W.Frag) (C CN : Addr) : Sp := fun vs H Q E => spInit K C vs H Q E ∨ spInX K CN vs H Q E
set_option maxHeartbeats 4000000 in
theorem ok_lrf {f fI C CN CB : Addr} {fd fdI : FuncData} (F : Fun K "_law_refused" "_law_refused" sLRf f fd) (B : Blt mg) (NB : ClsNoB P K mg CN) (NE : ExcC K CN) (self : PySem.W.subIn K (.ref CN) (.ref CN) = some true) (gB : mg "BookError" = some (.ref CB)) (kB : PySem.W.kitOne K (.ref CN) (.ref CB) = some true) (gV : mg "ValueError" = none) (kV : PySem.W.kitOne K (.ref CN) (.type "ValueError") = some true)
    (MB : Mk K C fI) (gC : mg "Book" = some (.ref C)) (GX : FnOk P w K mg base (L2.CX P w) 3 fI fdI ["self", "persons"] (spInO K C CN)) (bI : Binds K fdI ["self", "persons"] []) : FnOk P w K mg base CX0 5 f fd ["_law_thing"] (spLRf K) := by
  have nxf : XfC K CN := ⟨NB.ga, NB.gg, NB.exC, NB.hd⟩
  refine F.ok scLRf (fun vs H Q E h => ?_) (fun cdv Ar outer s H vs Q E0 hr h => ?_)
  · obtain ⟨_, _, rfl, _⟩ := h
    rfl
  · obtain ⟨v, o, rfl, hw, q⟩ := h
    refine ⟨_, (pss_cons (ps_set (i := 1) scLRf.nd rfl (.inl rfl) pe_non) (pss_cons (ps_try_as (i := 2) rfl rfl scLRf.nd rfl rfl ⟨rfl, by decide, .inl NB.gC⟩ L2.takes0 (fun W pn xe tk _ => (pss_one (ps_expr (pe_makeP MB GX hr (by rfl) gC bI (fun σ => passAt tk σ) (pa_cons (pv 0) pa_nil))))) (fun a oe cls d pn hz hf => (pss_cons (ps_set (i := 1) scLRf.nd rfl (.inl rfl) (pe_lst (pa_cons (pe_xf nxf (NB.noF _ (by simp)) hz hf (pv 2)) (pa_cons (pe_xf nxf (NB.noF _ (by simp)) hz hf (pv 2)) pa_nil)))) (pss_one (ps_if (PW.pt (pw_or (pt_not (pt_val (pe_callB (call_isX (K := K) (D := CN) rfl NE hz hf) (by rfl) B.isi (by decide +kernel) (pa_cons (pv 2) (pa_cons (pe_glob (v := .ref CB) (by rfl) gB rfl) pa_nil))))) (pw_or1 (pt_not (pt_val (pe_callB (call_isX (K := K) (D := CN) rfl NE hz hf) (by rfl) B.isi (by decide +kernel) (pa_cons (pv 2) (pa_cons (pe_bltn (v := .ty "ValueError") (by rfl) gV (by decide +kernel) rfl) pa_nil)))))))) (pss_one (ps_set (i := 1) scLRf.nd rfl (.inl rfl) pe_str)) pss_nil))))) (pss_one (ps_ret (pv 1))))), ?_⟩
    cases hw with
    | @bad w1 w2 bad a1 a2 =>
      refine ⟨v, rfl, fun x dx nx ndx nxx => ?_⟩
      have s1 : Same H (upd (upd H dx (.own x)) x (.ins C dx [])) := fun c o e => by
        rw [upd_ne (ne_of_none e nx), upd_ne (ne_of_none e ndx)]
        exact e
      refine .inr ⟨x, v, _, _, rfl, bad.same s1, fun H2 dd s2 ndd hdd => ?_⟩
      have s12 := s1.trans s2
      refine ⟨true, PySem.W.exm_ref NB.exC NB.hd NB.tyC self, fun _ a na => ?_, fun z => (nomatch z)⟩
      refine ⟨.ref a, rfl, rfl, rfl, dd, _, .str w1, rfl, hdd, (lk_miss (by decide +kernel)).trans lk_hit, .ref a, rfl, rfl, rfl, dd, _, .str w2, rfl, hdd, lk_hit, by show 2 ≤ sizeLine; decide, fun t nt => ?_⟩
      have s3 := same_upd (o := .lst [V.str w1, .str w2]) nt
      have ht : upd H2 t (.lst [V.str w1, .str w2]) t = some (.lst [V.str w1, .str w2]) := upd_same
      generalize upd H2 t (.lst [V.str w1, .str w2]) = H3 at s3 ht
      have hdd3 := s3 _ _ hdd
      refine ⟨.ref a, rfl, .ref CB, _, true, dd, _, rfl, (fun u h => h), kB, rfl, rfl, hdd3, _, rfl, ?_⟩
      refine iteF ⟨.ref a, rfl, .ty "ValueError", _, true, dd, _, rfl, (fun u h => h), kV, rfl, rfl, hdd3, _, rfl, ?_⟩
      exact iteF ⟨_, rfl, q _ _ (s12.trans s3) ⟨t, rfl, ht⟩⟩
    | @good a zs ev ha nz =>
      subst ev
      refine ⟨.ref a, rfl, fun x dx nx ndx nxx => ?_⟩
      have s1 : Same H (upd (upd H dx (.own x)) x (.ins C dx [])) := fun c o e => by
        rw [upd_ne (ne_of_none e nx), upd_ne (ne_of_none e ndx)]
        exact e
      refine .inl ⟨x, dx, a, zs, rfl, upd_same, s1 _ _ ha, nz, fun H2 b2 hb => ⟨rfl, ?_⟩⟩
      exact ⟨.non, rfl, q _ _ (fun c o e => b2 c o (ne_of_none e nx) (s1 _ _ e)) rfl⟩
end
end Rc

namespace Rc
open PySem PySem.Spec PyProof.Rows L2 RZ
/-! ### what refuses what is no person -/
section
variable {P : Program} {w : World} {K : PySem.W.Frag} {mg : Str → Option Value} {base : Heap}
theorem no_given {f fp C CN : Addr} {fd fdp : FuncData} (F : Fun K "given" "Book.given" sGiven f fd) (T : ClsF K C) (PL : HasMX P w K mg base C 3 "place_of" ["self", "who"] (spNo K C CN) fp fdp) :
    FnOk P w K mg base (L2.CX P w) 4 f fd ["self", "who"] (spNo K C CN) := by
  refine F.okX scGiven spNo_len (fun cdv A outer s H vs Q E hr h => ?_)
  obtain ⟨b, M, v, d, rfl, hb, ok, hv, hs, hn, q⟩ := h
  refine ⟨_, pss_one (ps_ret (pe_ix ix_tupD (pe_fld (pv 0) rfl) (pe_meth (pv 0) T.cl PL.m PL.ok hr PL.b .nil (passes_call (takes_of rfl rfl rfl rfl) fun _ _ _ _ z => z) (pa_cons (pv 1) pa_nil)) (fun _ _ => rfl))), ?_⟩
  obtain ⟨dx, tn, on, wg, ws, wd, e, h1, hn', h2, h3, h4⟩ := hb.ex
  exact ⟨.ref b, rfl, b, C, dx, _, _, rfl, e, T.cl, T.n2, bf_gifts, .ref b, rfl, b, dx, _, rfl, e, bf_no (NoF.mk' (by decide +kernel)), v, rfl, b, M, v, d, rfl, hb, ok, hv, hs, hn, q⟩
theorem no_fallen {f fp C CN : Addr} {fd fdp : FuncData} (F : Fun K "fallen" "Book.fallen" sFallen f fd) (T : ClsF K C) (PL : HasMX P w K mg base C 3 "place_of" ["self", "who"] (spNo K C CN) fp fdp) :
    FnOk P w K mg base (L2.CX P w) 4 f fd ["self", "who"] (spNo K C CN) := by
  refine F.okX scFallen spNo_len (fun cdv A outer s H vs Q E hr h => ?_)
  obtain ⟨b, M, v, d, rfl, hb, ok, hv, hs, hn, q⟩ := h
  refine ⟨_, pss_one (ps_ret (pe_ix ix_tupD (pe_fld (pv 0) rfl) (pe_meth (pv 0) T.cl PL.m PL.ok hr PL.b .nil (passes_call (takes_of rfl rfl rfl rfl) fun _ _ _ _ z => z) (pa_cons (pv 1) pa_nil)) (fun _ _ => rfl))), ?_⟩
  obtain ⟨dx, tn, on, wg, ws, wd, e, h1, hn', h2, h3, h4⟩ := hb.ex
  exact ⟨.ref b, rfl, b, C, dx, _, _, rfl, e, T.cl, T.n4, bf_drops, .ref b, rfl, b, dx, _, rfl, e, bf_no (NoF.mk' (by decide +kernel)), v, rfl, b, M, v, d, rfl, hb, ok, hv, hs, hn, q⟩
theorem no_fallTo {f fp C CN : Addr} {fd fdp : FuncData} (F : Fun K "fallen_to" "Book.fallen_to" sFallTo f fd) (T : ClsF K C) (PL : HasMX P w K mg base C 3 "place_of" ["self", "who"] (spNo K C CN) fp fdp) :
    FnOk P w K mg base (L2.CX P w) 4 f fd ["self", "who"] (spNo K C CN) := by
  refine F.okX scFallTo spNo_len (fun cdv A outer s H vs Q E hr h => ?_)
  obtain ⟨b, M, v, d, rfl, hb, ok, hv, hs, hn, q⟩ := h
  refine ⟨_, pss_cons (ps_set (i := 2) scFallTo.nd rfl (.inr rfl) (pe_ix ix_tupD (pe_fld (pv 0) rfl) (pe_meth (pv 0) T.cl PL.m PL.ok hr PL.b .nil (passes_call (takes_of rfl rfl rfl rfl) fun _ _ _ _ z => z) (pa_cons (pv 1) pa_nil)) (fun _ _ => rfl))) pss_never, ?_⟩
  obtain ⟨dx, tn, on, wg, ws, wd, e, h1, hn', h2, h3, h4⟩ := hb.ex
  exact ⟨.ref b, rfl, b, C, dx, _, _, rfl, e, T.cl, T.n1, bf_names, .ref b, rfl, b, dx, _, rfl, e, bf_no (NoF.mk' (by decide +kernel)), v, rfl, b, M, v, d, rfl, hb, ok, hv, hs, hn, q⟩
theorem no_cash {f fg C CN : Addr} {fd fdg : FuncData} (F : Fun K "cash" "Book.cash" sCash f fd) (T : ClsF K C) (GV : HasMX P w K mg base C 4 "given" ["self", "who"] (spNo K C CN) fg fdg) :
    FnOk P w K mg base (L2.CX P w) 5 f fd ["self", "who"] (spNo K C CN) := by
  refine F.okX scCash spNo_len (fun cdv A outer s H vs Q E hr h => ?_)
  obtain ⟨b, M, v, d, rfl, hb, ok, hv, hs, hn, q⟩ := h
  refine ⟨_, pss_one (ps_ret (pe_op op_sub (pe_op op_add (pe_meth (pv 0) T.cl GV.m GV.ok hr GV.b .nil (passes_call (takes_of rfl rfl rfl rfl) fun _ _ _ _ z => z) (pa_cons (pv 1) pa_nil)) pe_not_here) pe_not_here)), ?_⟩
  obtain ⟨dx, tn, on, wg, ws, wd, e, h1, hn', h2, h3, h4⟩ := hb.ex
  exact ⟨.ref b, rfl, b, dx, _, rfl, e, bf_no (NoF.mk' (by decide +kernel)), v, rfl, b, M, v, d, rfl, hb, ok, hv, hs, hn, q⟩
theorem no_whOf {f fn C CN : Addr} {fd fdn : FuncData} (F : Fun K "whole_of" "Book.whole_of" sWhOf f fd) (T : ClsF K C) (B3 : Blt3 mg) (NT : HasMX P w K mg base C 4 "notes" ["self", "who"] (spNo K C CN) fn fdn) :
    FnOk P w K mg base (L2.CX P w) 5 f fd ["self", "who"] (spNo K C CN) := by
  refine F.okX scWhOf spNo_len (fun cdv A outer s H vs Q E hr h => ?_)
  obtain ⟨b, M, v, d, rfl, hb, ok, hv, hs, hn, q⟩ := h
  refine ⟨_, pss_one (ps_ret (pe_callB (cr_sum rfl) (by rfl) B3.sum (by decide +kernel) (pa_cons
        (pe_lc (own := [("to", 2), ("amount", 3)]) (g := gTup K 2 (gCons (gName 2) (gCons (gName 3) gNil))) (tt := tYes) rfl scWhOf.nd (pi_list (pe_meth (pv 0) T.cl NT.m NT.ok hr NT.b .nil (passes_call (takes_of rfl rfl rfl rfl) fun _ _ _ _ z => z) (pa_cons (pv 1) pa_nil))) (blkOk_by (N := nWhOf) (sc := defScope sWhOf) (own := [("to", 2), ("amount", 3)]) (by decide +kernel))
          (fun _ _ _ _ _ => pg_tup rfl (pgs_cons (pg_name (i := 2) scWhOf.nd rfl (.inl rfl) (hf := .inr rfl)) (pgs_cons (pg_name (i := 3) scWhOf.nd rfl (.inl rfl) (hf := .inr rfl)) pgs_nil)))
          (fun _ _ _ _ _ => pts_nil) (fun _ _ _ _ _ => pv 3)) pa_nil))), ?_⟩
  obtain ⟨dx, tn, on, wg, ws, wd, e, h1, hn', h2, h3, h4⟩ := hb.ex
  exact ⟨.ref b, rfl, b, dx, _, rfl, e, bf_no (NoF.mk' (by decide +kernel)), v, rfl, b, M, v, d, rfl, hb, ok, hv, hs, hn, q⟩
end
end Rc

namespace Rc
open PySem PySem.Spec PyProof.Rows L2 RZ
section
variable {P : Program} {w : World} {K : PySem.W.Frag} {mg : Str → Option Value} {base : Heap}
/-! ### _law_asked -/
abbrev sLAk : Stmt := topS 40
theorem scLAk : FnScope ["_law_book", "_law_way", "_law_who"] ["_law_book", "_law_way", "_law_who"] (defScope sLAk) := ⟨rfl, rfl, rfl, by decide +kernel, rfl, by decide +kernel, by decide +kernel⟩
def spAk11 (K : PySem.W.Frag) (C CN : Addr) : Sp := fun vs H Q E => ∃ (b v : V) (n : Int), vs = [b, .int n, v] ∧ spNo K C CN [b, v] H Q E
theorem no_asked {f f1 f2 f3 f4 f5 f6 f7 C CN : Addr} {fd fd1 fd2 fd3 fd4 fd5 fd6 fd7 : FuncData} (F : Fun K "_law_asked" "_law_asked" sLAk f fd) (T : ClsF K C) (CS : HasMX P w K mg base C 5 "cash" ["self", "who"] (spNo K C CN) f1 fd1) (FL : HasMX P w K mg base C 4 "fallen" ["self", "who"] (spNo K C CN) f2 fd2)
    (GV : HasMX P w K mg base C 4 "given" ["self", "who"] (spNo K C CN) f3 fd3) (PI : HasMX P w K mg base C 5 "pile" ["self", "who"] (spNo K C CN) f4 fd4) (NT : HasMX P w K mg base C 4 "notes" ["self", "who"] (spNo K C CN) f5 fd5)
    (WO : HasMX P w K mg base C 5 "whole_of" ["self", "who"] (spNo K C CN) f6 fd6) (FT : HasMX P w K mg base C 4 "fallen_to" ["self", "who"] (spNo K C CN) f7 fd7) : FnOk P w K mg base (L2.CX P w) 6 f fd ["_law_book", "_law_way", "_law_who"] (spAk11 K C CN) := by
  refine F.okX scLAk (fun vs H Q E h => ?_) (fun cdv A outer s H vs Q E hr h => ?_)
  · obtain ⟨_, _, _, rfl, _⟩ := h
    rfl
  obtain ⟨_, v, n, rfl, b, M, _, d, e0, hb, hx⟩ := h
  cases e0
  have hr4 := hr.mono (show 4 ≤ 5 by decide)
  refine ⟨_, (pss_cons (ps_if (pt_cmpR op_eq (pv 1) pe_int (nomark _)) (pss_one (ps_ret (pe_meth (pv 0) T.cl CS.m CS.ok hr CS.b .nil (passes_call (takes_of rfl rfl rfl rfl) fun _ _ _ _ z => z) (pa_cons (pv 2) pa_nil)))) pss_nil) (pss_cons (ps_if (pt_cmpR op_eq (pv 1) pe_int (nomark _)) (pss_one (ps_ret (pe_meth (pv 0) T.cl FL.m FL.ok hr4 FL.b .nil (passes_call (takes_of rfl rfl rfl rfl) fun _ _ _ _ z => z) (pa_cons (pv 2) pa_nil)))) pss_nil) (pss_cons (ps_if (pt_cmpR op_eq (pv 1) pe_int (nomark _)) (pss_one (ps_ret (pe_meth (pv 0) T.cl GV.m GV.ok hr4 GV.b .nil (passes_call (takes_of rfl rfl rfl rfl) fun _ _ _ _ z => z) (pa_cons (pv 2) pa_nil)))) pss_nil) (pss_cons (ps_if (pt_cmpR op_eq (pv 1) pe_int (nomark _)) (pss_one (ps_ret (pe_meth (pv 0) T.cl PI.m PI.ok hr PI.b .nil (passes_call (takes_of rfl rfl rfl rfl) fun _ _ _ _ z => z) (pa_cons (pv 2) pa_nil)))) pss_nil) (pss_cons (ps_if (pt_cmpR op_eq (pv 1) pe_int (nomark _)) (pss_one (ps_ret (pe_meth (pv 0) T.cl NT.m NT.ok hr4 NT.b .nil (passes_call (takes_of rfl rfl rfl rfl) fun _ _ _ _ z => z) (pa_cons (pv 2) pa_nil)))) pss_nil) (pss_one (ps_ret (pe_ifExp (pt_cmpR op_eq (pv 1) pe_int (nomark _)) (pe_meth (pv 0) T.cl WO.m WO.ok hr WO.b .nil (passes_call (takes_of rfl rfl rfl rfl) fun _ _ _ _ z => z) (pa_cons (pv 2) pa_nil)) (pe_meth (pv 0) T.cl FT.m FT.ok hr4 FT.b .nil (passes_call (takes_of rfl rfl rfl rfl) fun _ _ _ _ z => z) (pa_cons (pv 2) pa_nil)))))))))), ?_⟩
  obtain ⟨dx, tn, on, wg, ws, wd, e, h1, hn', h2, h3, h4⟩ := hb.ex
  refine ⟨.int n, rfl, rfl, _, rfl, ite2 (fun _ => ⟨.ref b, rfl, b, dx, _, rfl, e, bf_no (NoF.mk' (by decide +kernel)), v, rfl, b, M, v, d, rfl, hb, hx⟩) (fun _ => ?_)⟩
  refine ⟨.int n, rfl, rfl, _, rfl, ite2 (fun _ => ⟨.ref b, rfl, b, dx, _, rfl, e, bf_no (NoF.mk' (by decide +kernel)), v, rfl, b, M, v, d, rfl, hb, hx⟩) (fun _ => ?_)⟩
  refine ⟨.int n, rfl, rfl, _, rfl, ite2 (fun _ => ⟨.ref b, rfl, b, dx, _, rfl, e, bf_no (NoF.mk' (by decide +kernel)), v, rfl, b, M, v, d, rfl, hb, hx⟩) (fun _ => ?_)⟩
  refine ⟨.int n, rfl, rfl, _, rfl, ite2 (fun _ => ⟨.ref b, rfl, b, dx, _, rfl, e, bf_no (NoF.mk' (by decide +kernel)), v, rfl, b, M, v, d, rfl, hb, hx⟩) (fun _ => ?_)⟩
  refine ⟨.int n, rfl, rfl, _, rfl, ite2 (fun _ => ⟨.ref b, rfl, b, dx, _, rfl, e, bf_no (NoF.mk' (by decide +kernel)), v, rfl, b, M, v, d, rfl, hb, hx⟩) (fun _ => ?_)⟩
  exact ⟨.int n, rfl, rfl, _, rfl, ite2 (fun _ => ⟨.ref b, rfl, b, dx, _, rfl, e, bf_no (NoF.mk' (by decide +kernel)), v, rfl, b, M, v, d, rfl, hb, hx⟩) (fun _ => ⟨.ref b, rfl, b, dx, _, rfl, e, bf_no (NoF.mk' (by decide +kernel)), v, rfl, b, M, v, d, rfl, hb, hx⟩)⟩
/-! ### _law_is_none -/
abbrev sLNo : Stmt := topS 41
abbrev nLNo : List Str := ["_law_book", "_law_way", "_law_who", "_law_told", "e"]
theorem scLNo : FnScope nLNo ["_law_book", "_law_way", "_law_who"] (defScope sLNo) := ⟨rfl, rfl, rfl, by decide +kernel, rfl, by decide +kernel, by decide +kernel⟩
def spNo11 (K : PySem.W.Frag) (C : Addr) : Sp := fun vs H Q _ => ∃ (b : Addr) (M : Bk) (v : V) (d : PyData) (n : Int), vs = [.ref b, .int n, v] ∧ BookAt K C H b M ∧ NamesOk M.names ∧ Dt K H v d ∧ ShortD d ∧ hasD M d = false ∧ ShowOk d ∧ ∀ H', Same H H' → Q (.bl true) H'
theorem ok_lno {f f1 C CN CB CR : Addr} {fd fd1 : FuncData} (F : Fun K "_law_is_none" "_law_is_none" sLNo f fd) (B : Blt mg) (B2 : Blt2 mg) (N : ClsN P K mg CN) (NE : ExcC K CN) (self : PySem.W.subIn K (.ref CN) (.ref CN) = some true) (gB : mg "BookError" = some (.ref CB)) (gR : mg "NoRing" = some (.ref CR))
    (kA : PySem.W.kitAny K (.ref CN) [.ref CB, .ref CR] = some false) (AK : HasX P w K mg base 6 "_law_asked" ["_law_book", "_law_way", "_law_who"] (spAk11 K C CN) f1 fd1) :
    FnG P w K mg base CX0 7 f fd ["_law_book", "_law_way", "_law_who"] (spNo11 K C) := by
  refine okG0 F scLNo (fun vs H Q E h => ?_) (fun cdv Ar outer s H vs Q E hr hgd h => ?_)
  · obtain ⟨_, _, _, _, _, rfl, _⟩ := h
    rfl
  · obtain ⟨b, M, v, d, n, rfl, hb, ok, hv, hs, hn, so, q⟩ := h
    have hu := hr.units
    refine ⟨_, pss_cons (ps_set (i := 3) scLNo.nd rfl (.inl rfl) pe_str)
      (pss_cons (ps_try_as (i := 4) rfl rfl scLNo.nd rfl rfl ⟨rfl, by decide, .inl N.gC⟩ L2.takes0
        (fun W pn xe tk _ => pss_one (ps_expr (pe_callS AK.ok hr (by rfl) AK.g AK.kp AK.b (fun σ => passAt tk σ) (pa_cons (pv 0) (pa_cons (pv 1) (pa_cons (pv 2) pa_nil))))))
        (fun a oe cls d pn hz hf => pss_one (ps_set (i := 3) scLNo.nd rfl (.inl rfl)
          (pe_ifExp (PW.pt (pw_and (pt_cmpR op_eq (pe_callB (call_reprU rfl hu hgd) (by rfl) B2.repr (by decide +kernel) (pa_cons (pe_xf (no_xf N) (N.noF _ List.mem_cons_self) hz hf (pv 4)) pa_nil))
              (pe_callB (call_reprU rfl hu hgd) (by rfl) B2.repr (by decide +kernel) (pa_cons (pv 2) pa_nil)) (nomark _))
            (pw_and1 (pt_not (pt_val (pe_callB (call_isX2 (K := K) (D := CN) rfl NE hz hf) (by rfl) B.isi (by decide +kernel) (pa_cons (pv 4) (pa_cons (pe_tup (pa_cons (pe_glob (v := .ref CB) (by rfl) gB rfl) (pa_cons (pe_glob (v := .ref CR) (by rfl) gR rfl) pa_nil))) pa_nil)))))))) pe_str pe_str))))
      (pss_one (ps_ret (pe_cmpR op_eq (pv 3) pe_str (nomark _))))), ?_⟩
    refine ⟨.ref b, rfl, .int n, rfl, v, rfl, .ref b, v, n, rfl, b, M, v, d, rfl, hb, ok, hv, hs, hn, fun H' dd s1 nd hdd => ?_⟩
    refine ⟨true, PySem.W.exm_ref N.exC N.hd N.tyC self, fun _ a na => ?_, fun z => (nomatch z)⟩
    have hv' := Dt.same s1 _ hv
    refine ⟨.ref a, rfl, rfl, rfl, dd, _, v, rfl, hdd, rfl, v, d, rfl, hv', so.sh, so.tp, so.dp, so.ft, ?_⟩
    refine ⟨v, rfl, v, d, rfl, hv', so.sh, so.tp, so.dp, so.ft, rfl, _, rfl, ?_⟩
    rw [decide_eq_true rfl]
    refine iteT ⟨.ref a, rfl, by show 2 ≤ sizeLine; decide, fun t nt => ?_⟩
    have s2 := same_upd (o := .tup [V.ref CB, V.ref CR]) nt
    refine ⟨t, [CB, CR], false, dd, _, rfl, upd_same, kA, rfl, rfl, s2 _ _ hdd, _, rfl, iteT ?_⟩
    exact ⟨_, rfl, rfl, q _ (s1.trans s2)⟩
end
end Rc

namespace Rc
open PySem PySem.Spec PyProof.Rows L2
/-! ### methods within a try; exceptions without fields -/
section
variable {X : Cx} {CX : CXT} {k : Nat} {f C : Addr} {fd : FuncData} {ps : List Str} {sp : Sp} {E : L2.St → XK} {m : Str} {pos apos : Pos} {e o : Expr} {es : List Expr} {ta : TE} {t : TA}
def tMethP (C : Addr) (m : Str) (sp : Sp) (E : L2.St → XK) (ta : TE) (t : TA) : TE := fun σ H Q => ta σ H fun x H1 => ∃ a dx fs, x = .ref a ∧ H1 a = some (.ins C dx fs) ∧ fs.lookup m = none ∧ t σ H1 fun vs H2 => sp (x :: vs) H2 Q (E σ)
theorem pe_methP {pl : Sem Bool} (he : PE X o ta) (c : Cls X.K C) (hm : Meth X.K C m f) (F : FnOk X.prog X.w X.K X.mg X.base CX k f fd ps sp) (hr : Room k X.A) (hb : Binds X.K fd ps []) (hx : ∀ σ, PassesAt CX X σ (E σ)) (ha : PA X (e :: es) t)
    (hst : starEach (e :: es) X.env = (false, eval e X.env) :: starEach es X.env := by rfl) (hpl : (backTo pos (starEach es X.env)).any (·.1) = false := by rfl)
    (ht : eval (.Call (.Attribute o m apos) (e :: es) [] pos) X.env = (do
      let ov ← eval o X.env
      standAt apos.atName
      let (f, first) ← holding [ov] (getMethod ov m pl)
      callWith pos f first (backTo pos (starEach (e :: es) X.env)) (backToKw pos (keywordEach [] X.env))) := by rfl) :
    PE X (.Call (.Attribute o m apos) (e :: es) [] pos) (tMethP C m sp E ta t) := by
  refine ⟨fun pins s σ H Q I h => ?_⟩
  refine PySem.W.methodCall_KW (pl := pl) (thn (he.run pins s σ H _ I h) fun u s1 ⟨x, H1, I1, rx, a, dx, fs, ex, ea, l, q⟩ => ?_) ht
  subst ex
  obtain rfl : u = Value.ref a := rx
  refine getmeth_ok I1 ea c hm l ?_
  refine PySem.W.callWith_K (first := [.ref a]) (h₀ := X.base) I.ok.mod.kin hm.kp (thn (ha.run pos pins s1 σ H1 _ I1 q) fun us s2 ⟨vs, H2, I2, r, q2⟩ => ⟨I2.kIn, ?_⟩) hst hpl
  exact run_fnS (us := .ref a :: us) (vs := .ref a :: vs) F hr hb (hx σ) I2 (.cons rfl r) q2
/-- isinstance(e, c), e without fields -/
def rIsN (K : PySem.W.Frag) (D a : Addr) (cls : Value) (d : Option Addr) : List V → Hp → VK → Prop := fun xs H Q => ∃ (c : V) (cv : Value) (b : Bool), xs = [.ref a, c] ∧ (∀ u, RelV c u → u = cv) ∧ PySem.W.kitOne K (.ref D) cv = some b ∧ cls = .ref D ∧ d = none ∧ Q (.bl b) H
theorem call_isN {K : PySem.W.Frag} {a D : Addr} {oe : Obj} {cls : Value} {d : Option Addr} {pn : List (Addr × Obj)} (eK : X.K = K) (C : ExcC K D) (hz : Zc cls d oe) (hf : ∃ vs, oe.data = .fields vs) : CallR (X.suite a ((a, oe) :: pn)) (.builtin "isinstance") (rIsN K D a cls d) := by
  subst eK
  intro pins s σ H xs us Q I r h
  obtain ⟨c, cv, b, rfl, hcv, e, rfl, rfl, q⟩ := h
  exact call_isE C hz hf pins s σ H _ us Q I r ⟨c, cv, b, rfl, hcv, e, q⟩
end
/-- an exception class over BookError, without an __init__ of its own -/
structure ClsP (K : PySem.W.Frag) (mg : Str → Option Value) (nm : Str) (D CB : Addr) : Prop where
  gP : mg nm = some (.ref D)
  xP : PySem.W.excIn K D [.type "ValueError", .type "Exception", .type "BaseException", .type "object"] "ValueError.__new__" = true
  kP : PySem.W.keepIn K (.ref D) = true
  bP : PySem.W.subIn K (.ref D) (.type "BaseException") = some true
  tP : PySem.W.typeIn K (.ref D) = some (.type "type")
  hd : PySem.W.hasDictIn K D = true
  sP : PySem.W.subIn K (.ref D) (.ref D) = some true
  ga : PySem.W.findIn K (.ref D) "__getattribute__" = some (some (.builtin "BaseException.__getattribute__"))
  gg : PySem.W.findIn K (.ref D) "__getattr__" = some none
  cl : PySem.W.findIn K (.ref D) "__class__" = some (some (.builtin "object.__class__"))
  sp : PySem.W.specialIn K (.builtin "object.__class__") "__get__" = some (some (.builtin "getset_descriptor.__get__"))
  tk : PySem.W.takesIn K (.builtin "object.__class__") = some true
  ob : PySem.W.mroIn K D (.type "object") = some true
  gB : mg "BookError" = some (.ref CB)
  kit : PySem.W.kitOne K (.ref D) (.ref CB) = some true
section
variable {K : PySem.W.Frag} {mg : Str → Option Value} {nm : Str} {D CB : Addr}
theorem ClsP.exc (P : ClsP K mg nm D CB) : ExcC K D := ⟨P.ga, P.gg, P.bP, P.hd, P.cl, P.sp, P.tk, P.ob⟩
theorem ClsP.hit (P : ClsP K mg nm D CB) : PySem.W.exmOne K (.ref D) (.ref D) = some true := PySem.W.exm_ref P.bP P.hd P.tP P.sP
theorem mkClsP {h : Heap} (X : K.In h) (G : h.Ns mainGlobals mg) (a : PySem.W.nsIn K mainGlobals nm = some (some (.ref D)))
    (a1 : PySem.W.excIn K D [.type "ValueError", .type "Exception", .type "BaseException", .type "object"] "ValueError.__new__" = true) (a2 : PySem.W.keepIn K (.ref D) = true) (a3 : PySem.W.subIn K (.ref D) (.type "BaseException") = some true)
    (a4 : PySem.W.typeIn K (.ref D) = some (.type "type")) (a5 : PySem.W.hasDictIn K D = true) (a6 : PySem.W.subIn K (.ref D) (.ref D) = some true)
    (a7 : PySem.W.findIn K (.ref D) "__getattribute__" = some (some (.builtin "BaseException.__getattribute__"))) (a8 : PySem.W.findIn K (.ref D) "__getattr__" = some none) (a9 : PySem.W.findIn K (.ref D) "__class__" = some (some (.builtin "object.__class__")))
    (b1 : PySem.W.specialIn K (.builtin "object.__class__") "__get__" = some (some (.builtin "getset_descriptor.__get__"))) (b2 : PySem.W.takesIn K (.builtin "object.__class__") = some true) (b3 : PySem.W.mroIn K D (.type "object") = some true)
    (b4 : PySem.W.nsIn K mainGlobals "BookError" = some (some (.ref CB))) (b5 : PySem.W.kitOne K (.ref D) (.ref CB) = some true) : ClsP K mg nm D CB :=
  ⟨PySem.W.mg_of X G a, a1, a2, a3, a4, a5, a6, a7, a8, a9, b1, b2, b3, PySem.W.mg_of X G b4, b5⟩
end
end Rc

namespace Rc
open PySem PySem.Spec PyProof.Rows L2 RZ
/-! ### the other exceptions with fields -/
abbrev sX11 : Stmt := inClass (topS 6) 0
theorem txX11 : EX.Txt sX11 ["row"] :=
  ⟨by simp, by decide, rfl, rfl, rfl, by decide +kernel, rfl, rfl, rfl, fun f hf => by
      obtain rfl := List.mem_singleton.mp hf
      exact ⟨rfl, by decide, by decide⟩, by decide, ⟨_, rfl, rfl⟩,
    fun _ _ _ _ _ _ _ _ vs hl => match vs, hl with | [v], _ => rfl, ⟨_, _, _, _, _, _, _, _, rfl, ⟨_, fun _ => rfl⟩, .cons .nil⟩⟩
abbrev ClsX11 (P : Program) (K : PySem.W.Frag) (mg : Str → Option Value) (C : Addr) : Prop :=
  EX.Cx' P K mg "NoText" sX11 ["row"] "ValueError" "ValueError.__new__" "ValueError.__init__" [.type "ValueError", .type "Exception", .type "BaseException", .type "object"] C
abbrev sR11 : Stmt := inClass (topS 11) 0
theorem txR11 : EX.Txt sR11 ["who"] :=
  ⟨by simp, by decide, rfl, rfl, rfl, by decide +kernel, rfl, rfl, rfl, fun f hf => by
      obtain rfl := List.mem_singleton.mp hf
      exact ⟨rfl, by decide, by decide⟩, by decide, ⟨_, rfl, rfl⟩,
    fun _ _ _ _ _ _ _ _ vs hl => match vs, hl with | [v], _ => rfl, ⟨_, _, _, _, _, _, _, _, rfl, ⟨_, fun _ => rfl⟩, .cons .nil⟩⟩
abbrev ClsR11 (P : Program) (K : PySem.W.Frag) (mg : Str → Option Value) (C : Addr) : Prop :=
  EX.Cx' P K mg "NoRing" sR11 ["who"] "LookupError" "LookupError.__new__" "LookupError.__init__" [.type "LookupError", .type "Exception", .type "BaseException", .type "object"] C
abbrev sF11 : Stmt := inClass (topS 12) 0
theorem txF11 : EX.Txt sF11 ["many"] :=
  ⟨by simp, by decide, rfl, rfl, rfl, by decide +kernel, rfl, rfl, rfl, fun f hf => by
      obtain rfl := List.mem_singleton.mp hf
      exact ⟨rfl, by decide, by decide⟩, by decide, ⟨_, rfl, rfl⟩,
    fun _ _ _ _ _ _ _ _ vs hl => match vs, hl with | [v], _ => rfl, ⟨_, _, _, _, _, _, _, _, rfl, ⟨_, fun _ => rfl⟩, .cons .nil⟩⟩
abbrev ClsF11 (P : Program) (K : PySem.W.Frag) (mg : Str → Option Value) (C : Addr) : Prop :=
  EX.Cx' P K mg "Full" sF11 ["many"] "RuntimeError" "RuntimeError.__new__" "RuntimeError.__init__" [.type "RuntimeError", .type "Exception", .type "BaseException", .type "object"] C
abbrev sT11 : Stmt := inClass (topS 13) 0
theorem txT11 : EX.Txt sT11 ["who", "most"] :=
  ⟨by simp, by decide, rfl, rfl, rfl, by decide +kernel, rfl, rfl, rfl, fun f hf => by
      rcases List.mem_cons.mp hf with rfl | hf
      · exact ⟨rfl, by decide, by decide⟩
      · obtain rfl := List.mem_singleton.mp hf
        exact ⟨rfl, by decide, by decide⟩, by decide, ⟨_, rfl, rfl⟩,
    fun _ _ _ _ _ _ _ _ vs hl => match vs, hl with | [v, u], _ => rfl, ⟨_, _, _, _, _, _, _, _, rfl, ⟨_, fun _ => rfl⟩, .cons (.cons .nil)⟩⟩
abbrev ClsT11 (P : Program) (K : PySem.W.Frag) (mg : Str → Option Value) (C : Addr) : Prop :=
  EX.Cx' P K mg "TooMuch" sT11 ["who", "most"] "RuntimeError" "RuntimeError.__new__" "RuntimeError.__init__" [.type "RuntimeError", .type "Exception", .type "BaseException", .type "object"] C
abbrev sH11 : Stmt := inClass (topS 14) 0
theorem txH11 : EX.Txt sH11 ["who"] :=
  ⟨by simp, by decide, rfl, rfl, rfl, by decide +kernel, rfl, rfl, rfl, fun f hf => by
      obtain rfl := List.mem_singleton.mp hf
      exact ⟨rfl, by decide, by decide⟩, by decide, ⟨_, rfl, rfl⟩,
    fun _ _ _ _ _ _ _ _ vs hl => match vs, hl with | [v], _ => rfl, ⟨_, _, _, _, _, _, _, _, rfl, ⟨_, fun _ => rfl⟩, .cons .nil⟩⟩
abbrev ClsH11 (P : Program) (K : PySem.W.Frag) (mg : Str → Option Value) (C : Addr) : Prop :=
  EX.Cx' P K mg "Short" sH11 ["who"] "ArithmeticError" "ArithmeticError.__new__" "ArithmeticError.__init__" [.type "ArithmeticError", .type "Exception", .type "BaseException", .type "object"] C
abbrev sD11 : Stmt := inClass (topS 15) 0
theorem txD11 : EX.Txt sD11 ["who"] :=
  ⟨by simp, by decide, rfl, rfl, rfl, by decide +kernel, rfl, rfl, rfl, fun f hf => by
      obtain rfl := List.mem_singleton.mp hf
      exact ⟨rfl, by decide, by decide⟩, by decide, ⟨_, rfl, rfl⟩,
    fun _ _ _ _ _ _ _ _ vs hl => match vs, hl with | [v], _ => rfl, ⟨_, _, _, _, _, _, _, _, rfl, ⟨_, fun _ => rfl⟩, .cons .nil⟩⟩
abbrev ClsD11 (P : Program) (K : PySem.W.Frag) (mg : Str → Option Value) (C : Addr) : Prop :=
  EX.Cx' P K mg "Behind" sD11 ["who"] "ArithmeticError" "ArithmeticError.__new__" "ArithmeticError.__init__" [.type "ArithmeticError", .type "Exception", .type "BaseException", .type "object"] C
/-- the classes of errors.py -/
structure Ea11 where
  (B O S X R F T H D NA NP NV NW NK : Addr)
structure Er11 (P : Program) (K : PySem.W.Frag) (mg : Str → Option Value) (a : Ea11) : Prop where
  gB : mg "BookError" = some (.ref a.B)
  o : ClsNoB P K mg a.O
  s : ClsN P K mg a.S
  x : ClsX11 P K mg a.X
  r : ClsR11 P K mg a.R
  f : ClsF11 P K mg a.F
  t : ClsT11 P K mg a.T
  h : ClsH11 P K mg a.H
  d : ClsD11 P K mg a.D
  na : ClsP K mg "NoAmount" a.NA a.B
  np : ClsP K mg "NoStep" a.NP a.B
  nv : ClsP K mg "NoVector" a.NV a.B
  nw : ClsP K mg "NoRow" a.NW a.B
  nk : ClsP K mg "NoBack" a.NK a.B
  eo : ExcC K a.O
  es : ExcC K a.S
  ex : ExcC K a.X
  er : ExcC K a.R
  ef : ExcC K a.F
  et : ExcC K a.T
  eh : ExcC K a.H
  ed : ExcC K a.D
  gV : mg "ValueError" = none
  gL : mg "LookupError" = none
  gR : mg "RuntimeError" = none
  gA : mg "ArithmeticError" = none
  so : PySem.W.subIn K (.ref a.O) (.ref a.O) = some true
  ss : PySem.W.subIn K (.ref a.S) (.ref a.S) = some true
  oB : PySem.W.kitOne K (.ref a.O) (.ref a.B) = some true
  oV : PySem.W.kitOne K (.ref a.O) (.type "ValueError") = some true
  sR : PySem.W.kitAny K (.ref a.S) [.ref a.B, .ref a.R] = some false
  xV : PySem.W.kitOne K (.ref a.X) (.type "ValueError") = some true
  rL : PySem.W.kitOne K (.ref a.R) (.type "LookupError") = some true
  rS : PySem.W.kitAny K (.ref a.R) [.ref a.B, .ref a.S] = some false
  fR : PySem.W.kitOne K (.ref a.F) (.type "RuntimeError") = some true
  tR : PySem.W.kitOne K (.ref a.T) (.type "RuntimeError") = some true
  hA : PySem.W.kitOne K (.ref a.H) (.type "ArithmeticError") = some true
  dA : PySem.W.kitOne K (.ref a.D) (.type "ArithmeticError") = some true
  fT : PySem.W.kitAny K (.ref a.F) [.ref a.B, .ref a.T] = some false
  hD : PySem.W.kitAny K (.ref a.H) [.ref a.B, .ref a.D] = some false
/-! ### what such a one says, in a word -/
/-- v, whatever was made for it -/
def tNew (v : V) : TE := fun _ H Q => ∀ H', Same H H' → Q v H'
theorem same_exc {H : Hp} {d a : Addr} {fs : List (Str × V)} {o : HO} (nd : H d = none) (na : upd H d (.xd fs) a = none) : Same H (upd (upd H d (.xd fs)) a o) := (same_upd nd).trans (same_upd na)
theorem fX_go {C : Addr} {fs : List Str} {f : Str} {vs : List V} {v : V} {H : Hp} {Q : VK} (hl : vs.length = fs.length) (hv : (fs.zip vs).reverse.lookup f = some v) (q : ∀ H', Same H H' → Q v H') :
    vs.length = fs.length ∧ ∀ d, H d = none → ∀ (a : Addr) (oe : Obj), upd H d (.xd (fs.zip vs).reverse) a = none → Zc (.ref C) (some d) oe → (∃ us, oe.data = .fields us) →
      ∃ (a' : Addr) (oe' : Obj) (dd : Addr) (fs' : List (Str × V)) (v' : V), V.ref a = .ref a' ∧ upd (upd H d (.xd (fs.zip vs).reverse)) a (TX oe a) a' = some (TX oe' a') ∧ Zc (.ref C) (some dd) oe' ∧ (∃ vs, oe'.data = .fields vs) ∧ upd (upd H d (.xd (fs.zip vs).reverse)) a (TX oe a) dd = some (.xd fs') ∧ fs'.lookup f = some v' ∧ Q v' (upd (upd H d (.xd (fs.zip vs).reverse)) a (TX oe a)) :=
  ⟨hl, fun d nd a oe na hz hf => ⟨a, oe, d, _, v, rfl, upd_same, hz, hf, same_upd na _ _ upd_same, hv, q _ (same_exc nd na)⟩⟩
theorem iX_go {K : PySem.W.Frag} {C : Addr} {fs : List Str} {vs : List V} {c : V} {cv : Value} {b : Bool} {H : Hp} {Q : VK} (hl : vs.length = fs.length) (hc : ∀ u, RelV c u → u = cv) (kit : PySem.W.kitOne K (.ref C) cv = some b) (q : ∀ H', Same H H' → Q (.bl b) H') :
    vs.length = fs.length ∧ ∀ d, H d = none → ∀ (a : Addr) (oe : Obj), upd H d (.xd (fs.zip vs).reverse) a = none → Zc (.ref C) (some d) oe → (∃ us, oe.data = .fields us) →
      rIsE1 K C [.ref a, c] (upd (upd H d (.xd (fs.zip vs).reverse)) a (TX oe a)) Q :=
  ⟨hl, fun d nd a oe na hz hf => ⟨a, c, cv, b, rfl, hc, kit, new_fs na hz hf upd_same, q _ (same_exc nd na)⟩⟩
theorem iP_go {K : PySem.W.Frag} {C : Addr} {c : V} {cv : Value} {b : Bool} {H : Hp} {Q : VK} (hc : ∀ u, RelV c u → u = cv) (kit : PySem.W.kitOne K (.ref C) cv = some b) (q : ∀ H', Same H H' → Q (.bl b) H') :
    ∀ (a : Addr) (oe : Obj), H a = none → Zc (.ref C) none oe → (∃ us, oe.data = .fields us) → rIsE1 K C [.ref a, c] (upd H a (TX oe a)) Q :=
  fun a oe na hz hf => ⟨a, c, cv, b, rfl, hc, kit, new_is na hz hf, q _ (same_upd na)⟩
theorem isx_same {H H' : Hp} {a D : Addr} (h : IsX H a D) (s : Same H H') : IsX H' a D := by
  obtain ⟨oe, d, h1, h2, h3, h4⟩ := h
  exact ⟨oe, d, s _ _ h1, h2, h3, fun dd e => by
    obtain ⟨fs, h⟩ := h4 dd e
    exact ⟨fs, s _ _ h⟩⟩
theorem iA_go {K : PySem.W.Frag} {C D1 D2 : Addr} {fs : List Str} {vs : List V} {b : Bool} {H : Hp} {Q : VK} (hl : vs.length = fs.length) (kit : PySem.W.kitAny K (.ref C) [.ref D1, .ref D2] = some b) (q : ∀ H', Same H H' → Q (.bl b) H') :
    vs.length = fs.length ∧ ∀ d, H d = none → ∀ (a : Addr) (oe : Obj), upd H d (.xd (fs.zip vs).reverse) a = none → Zc (.ref C) (some d) oe → (∃ us, oe.data = .fields us) →
      [V.ref D1, .ref D2].length ≤ sizeLine ∧ ∀ t, upd (upd H d (.xd (fs.zip vs).reverse)) a (TX oe a) t = none → rIsE2 K C [.ref a, .ref t] (upd (upd (upd H d (.xd (fs.zip vs).reverse)) a (TX oe a)) t (.tup [.ref D1, .ref D2])) Q :=
  ⟨hl, fun d nd a oe na hz hf => ⟨by show 2 ≤ sizeLine; decide, fun t nt => ⟨a, t, [D1, D2], b, rfl, upd_same, kit, isx_same (new_fs na hz hf upd_same) (same_upd nt), q _ ((same_exc nd na).trans (same_upd nt))⟩⟩⟩
end Rc

namespace Rc
open PySem PySem.Spec PyProof.Rows L2 RZ
section
variable {P : Program} {w : World} {K : PySem.W.Frag} {mg : Str → Option Value} {base : Heap}
theorem xf11 {nm : Str} {st : Stmt} {fs : List Str} {B newId initId : String} {bmB : List Value} {C : Addr} (T : EX.Cx' P K mg nm st fs B newId initId bmB C) : XfC K C := ⟨T.ga, T.gg, T.exC, T.hd⟩
/-! ### _law_errors_right -/
abbrev sLEr : Stmt := topS 42
abbrev nLEr : List Str := ["_law_found", "_law_kinds"]
theorem scLEr : FnScope nLEr [] (defScope sLEr) := ⟨rfl, rfl, rfl, by decide +kernel, rfl, by decide +kernel, by decide +kernel⟩
def spLEr : Sp := fun vs H Q _ => vs = [] ∧ ∀ H', Same H H' → Q (.bl true) H'
set_option maxHeartbeats 4000000 in
theorem ok_ler {f : Addr} {fd : FuncData} {a : Ea11} (F : Fun K "_law_errors_right" "_law_errors_right" sLEr f fd) (B : Blt mg) (B2 : Blt2 mg) (gM : ∃ t, mg "MOST" = some (.int 60 t)) (E : Er11 P K mg a) : FnG P w K mg base CX0 2 f fd [] spLEr := by
  obtain ⟨tM, gM⟩ := gM
  refine okG0 F scLEr (fun vs H Q E0 h => ?_) (fun cdv Ar outer s H vs Q E0 hr hgd h => ?_)
  · obtain ⟨rfl, _⟩ := h
    rfl
  · obtain ⟨rfl, q⟩ := h
    refine ⟨_, (pss_cons (ps_set (i := 0) scLEr.nd rfl (.inl rfl) (pe_lst (pa_cons (PE.of (t' := tNew (.str "name")) (pe_xe (C := a.O) (n := "what") (xf11 E.o) (E.o.noF _ (by simp)) (pe_exv (pmk_ex E.o txNoB EX.base_Value hr (pa_cons pe_str (pa_cons pe_str pa_nil)) (by rfl)))) (fun σ H Q q => fX_go rfl rfl q)) (pa_cons (PE.of (t' := tNew (.str "a")) (pe_xe (C := a.O) (n := "who") (xf11 E.o) (E.o.noF _ (by simp)) (pe_exv (pmk_ex E.o txNoB EX.base_Value hr (pa_cons pe_str (pa_cons pe_str pa_nil)) (by rfl)))) (fun σ H Q q => fX_go rfl rfl q)) (pa_cons (PE.of (t' := tNew (.int 3)) (pe_xe (C := a.X) (n := "row") (xf11 E.x) (E.x.noF _ (by simp)) (pe_exv (pmk_ex E.x txX11 EX.base_Value hr (pa_cons pe_int pa_nil) (by rfl)))) (fun σ H Q q => fX_go rfl rfl q)) (pa_cons (PE.of (t' := fun _ H Q => ∀ x H', Same H H' → H' x = some (.lst [V.int 5]) → Q (.ref x) H') (pe_xe (C := a.S) (n := "who") (xf11 E.s) (E.s.noF _ (by simp)) (pe_exv (pmk_ex E.s txNoS EX.base_Lookup hr (pa_cons (pe_lst (pa_cons pe_int pa_nil)) pa_nil) (by rfl)))) (fun σ H Q q => ⟨by show 1 ≤ sizeLine; decide, fun x nx => fX_go rfl rfl fun H' s => q x H' ((same_upd nx).trans s) (s _ _ upd_same)⟩)) (pa_cons (PE.of (t' := tNew (.str "a")) (pe_xe (C := a.R) (n := "who") (xf11 E.r) (E.r.noF _ (by simp)) (pe_exv (pmk_ex E.r txR11 EX.base_Lookup hr (pa_cons pe_str pa_nil) (by rfl)))) (fun σ H Q q => fX_go rfl rfl q)) pa_nil))))))) (pss_cons (ps_set (i := 0) scLEr.nd rfl (.inl rfl) (pe_op op_cat (pv 0) (pe_lst (pa_cons (PE.of (t' := tNew (.int 60)) (pe_xe (C := a.F) (n := "many") (xf11 E.f) (E.f.noF _ (by simp)) (pe_exv (pmk_ex E.f txF11 EX.base_Runtime hr (pa_cons pe_int pa_nil) (by rfl)))) (fun σ H Q q => fX_go rfl rfl q)) (pa_cons (PE.of (t' := tNew (.str "a")) (pe_xe (C := a.T) (n := "who") (xf11 E.t) (E.t.noF _ (by simp)) (pe_exv (pmk_ex E.t txT11 EX.base_Runtime hr (pa_cons pe_str (pa_cons pe_int pa_nil)) (by rfl)))) (fun σ H Q q => fX_go rfl rfl q)) (pa_cons (PE.of (t' := tNew (.int 7)) (pe_xe (C := a.T) (n := "most") (xf11 E.t) (E.t.noF _ (by simp)) (pe_exv (pmk_ex E.t txT11 EX.base_Runtime hr (pa_cons pe_str (pa_cons pe_int pa_nil)) (by rfl)))) (fun σ H Q q => fX_go rfl rfl q)) (pa_cons (PE.of (t' := tNew (.str "b")) (pe_xe (C := a.H) (n := "who") (xf11 E.h) (E.h.noF _ (by simp)) (pe_exv (pmk_ex E.h txH11 EX.base_Arith hr (pa_cons pe_str pa_nil) (by rfl)))) (fun σ H Q q => fX_go rfl rfl q)) (pa_cons (PE.of (t' := tNew (.str "c")) (pe_xe (C := a.D) (n := "who") (xf11 E.d) (E.d.noF _ (by simp)) (pe_exv (pmk_ex E.d txD11 EX.base_Arith hr (pa_cons pe_str pa_nil) (by rfl)))) (fun σ H Q q => fX_go rfl rfl q)) pa_nil)))))))) (pss_cons (ps_set (i := 1) scLEr.nd rfl (.inl rfl) (pe_lst (pa_cons (PE.of (t' := tNew (.bl true)) (pe_callB (call_isE1 (K := K) (D := a.NA) rfl E.na.exc) (by rfl) B.isi (by decide +kernel) (pa_cons (pe_exv (pmk_own PySem.F.excBase_ValueError E.na.xP E.na.gP E.na.kP (raises_own E.na.bP E.na.tP) rfl)) (pa_cons (pe_glob (v := .ref a.B) (by rfl) E.gB rfl) pa_nil))) (fun σ H Q q => iP_go (fun u r => r) E.na.kit q)) (pa_cons (PE.of (t' := tNew (.bl true)) (pe_callB (call_isE1 (K := K) (D := a.NP) rfl E.np.exc) (by rfl) B.isi (by decide +kernel) (pa_cons (pe_exv (pmk_own PySem.F.excBase_ValueError E.np.xP E.np.gP E.np.kP (raises_own E.np.bP E.np.tP) rfl)) (pa_cons (pe_glob (v := .ref a.B) (by rfl) E.gB rfl) pa_nil))) (fun σ H Q q => iP_go (fun u r => r) E.np.kit q)) pa_nil)))) (pss_cons (ps_set (i := 1) scLEr.nd rfl (.inl rfl) (pe_op op_cat (pv 1) (pe_lst (pa_cons (PE.of (t' := tNew (.bl true)) (pe_callB (call_isE1 (K := K) (D := a.NV) rfl E.nv.exc) (by rfl) B.isi (by decide +kernel) (pa_cons (pe_exv (pmk_own PySem.F.excBase_ValueError E.nv.xP E.nv.gP E.nv.kP (raises_own E.nv.bP E.nv.tP) rfl)) (pa_cons (pe_glob (v := .ref a.B) (by rfl) E.gB rfl) pa_nil))) (fun σ H Q q => iP_go (fun u r => r) E.nv.kit q)) (pa_cons (PE.of (t' := tNew (.bl true)) (pe_callB (call_isE1 (K := K) (D := a.NW) rfl E.nw.exc) (by rfl) B.isi (by decide +kernel) (pa_cons (pe_exv (pmk_own PySem.F.excBase_ValueError E.nw.xP E.nw.gP E.nw.kP (raises_own E.nw.bP E.nw.tP) rfl)) (pa_cons (pe_glob (v := .ref a.B) (by rfl) E.gB rfl) pa_nil))) (fun σ H Q q => iP_go (fun u r => r) E.nw.kit q)) pa_nil))))) (pss_cons (ps_set (i := 1) scLEr.nd rfl (.inl rfl) (pe_op op_cat (pv 1) (pe_lst (pa_cons (PE.of (t' := tNew (.bl true)) (pe_callB (call_isE1 (K := K) (D := a.NK) rfl E.nk.exc) (by rfl) B.isi (by decide +kernel) (pa_cons (pe_exv (pmk_own PySem.F.excBase_ValueError E.nk.xP E.nk.gP E.nk.kP (raises_own E.nk.bP E.nk.tP) rfl)) (pa_cons (pe_glob (v := .ref a.B) (by rfl) E.gB rfl) pa_nil))) (fun σ H Q q => iP_go (fun u r => r) E.nk.kit q)) (pa_cons (PE.of (t' := tNew (.bl true)) (pe_callB (call_isE1 (K := K) (D := a.X) rfl E.ex) (by rfl) B.isi (by decide +kernel) (pa_cons (pe_exv (pmk_ex E.x txX11 EX.base_Value hr (pa_cons pe_int pa_nil) (by rfl))) (pa_cons (pe_bltn (v := .ty "ValueError") (by rfl) E.gV (by decide +kernel) rfl) pa_nil))) (fun σ H Q q => iX_go rfl (fun u r => r) E.xV q)) pa_nil))))) (pss_cons (ps_set (i := 1) scLEr.nd rfl (.inl rfl) (pe_op op_cat (pv 1) (pe_lst (pa_cons (PE.of (t' := tNew (.bl true)) (pe_callB (call_isE1 (K := K) (D := a.R) rfl E.er) (by rfl) B.isi (by decide +kernel) (pa_cons (pe_exv (pmk_ex E.r txR11 EX.base_Lookup hr (pa_cons pe_str pa_nil) (by rfl))) (pa_cons (pe_bltn (v := .ty "LookupError") (by rfl) E.gL (by decide +kernel) rfl) pa_nil))) (fun σ H Q q => iX_go rfl (fun u r => r) E.rL q)) (pa_cons (PE.of (t' := tNew (.bl true)) (pe_not (pe_callB (call_isE2 (K := K) (D := a.R) rfl E.er) (by rfl) B.isi (by decide +kernel) (pa_cons (pe_exv (pmk_ex E.r txR11 EX.base_Lookup hr (pa_cons pe_str pa_nil) (by rfl))) (pa_cons (pe_tup (pa_cons (pe_glob (v := .ref a.B) (by rfl) E.gB rfl) (pa_cons (pe_glob (v := .ref a.S) (by rfl) E.s.gC rfl) pa_nil))) pa_nil)))) (fun σ H Q q => iA_go (fs := ["who"]) (vs := [.str "a"]) (Q := fun x H1 => ∃ c, x = .bl c ∧ Q (.bl (!c)) H1) rfl E.rS fun H' s => ⟨_, rfl, q H' s⟩)) pa_nil))))) (pss_cons (ps_set (i := 1) scLEr.nd rfl (.inl rfl) (pe_op op_cat (pv 1) (pe_lst (pa_cons (PE.of (t' := tNew (.bl true)) (pe_callB (call_isE1 (K := K) (D := a.F) rfl E.ef) (by rfl) B.isi (by decide +kernel) (pa_cons (pe_exv (pmk_ex E.f txF11 EX.base_Runtime hr (pa_cons pe_int pa_nil) (by rfl))) (pa_cons (pe_bltn (v := .ty "RuntimeError") (by rfl) E.gR (by decide +kernel) rfl) pa_nil))) (fun σ H Q q => iX_go rfl (fun u r => r) E.fR q)) (pa_cons (PE.of (t' := tNew (.bl true)) (pe_callB (call_isE1 (K := K) (D := a.T) rfl E.et) (by rfl) B.isi (by decide +kernel) (pa_cons (pe_exv (pmk_ex E.t txT11 EX.base_Runtime hr (pa_cons pe_str (pa_cons pe_int pa_nil)) (by rfl))) (pa_cons (pe_bltn (v := .ty "RuntimeError") (by rfl) E.gR (by decide +kernel) rfl) pa_nil))) (fun σ H Q q => iX_go rfl (fun u r => r) E.tR q)) pa_nil))))) (pss_cons (ps_set (i := 1) scLEr.nd rfl (.inl rfl) (pe_op op_cat (pv 1) (pe_lst (pa_cons (PE.of (t' := tNew (.bl true)) (pe_callB (call_isE1 (K := K) (D := a.H) rfl E.eh) (by rfl) B.isi (by decide +kernel) (pa_cons (pe_exv (pmk_ex E.h txH11 EX.base_Arith hr (pa_cons pe_str pa_nil) (by rfl))) (pa_cons (pe_bltn (v := .ty "ArithmeticError") (by rfl) E.gA (by decide +kernel) rfl) pa_nil))) (fun σ H Q q => iX_go rfl (fun u r => r) E.hA q)) (pa_cons (PE.of (t' := tNew (.bl true)) (pe_callB (call_isE1 (K := K) (D := a.D) rfl E.ed) (by rfl) B.isi (by decide +kernel) (pa_cons (pe_exv (pmk_ex E.d txD11 EX.base_Arith hr (pa_cons pe_str pa_nil) (by rfl))) (pa_cons (pe_bltn (v := .ty "ArithmeticError") (by rfl) E.gA (by decide +kernel) rfl) pa_nil))) (fun σ H Q q => iX_go rfl (fun u r => r) E.dA q)) pa_nil))))) (pss_cons (ps_set (i := 1) scLEr.nd rfl (.inl rfl) (pe_op op_cat (pv 1) (pe_lst (pa_cons (PE.of (t' := tNew (.bl true)) (pe_not (pe_callB (call_isE2 (K := K) (D := a.F) rfl E.ef) (by rfl) B.isi (by decide +kernel) (pa_cons (pe_exv (pmk_ex E.f txF11 EX.base_Runtime hr (pa_cons pe_int pa_nil) (by rfl))) (pa_cons (pe_tup (pa_cons (pe_glob (v := .ref a.B) (by rfl) E.gB rfl) (pa_cons (pe_glob (v := .ref a.T) (by rfl) E.t.gC rfl) pa_nil))) pa_nil)))) (fun σ H Q q => iA_go (fs := ["many"]) (vs := [.int 5]) (Q := fun x H1 => ∃ c, x = .bl c ∧ Q (.bl (!c)) H1) rfl E.fT fun H' s => ⟨_, rfl, q H' s⟩)) (pa_cons (PE.of (t' := tNew (.bl true)) (pe_not (pe_callB (call_isE2 (K := K) (D := a.H) rfl E.eh) (by rfl) B.isi (by decide +kernel) (pa_cons (pe_exv (pmk_ex E.h txH11 EX.base_Arith hr (pa_cons pe_str pa_nil) (by rfl))) (pa_cons (pe_tup (pa_cons (pe_glob (v := .ref a.B) (by rfl) E.gB rfl) (pa_cons (pe_glob (v := .ref a.D) (by rfl) E.d.gC rfl) pa_nil))) pa_nil)))) (fun σ H Q q => iA_go (fs := ["who"]) (vs := [.str "a"]) (Q := fun x H1 => ∃ c, x = .bl c ∧ Q (.bl (!c)) H1) rfl E.hD fun H' s => ⟨_, rfl, q H' s⟩)) pa_nil))))) (pss_one (ps_ret (pe_and (pe_cmpR (op_eqD hr.units) (pv 0) (pe_lst (pa_cons pe_str (pa_cons pe_str (pa_cons pe_int (pa_cons (pe_lst (pa_cons pe_int pa_nil)) (pa_cons pe_str (pa_cons pe_int (pa_cons pe_str (pa_cons pe_int (pa_cons pe_str (pa_cons pe_str pa_nil))))))))))) (nomark _)) (pe_and (pe_callB (cr_all rfl) (by rfl) B.all (by decide +kernel) (pa_cons (pv 1) pa_nil)) (pe_one (pe_cmpR op_eq (pe_callB (call_reprU rfl hr.units hgd) (by rfl) B2.repr (by decide +kernel) (pa_cons (pe_glob (v := .int 60) (by rfl) gM ⟨_, rfl⟩) pa_nil)) pe_str (nomark _)))))))))))))))), ?_⟩
    refine fun H1 s1 => fun H2 s2 => fun H3 s3 => fun x H4 s4 hx => fun H5 s5 => ⟨by show 5 ≤ sizeLine; decide, fun l1 n1 => ?_⟩
    have sA := (s1.trans (s2.trans (s3.trans (s4.trans s5)))).trans (same_upd (o := .lst [V.str "name", .str "a", .int 3, .ref x, .str "a"]) n1)
    have hx1 := (s5.trans (same_upd (o := .lst [V.str "name", .str "a", .int 3, .ref x, .str "a"]) n1)) _ _ hx
    have e1 : upd H5 l1 (.lst [V.str "name", .str "a", .int 3, .ref x, .str "a"]) l1 = some (.lst [V.str "name", .str "a", .int 3, .ref x, .str "a"]) := upd_same
    generalize upd H5 l1 (.lst [V.str "name", .str "a", .int 3, .ref x, .str "a"]) = HA at sA hx1 e1
    refine ⟨.ref l1, rfl, fun G1 t1 => fun G2 t2 => fun G3 t3 => fun G4 t4 => fun G5 t5 => ⟨by show 5 ≤ sizeLine; decide, fun l2 n2 => ?_⟩⟩
    have sB := (t1.trans (t2.trans (t3.trans (t4.trans t5)))).trans (same_upd (o := .lst [V.int 60, .str "a", .int 7, .str "b", .str "c"]) n2)
    have e2 : upd G5 l2 (.lst [V.int 60, .str "a", .int 7, .str "b", .str "c"]) l2 = some (.lst [V.int 60, .str "a", .int 7, .str "b", .str "c"]) := upd_same
    generalize upd G5 l2 (.lst [V.int 60, .str "a", .int 7, .str "b", .str "c"]) = HB at sB e2
    refine ⟨l1, l2, _, _, rfl, rfl, sB _ _ e1, e2, by show 5 + 5 ≤ sizeLine; decide, fun l3 n3 => ?_⟩
    have e3 : upd HB l3 (.lst ([V.str "name", .str "a", .int 3, .ref x, .str "a"] ++ [V.int 60, .str "a", .int 7, .str "b", .str "c"])) l3 = some (.lst [V.str "name", .str "a", .int 3, .ref x, .str "a", .int 60, .str "a", .int 7, .str "b", .str "c"]) := upd_same
    have sC := same_upd (o := .lst ([V.str "name", .str "a", .int 3, .ref x, .str "a"] ++ [V.int 60, .str "a", .int 7, .str "b", .str "c"])) n3
    have hx3 := sC _ _ (sB _ _ hx1)
    have s03 := sA.trans (sB.trans sC)
    generalize upd HB l3 (.lst ([V.str "name", .str "a", .int 3, .ref x, .str "a"] ++ [V.int 60, .str "a", .int 7, .str "b", .str "c"])) = HC at e3 sC hx3 s03
    refine fun K1 u1 => fun K2 u2 => ⟨by show 2 ≤ sizeLine; decide, fun k0 m0 => ?_⟩
    have sD := (u1.trans u2).trans (same_upd (o := .lst [V.bl true, .bl true]) m0)
    have d0 : upd K2 k0 (.lst [V.bl true, .bl true]) k0 = some (.lst [V.bl true, .bl true]) := upd_same
    refine ⟨.ref k0, rfl, fun K3 u3 => fun K4 u4 => ⟨by show 2 ≤ sizeLine; decide, fun lq3 nl3 => ⟨k0, lq3, _, _, rfl, rfl, same_upd nl3 _ _ ((u3.trans u4) _ _ d0), upd_same, by show 2 + 2 ≤ sizeLine; decide, fun k1 nr3 => ?_⟩⟩⟩
    have d1 : upd (upd K4 lq3 (.lst [V.bl true, .bl true])) k1 (.lst ([V.bl true, V.bl true] ++ [V.bl true, .bl true])) k1 = some (.lst [V.bl true, V.bl true, V.bl true, V.bl true]) := upd_same
    have sE := (same_upd (o := .lst [V.bl true, .bl true]) nl3).trans (same_upd (o := .lst ([V.bl true, V.bl true] ++ [V.bl true, .bl true])) nr3)
    refine ⟨.ref k1, rfl, fun K5 u5 => fun K6 u6 => ⟨by show 2 ≤ sizeLine; decide, fun lq5 nl5 => ⟨k1, lq5, _, _, rfl, rfl, same_upd nl5 _ _ ((u5.trans u6) _ _ d1), upd_same, by show 4 + 2 ≤ sizeLine; decide, fun k2 nr5 => ?_⟩⟩⟩
    have d2 : upd (upd K6 lq5 (.lst [V.bl true, .bl true])) k2 (.lst ([V.bl true, V.bl true, V.bl true, V.bl true] ++ [V.bl true, .bl true])) k2 = some (.lst [V.bl true, V.bl true, V.bl true, V.bl true, V.bl true, V.bl true]) := upd_same
    have sF := (same_upd (o := .lst [V.bl true, .bl true]) nl5).trans (same_upd (o := .lst ([V.bl true, V.bl true, V.bl true, V.bl true] ++ [V.bl true, .bl true])) nr5)
    refine ⟨.ref k2, rfl, fun K7 u7 => fun K8 u8 => ⟨by show 2 ≤ sizeLine; decide, fun lq7 nl7 => ⟨k2, lq7, _, _, rfl, rfl, same_upd nl7 _ _ ((u7.trans u8) _ _ d2), upd_same, by show 6 + 2 ≤ sizeLine; decide, fun k3 nr7 => ?_⟩⟩⟩
    have d3 : upd (upd K8 lq7 (.lst [V.bl true, .bl true])) k3 (.lst ([V.bl true, V.bl true, V.bl true, V.bl true, V.bl true, V.bl true] ++ [V.bl true, .bl true])) k3 = some (.lst [V.bl true, V.bl true, V.bl true, V.bl true, V.bl true, V.bl true, V.bl true, V.bl true]) := upd_same
    have sG := (same_upd (o := .lst [V.bl true, .bl true]) nl7).trans (same_upd (o := .lst ([V.bl true, V.bl true, V.bl true, V.bl true, V.bl true, V.bl true] ++ [V.bl true, .bl true])) nr7)
    refine ⟨.ref k3, rfl, fun K9 u9 => fun Ka ua => ⟨by show 2 ≤ sizeLine; decide, fun lq9 nl9 => ⟨k3, lq9, _, _, rfl, rfl, same_upd nl9 _ _ ((u9.trans ua) _ _ d3), upd_same, by show 8 + 2 ≤ sizeLine; decide, fun k4 nr9 => ?_⟩⟩⟩
    have d4 : upd (upd Ka lq9 (.lst [V.bl true, .bl true])) k4 (.lst ([V.bl true, V.bl true, V.bl true, V.bl true, V.bl true, V.bl true, V.bl true, V.bl true] ++ [V.bl true, .bl true])) k4 = some (.lst [V.bl true, V.bl true, V.bl true, V.bl true, V.bl true, V.bl true, V.bl true, V.bl true, V.bl true, V.bl true]) := upd_same
    have sH := (same_upd (o := .lst [V.bl true, .bl true]) nl9).trans (same_upd (o := .lst ([V.bl true, V.bl true, V.bl true, V.bl true, V.bl true, V.bl true, V.bl true, V.bl true] ++ [V.bl true, .bl true])) nr9)
    refine ⟨.ref k4, rfl, fun Kb ub => fun Kc uc => ⟨by show 2 ≤ sizeLine; decide, fun lqb nlb => ⟨k4, lqb, _, _, rfl, rfl, same_upd nlb _ _ ((ub.trans uc) _ _ d4), upd_same, by show 10 + 2 ≤ sizeLine; decide, fun k5 nrb => ?_⟩⟩⟩
    have d5 : upd (upd Kc lqb (.lst [V.bl true, .bl true])) k5 (.lst ([V.bl true, V.bl true, V.bl true, V.bl true, V.bl true, V.bl true, V.bl true, V.bl true, V.bl true, V.bl true] ++ [V.bl true, .bl true])) k5 = some (.lst [V.bl true, V.bl true, V.bl true, V.bl true, V.bl true, V.bl true, V.bl true, V.bl true, V.bl true, V.bl true, V.bl true, V.bl true]) := upd_same
    have sI := (same_upd (o := .lst [V.bl true, .bl true]) nlb).trans (same_upd (o := .lst ([V.bl true, V.bl true, V.bl true, V.bl true, V.bl true, V.bl true, V.bl true, V.bl true, V.bl true, V.bl true] ++ [V.bl true, .bl true])) nrb)
    refine ⟨.ref k5, rfl, fun Kd ud => fun Ke ue => ⟨by show 2 ≤ sizeLine; decide, fun lqd nld => ⟨k5, lqd, _, _, rfl, rfl, same_upd nld _ _ ((ud.trans ue) _ _ d5), upd_same, by show 12 + 2 ≤ sizeLine; decide, fun k6 nrd => ?_⟩⟩⟩
    have d6 : upd (upd Ke lqd (.lst [V.bl true, .bl true])) k6 (.lst ([V.bl true, V.bl true, V.bl true, V.bl true, V.bl true, V.bl true, V.bl true, V.bl true, V.bl true, V.bl true, V.bl true, V.bl true] ++ [V.bl true, .bl true])) k6 = some (.lst [V.bl true, V.bl true, V.bl true, V.bl true, V.bl true, V.bl true, V.bl true, V.bl true, V.bl true, V.bl true, V.bl true, V.bl true, V.bl true, V.bl true]) := upd_same
    have sJ := (same_upd (o := .lst [V.bl true, .bl true]) nld).trans (same_upd (o := .lst ([V.bl true, V.bl true, V.bl true, V.bl true, V.bl true, V.bl true, V.bl true, V.bl true, V.bl true, V.bl true, V.bl true, V.bl true] ++ [V.bl true, .bl true])) nrd)
    have sz := sD.trans ((u3.trans u4).trans (sE.trans ((u5.trans u6).trans (sF.trans ((u7.trans u8).trans (sG.trans ((u9.trans ua).trans (sH.trans ((ub.trans uc).trans (sI.trans ((ud.trans ue).trans sJ)))))))))))
    generalize upd (upd Ke lqd (.lst [V.bl true, .bl true])) k6 (.lst ([V.bl true, V.bl true, V.bl true, V.bl true, V.bl true, V.bl true, V.bl true, V.bl true, V.bl true, V.bl true, V.bl true, V.bl true] ++ [V.bl true, .bl true])) = HJ at d6 sz
    have e9 := sz _ _ e3
    have hx9 := sz _ _ hx3
    have s09 := s03.trans sz
    refine ⟨.ref l3, rfl, by show 1 ≤ sizeLine; decide, fun y ny => ⟨by show 10 ≤ sizeLine; decide, fun r nr => ?_⟩⟩
    have sy := same_upd (o := .lst [V.int 5]) ny
    have hy : upd HJ y (.lst [V.int 5]) y = some (.lst [V.int 5]) := upd_same
    generalize upd HJ y (.lst [V.int 5]) = HK at sy hy nr
    have sr := same_upd (o := .lst [V.str "name", .str "a", .int 3, .ref y, .str "a", .int 60, .str "a", .int 7, .str "b", .str "c"]) nr
    have hr' : upd HK r (.lst [V.str "name", .str "a", .int 3, .ref y, .str "a", .int 60, .str "a", .int 7, .str "b", .str "c"]) r = some (.lst [V.str "name", .str "a", .int 3, .ref y, .str "a", .int 60, .str "a", .int 7, .str "b", .str "c"]) := upd_same
    generalize upd HK r (.lst [V.str "name", .str "a", .int 3, .ref y, .str "a", .int 60, .str "a", .int 7, .str "b", .str "c"]) = HL at sr hr'
    have s9 := sy.trans sr
    have dd : ∀ {b z : Addr}, HL b = some (.lst [V.str "name", .str "a", .int 3, .ref z, .str "a", .int 60, .str "a", .int 7, .str "b", .str "c"]) → HL z = some (.lst [V.int 5]) → Dp K HL (.ref b) (.list [.str "name", .str "a", .int 3, .list [.int 5], .str "a", .int 60, .str "a", .int 7, .str "b", .str "c"]) := fun hb hz =>
      .lst (.inl (.inl hb)) (.cons (.str _) (.cons (.str _) (.cons (.int _) (.cons (.lst (.inl (.inl hz)) (.cons (.int _) .nil)) (.cons (.str _) (.cons (.int _) (.cons (.str _) (.cons (.int _) (.cons (.str _) (.cons (.str _) .nil))))))))))
    refine ⟨_, _, dd (s9 _ _ e9) (s9 _ _ hx9), dd hr' (sr _ _ hy), by decide +kernel, by decide +kernel, _, rfl, ?_⟩
    rw [show PyData.eqv (.list [.str "name", .str "a", .int 3, .list [.int 5], .str "a", .int 60, .str "a", .int 7, .str "b", .str "c"]) (.list [.str "name", .str "a", .int 3, .list [.int 5], .str "a", .int 60, .str "a", .int 7, .str "b", .str "c"]) = true from by decide +kernel]
    refine iteT ⟨.ref k6, rfl, k6, List.replicate 14 true, rfl, .inl (.inl (s9 _ _ d6)), _, rfl, iteT ?_⟩
    refine ⟨.int 60, .int 60, rfl, .int 60, by decide +kernel, .inl (by decide +kernel), by decide +kernel, .inl ⟨60, rfl⟩, rfl, ?_⟩
    exact q _ (s09.trans s9)
end
end Rc

namespace Rc
open PySem PySem.Spec PyProof.Rows L2 RZ
theorem pi_listK {X : Cx} {K : PySem.W.Frag} {tg l : Expr} {tl : TE} (e : X.K = K) (hl : PE X l tl) : PI X tg l (iList K tl) := by
  subst e
  exact pi_list hl
theorem op_notIn_seqS {X : Cx} {K : PySem.W.Frag} (e : X.K = K) : OpR X (compareOp .NotIn) (rIn K true) := by
  subst e
  exact op_notIn_seq
theorem call_reprS {X : Cx} {K : PySem.W.Frag} (e : X.K = K) {k : Nat} (hr : Room k X.A) (hg : X.A.guards = some []) : CallR X (.builtin "repr") (rRepr K) := by
  subst e
  exact call_repr hr hg
/-! ### a new book -/
theorem newBk_ok {zs : List Str} (nz : NamesOk zs) : (newBk zs).Ok := ⟨nz.n0, nz.n1, nz.nd, nz.nm, List.length_replicate .., List.length_replicate .., List.length_replicate .., by
  show ((List.replicate zs.length ([] : List (Str × Int))).map List.length).sum ≤ 60
  rw [List.map_replicate]
  simp⟩
theorem fall_new (zs : List Str) (z : Str) : fallTo (newBk zs) z = 0 := by
  show (((List.replicate zs.length ([] : List (Str × Int))).zip (List.replicate zs.length (0 : Int))).map fun p => sumTo z (goneN p.1 p.2)).sum = 0
  induction zs with
  | nil => rfl
  | cons y r ih =>
    rw [List.length_cons, List.replicate_succ, List.replicate_succ, List.zip_cons_cons, List.map_cons, List.sum_cons, ih]
    rfl
theorem rep_get {α : Type} {n j : Nat} {x : α} (h : j < n) : (List.replicate n x)[j]? = some x := by
  rw [List.getElem?_eq_getElem (by rw [List.length_replicate]; exact h), List.getElem_replicate]
theorem cash_new {zs : List Str} {j : Nat} (z : Str) (h : j < zs.length) : cashM (newBk zs) j z = 0 := by
  unfold cashM
  rw [fall_new, getD_of (show (newBk zs).gifts[j]? = some 0 from rep_get h), getD_of (show (newBk zs).drops[j]? = some 0 from rep_get h)]
  rfl
theorem len_new (zs : List Str) : lenM (newBk zs) = 0 := by
  have : ∀ (n k : Nat), (((List.replicate n ([] : List (Str × Int))).zip (List.replicate n (0 : Int))).take k).flatMap (fun p => leftN p.1 p.2) = [] := by
    intro n
    induction n with
    | zero => intro k; simp
    | succ n ih =>
      intro k
      cases k with
      | zero => rfl
      | succ k =>
        rw [List.replicate_succ, List.replicate_succ, List.zip_cons_cons, List.take_succ_cons, List.flatMap_cons, ih]
        rfl
  show (leftM (newBk zs) zs.length).length = 0
  unfold leftM
  rw [show (newBk zs).stacks = List.replicate zs.length [] from rfl, show (newBk zs).drops = List.replicate zs.length 0 from rfl, this]
  rfl
theorem has_no {zs : List Str} (nm : ∀ z ∈ zs, nameT z = true) : ∀ d, nameD d = false → hasD (newBk zs) d = false
  | .str z, hn => decide_eq_false fun hm => by
    rw [show nameD (.str z) = nameT z from rfl, nm z hm] at hn
    cases hn
  | .none, _ => rfl
  | .bool _, _ => rfl
  | .int _, _ => rfl
  | .list _, _ => rfl
  | .tuple _, _ => rfl
  | .dict _, _ => rfl
section
variable {P : Program} {w : World} {K : PySem.W.Frag} {mg : Str → Option Value} {base : Heap}
/-! ### _law_right -/
abbrev sLRt : Stmt := topS 43
abbrev nLRt : List Str := ["_law_pot_here", "_law_names_here", "_law_handed", "_law_book", "_law_who", "_law_told", "_law_fresh", "_law_name_here", "_law_way", "_law_one"]
theorem scLRt : FnScope nLRt ["_law_pot_here", "_law_names_here"] (defScope sLRt) := ⟨rfl, rfl, rfl, by decide +kernel, rfl, by decide +kernel, by decide +kernel⟩
def spLRt11 : Sp := fun vs H Q _ => ∃ (p nl : Addr) (zs : List Str), vs = [.ref p, .ref nl] ∧ Pot H p ∧ nl ≠ p ∧ H nl = some (.lst (zs.map V.str)) ∧ NamesOk zs ∧ ∀ H', Pot H' p → But p H H' → Q (.bl true) H'
set_option maxHeartbeats 4000000 in
theorem ok_lrt {f fI f1 f2 f3 f4 f5 f6 f7 f8 f9 fa fb fc fe C : Addr} {fd fdI fd1 fd2 fd3 fd4 fd5 fd6 fd7 fd8 fd9 fda fdb fdc fde : FuncData} (F : Fun K "_law_right" "_law_right" sLRt f fd) (T : ClsF K C) (B : Blt mg) (B2 : Blt2 mg) (B3 : Blt3 mg) (gAny : mg "any" = none)
    (MK : Mk K C fI) (gC : mg "Book" = some (.ref C)) (GI : FnOk P w K mg base CX0 3 fI fdI ["self", "persons"] (spInit K C)) (bI : Binds K fdI ["self", "persons"] [])
    (PS : HasM P w K mg base C 1 "persons" ["self"] (spPersons K C) f1 fd1) (LE : HasM P w K mg base C 7 "__len__" ["self"] (spLenB K C) f2 fd2) (CS : HasM P w K mg base C 5 "cash" ["self", "who"] (spCalc K C cashM) f3 fd3) (FL : HasM P w K mg base C 4 "fallen" ["self", "who"] (spNum K C Bk.drops) f4 fd4)
    (GV : HasM P w K mg base C 4 "given" ["self", "who"] (spNum K C Bk.gifts) f5 fd5) (WO : HasM P w K mg base C 5 "whole_of" ["self", "who"] (spCalc K C fun M j _ => wholeN (M.stacks.getD j [])) f6 fd6) (FT : HasM P w K mg base C 4 "fallen_to" ["self", "who"] (spCalc K C fun M _ z => fallTo M z) f7 fd7)
    (PI : HasM P w K mg base C 5 "pile" ["self", "who"] (spRow K C leftN) f8 fd8) (NT : HasM P w K mg base C 4 "notes" ["self", "who"] (spRow K C fun l _ => l) f9 fd9) (HS : HasM P w K mg base C 2 "has" ["self", "who"] (spHas K C) fa fda)
    (LN : Has P w K mg base 3 "_law_names" ["_law_pot_here", "_law_many"] spLNms fb fdb) (OD : Has P w K mg base 2 "_law_odd" ["_law_pot_here"] (spLOd K) fc fdc) (NO : HasG P w K mg base 7 "_law_is_none" ["_law_book", "_law_way", "_law_who"] (spNo11 K C) fe fde) :
    FnG P w K mg base CX0 9 f fd ["_law_pot_here", "_law_names_here"] spLRt11 := by
  refine okG0 F scLRt (fun vs H Q E h => ?_) (fun cdv Ar outer s H vs Q E hr hgd h => ?_)
  · obtain ⟨_, _, _, rfl, _⟩ := h
    rfl
  · obtain ⟨p, nl, zs, rfl, hp, nlp, hnl, nz, q⟩ := h
    have hr1 := hr.mono (show 1 ≤ 8 by decide)
    have hr2 := hr.mono (show 2 ≤ 8 by decide)
    have hr3 := hr.mono (show 3 ≤ 8 by decide)
    have hr4 := hr.mono (show 4 ≤ 8 by decide)
    have hr5 := hr.mono (show 5 ≤ 8 by decide)
    have hr7 := hr.mono (show 7 ≤ 8 by decide)
    have hr8 := hr
    refine ⟨_, (pss_cons (ps_set (i := 2) scLRt.nd rfl (.inl rfl) (pe_callTy (call_listS rfl) (by rfl) B3.list (by decide +kernel) (pa_cons (pv 1) pa_nil))) (pss_cons (ps_set (i := 3) scLRt.nd rfl (.inr rfl) (pe_make MK GI hr4 (by rfl) gC bI .nil pass0 (pa_cons (pv 2) pa_nil))) (pss_cons (ps_expr (pe_bm0 PySem.F.plainAttrs_list PySem.F.slot_list_reverse PySem.F.type_list_reverse mt_reverse (pv 2))) (pss_cons (ps_expr (pe_bm PySem.F.plainAttrs_list PySem.F.slot_list_append PySem.F.type_list_append mt_append (pv 2) (pa_cons pe_str pa_nil))) (pss_cons (ps_if (PW.pt (pw_or (pt_cmpR op_ne (pe_callB (call_reprS (K := K) rfl hr hgd) (by rfl) B2.repr (by decide +kernel) (pa_cons (pe_meth0 (pv 3) T.cl PS.m PS.ok hr1 PS.b .nil pass0) pa_nil)) (pe_callB (call_reprS (K := K) rfl hr hgd) (by rfl) B2.repr (by decide +kernel) (pa_cons (pv 1) pa_nil)) (nomark _)) (pw_or1 (pt_cmpR op_ne (pe_callB (call_lenB LE.ok LE.b LE.m hr8) (by rfl) B.len PySem.boot_len (pa_cons (pv 3) pa_nil)) pe_int (nomark _))))) (pss_one (ps_ret pe_bl)) pss_nil) (C8.pss_cut (ps_for PassesOwn.never rfl (pi_list (pv 1)) (pg_name (i := 4) scLRt.nd rfl (.inl rfl)) (pss_cons (ps_set (i := 5) scLRt.nd rfl (.inl rfl) (pe_lst (pa_cons (pe_meth (pv 3) T.cl CS.m CS.ok hr5 CS.b .nil pass0 (pa_cons (pv 4) pa_nil)) (pa_cons (pe_meth (pv 3) T.cl FL.m FL.ok hr4 FL.b .nil pass0 (pa_cons (pv 4) pa_nil)) (pa_cons (pe_meth (pv 3) T.cl GV.m GV.ok hr4 GV.b .nil pass0 (pa_cons (pv 4) pa_nil)) (pa_cons (pe_meth (pv 3) T.cl WO.m WO.ok hr5 WO.b .nil pass0 (pa_cons (pv 4) pa_nil)) (pa_cons (pe_meth (pv 3) T.cl FT.m FT.ok hr4 FT.b .nil pass0 (pa_cons (pv 4) pa_nil)) pa_nil))))))) (pss_one (ps_if (pt_cmpR op_ne (pe_callB (call_reprS (K := K) rfl hr hgd) (by rfl) B2.repr (by decide +kernel) (pa_cons (pe_op op_cat (pv 5) (pe_lst (pa_cons (pe_meth (pv 3) T.cl PI.m PI.ok hr5 PI.b .nil pass0 (pa_cons (pv 4) pa_nil)) (pa_cons (pe_meth (pv 3) T.cl NT.m NT.ok hr4 NT.b .nil pass0 (pa_cons (pv 4) pa_nil)) pa_nil)))) pa_nil)) pe_str (nomark _)) (pss_one (ps_ret pe_bl)) pss_nil)))) (C8.pss_cut (ps_setLc (i := 6) (own := [("_law_name_here", 7)]) (g := gName 7) rfl scLRt.nd rfl rfl (sw_true rfl rfl rfl (by decide +kernel)) (pi_listK (K := K) rfl (pe_op op_cat (pe_lst (pa_cons pe_str (pa_cons pe_str (pa_cons pe_str pa_nil)))) (pe_call LN.ok hr3 (by rfl) LN.g LN.kp LN.b .nil pass0 (pa_cons (pv 0) (pa_cons pe_int pa_nil))))) (blkOk_by (N := nLRt) (sc := defScope sLRt) (own := [("_law_name_here", 7)]) (by decide +kernel)) (fun _ _ _ _ _ => (pg_name (i := 7) scLRt.nd rfl (.inl rfl) (hf := .inr rfl))) (fun _ _ _ _ _ => pts_one (pt_cmpR (op_notIn_seqS (K := K) rfl) (pv 7) (pv 1) (by rfl))) (fun _ _ _ _ _ => (pv 7))) (C8.pss_cut (ps_for PassesOwn.never rfl (pi_range1 (by rfl) B2.range (pa_cons pe_int pa_nil)) (pg_name (i := 8) scLRt.nd rfl (.inl rfl)) (pss_cons (ps_set (i := 4) scLRt.nd rfl (.inl rfl) (pe_call OD.ok hr2 (by rfl) OD.g OD.kp OD.b .nil pass0 (pa_cons (pv 0) pa_nil))) (C8.pss_cut (ps_if (PW.pt (pw_or (pt_not (pt_val (pe_callG NO.ok hr7 hgd (by rfl) NO.g NO.kp NO.b .nil pass0 (pa_cons (pv 3) (pa_cons (pv 8) (pa_cons (pv 4) pa_nil)))))) (pw_or1 (PW.pt (pw_and (pt_cmpR (op_neD hr.units) (pv 6) (pe_lst pa_nil) (nomark _)) (pw_and1 (pt_not (pt_val (pe_callG NO.ok hr7 hgd (by rfl) NO.g NO.kp NO.b .nil pass0 (pa_cons (pv 3) (pa_cons (pv 8) (pa_cons (pe_ix ix_list (pv 6) pe_int (fun _ _ => rfl)) pa_nil)))))))))))) (pss_one (ps_ret pe_bl)) pss_nil) (pss_one (ps_if (pt_cmpR op_ne (pe_callB (call_reprS (K := K) rfl hr hgd) (by rfl) B2.repr (by decide +kernel) (pa_cons (pe_lc (own := [("_law_one", 9)]) (g := gName 9) rfl scLRt.nd (pi_listK (K := K) rfl (pe_lst (pa_cons (pv 4) (pa_cons (pe_ix ix_list (pv 1) pe_int (fun _ _ => rfl)) (pa_cons (pe_ix ix_list (pv 1) (pe_un un_neg pe_int) (fun _ _ => rfl)) pa_nil))))) (blkOk_by (N := nLRt) (sc := defScope sLRt) (own := [("_law_one", 9)]) (by decide +kernel)) (fun _ _ _ _ _ => (pg_name (i := 9) scLRt.nd rfl (.inl rfl) (hf := .inr rfl))) (fun _ _ _ _ _ => pts_nil) (fun _ _ _ _ _ => (pe_meth (pv 3) T.cl HS.m HS.ok hr2 HS.b .nil pass0 (pa_cons (pv 9) pa_nil)))) pa_nil)) pe_str (nomark _)) (pss_one (ps_ret pe_bl)) pss_nil))))) (pss_one (ps_ret (pe_not (pe_callB (cr_any rfl) (by rfl) gAny (by decide +kernel) (pa_cons (pe_lc (own := [("_law_one", 9)]) (g := gName 9) rfl scLRt.nd (pi_listK (K := K) rfl (pv 6)) (blkOk_by (N := nLRt) (sc := defScope sLRt) (own := [("_law_one", 9)]) (by decide +kernel)) (fun _ _ _ _ _ => (pg_name (i := 9) scLRt.nd rfl (.inl rfl) (hf := .inr rfl))) (fun _ _ _ _ _ => pts_nil) (fun _ _ _ _ _ => (pe_meth (pv 3) T.cl HS.m HS.ok hr2 HS.b .nil pass0 (pa_cons (pv 9) pa_nil)))) pa_nil))))))))))))), ?_⟩
    have n0 := nz.n0
    have n1 := nz.n1
    have lzm : (zs.map V.str).length = zs.length := List.length_map ..
    have okB := newBk_ok nz
    refine ⟨.ref nl, rfl, nl, _, rfl, .inl (.inl (.inl hnl)), fun h nh => ?_⟩
    have s1 := same_upd (o := .lst (zs.map V.str)) nh
    have hh : upd H h (.lst (zs.map V.str)) h = some (.lst (zs.map V.str)) := upd_same
    have hp1 := hp.same s1
    have hpn := hp.ne nh
    have nhl : nl ≠ h := ne_of_none hnl nh
    generalize upd H h (.lst (zs.map V.str)) = H1 at s1 hh hp1
    refine ⟨.ref h, rfl, fun b dx nx ndx nxx => ?_⟩
    have s2 : Same H1 (upd (upd H1 dx (.own b)) b (.ins C dx [])) := fun c o e => by
      rw [upd_ne (ne_of_none e nx), upd_ne (ne_of_none e ndx)]
      exact e
    refine ⟨b, dx, h, zs, rfl, upd_same, s2 _ _ hh, nz, fun H2 b2 hb => ⟨rfl, ?_⟩⟩
    have s12 : Same H1 H2 := fun c o e => b2 c o (ne_of_none e nx) (s2 _ _ e)
    have hh2 := s12 _ _ hh
    have hp2 := hp1.same s12
    have hnl2 := s12 _ _ (s1 _ _ hnl)
    refine ⟨.ref h, rfl, .inl ⟨rfl, _, .inl (.inl hh2)⟩, h, _, rfl, rfl, hh2, ?_⟩
    have e3 : upd H2 h (.lst (zs.map V.str).reverse) h = some (.lst (zs.map V.str).reverse) := upd_same
    refine ⟨.ref h, rfl, .inl ⟨rfl, _, .inl (.inl e3)⟩, h, _, _, rfl, rfl, e3, ?_, ?_⟩
    · rw [List.length_reverse, lzm]
      exact small1000 (by omega)
    have s02 : But p H H2 := fun c o n e => s12 _ _ (s1 _ _ e)
    have b0 : But p H (upd (upd H2 h (.lst (zs.map V.str).reverse)) h (.lst ((zs.map V.str).reverse ++ [.str "zz"]))) := fun c o n e => by
      rw [upd_ne (ne_of_none e nh), upd_ne (ne_of_none e nh)]
      exact s02 c o n e
    have kb : Kp H2 (upd (upd H2 h (.lst (zs.map V.str).reverse)) h (.lst ((zs.map V.str).reverse ++ [.str "zz"]))) := fun c o e f => by
      have nc : c ≠ h := fun z => by
        rw [z, hh2] at e
        cases e
        exact f
      rw [upd_ne nc, upd_ne nc]
      exact e
    have hb0 := hb.keep kb
    have hp0 : Pot (upd (upd H2 h (.lst (zs.map V.str).reverse)) h (.lst ((zs.map V.str).reverse ++ [.str "zz"]))) p := by
      obtain ⟨u, v, e, hh⟩ := hp2
      exact ⟨u, v, by rw [upd_ne hpn.symm, upd_ne hpn.symm]; exact e, hh⟩
    generalize upd (upd H2 h (.lst (zs.map V.str).reverse)) h (.lst ((zs.map V.str).reverse ++ [.str "zz"])) = H3 at b0 hb0 hp0
    have hnl3 := b0 _ _ nlp hnl
    have look : ∀ {G : Hp}, But p H3 G → BookAt K C G b (newBk zs) := fun g => hb0.keep (g.kpP hp0)
    -- persons, len
    obtain ⟨dxb, tn, on, wg, ws, wd, ee, _⟩ := hb0.ex
    have inst : ∀ {G : Hp}, But p H3 G → G b = some (.ins C dxb (bf (.ref tn) wg ws wd)) := fun g => g.kpP hp0 _ _ ee trivial
    refine ⟨.ref b, rfl, b, dxb, _, rfl, ee, bf_no (NoF.mk' (by decide +kernel)), b, _, rfl, hb0, fun r1 nr1 => ?_⟩
    have t1 := same_upd (o := .lst ((newBk zs).names.map V.str)) nr1
    have h1 : upd H3 r1 (.lst ((newBk zs).names.map V.str)) r1 = some (.lst (zs.map V.str)) := upd_same
    generalize upd H3 r1 (.lst ((newBk zs).names.map V.str)) = H4 at t1 h1
    have so : ShowOk (.list (zs.map PyData.str)) := ((nice_names nz.nm).list).show (by omega)
    refine ⟨_, .list (zs.map PyData.str), rfl, .lst (.inl (.inl h1)) (DtAll.strs _), so.sh, so.tp, so.dp, so.ft, ?_⟩
    refine ⟨.ref nl, rfl, _, .list (zs.map PyData.str), rfl, .lst (.inl (.inl (t1 _ _ hnl3))) (DtAll.strs _), so.sh, so.tp, so.dp, so.ft, rfl, _, rfl, ?_⟩
    rw [decide_eq_true rfl]
    refine iteF ⟨.ref b, rfl, b, _, rfl, look (same_but t1), okB, fun H5 s5 => ⟨rfl, _, rfl, ?_⟩⟩
    rw [len_new]
    have b35 : But p H3 H5 := same_but (t1.trans s5)
    have hp5 := (hp0.same t1).same s5
    refine iteF ?_
    refine ⟨fun σ H' => ∃ y4 y5, σ = [some (.ref p), some (.ref nl), some (.ref h), some (.ref b), y4, y5, none, none, none, none] ∧ Pot H' p ∧ But p H3 H', ?_, fun σ H6 hR => ?_⟩
    · refine ⟨.ref nl, rfl, nl, rfl, ⟨_, .inl (.inl (b35 _ _ nlp hnl3))⟩, ?_⟩
      refine for_it (walk_list (K := K) (a := nl) (xs := zs.map V.str)) (fun i σ H' => ∃ y4 y5, σ = [some (.ref p), some (.ref nl), some (.ref h), some (.ref b), y4, y5, none, none, none, none] ∧ Pot H' p ∧ But p H3 H') ⟨_, _, rfl, hp5, b35⟩ (fun i σ H' _ hP => ?_) (fun i x σ H6' H6 hi hP hY => ?_) (fun σ H6 hP => hP)
      · obtain ⟨_, _, _, _, bb⟩ := hP
        exact .inl (.inl (bb _ _ nlp hnl3))
      · obtain ⟨rfl, hx⟩ := hY
        obtain ⟨y4, y5, rfl, hp6, b36⟩ := hP
        rw [lzm] at hi
        have ei : zs[i]? = some zs[i] := List.getElem?_eq_getElem hi
        have exx : x = .str zs[i] := by
          rw [List.getElem?_map, ei] at hx
          exact (Option.some.inj hx).symm
        subst exx
        have ei' : (newBk zs).names[i]? = some zs[i] := ei
        have es : (newBk zs).stacks[i]? = some [] := rep_get hi
        have ed : (newBk zs).drops[i]? = some 0 := rep_get hi
        have eg : (newBk zs).gifts[i]? = some 0 := rep_get hi
        refine ⟨.ref b, rfl, b, dxb, _, rfl, inst b36, bf_no (NoF.mk' (by decide +kernel)), .str zs[i], rfl, b, _, zs[i], i, rfl, look b36, okB, ei', fun G1 u1 => ?_⟩
        rw [cash_new _ hi]
        have v1 := b36.trans (same_but u1)
        refine ⟨.ref b, rfl, b, dxb, _, rfl, inst v1, bf_no (NoF.mk' (by decide +kernel)), .str zs[i], rfl, b, _, zs[i], i, 0, rfl, look v1, nz, ei', ed, fun G2 u2 => ?_⟩
        have v2 := v1.trans (same_but u2)
        refine ⟨.ref b, rfl, b, dxb, _, rfl, inst v2, bf_no (NoF.mk' (by decide +kernel)), .str zs[i], rfl, b, _, zs[i], i, 0, rfl, look v2, nz, ei', eg, fun G3 u3 => ?_⟩
        have v3 := v2.trans (same_but u3)
        refine ⟨.ref b, rfl, b, dxb, _, rfl, inst v3, bf_no (NoF.mk' (by decide +kernel)), .str zs[i], rfl, b, _, zs[i], i, rfl, look v3, okB, ei', fun G4 u4 => ?_⟩
        rw [show (fun (M : Bk) (j : Nat) (_ : Str) => wholeN (M.stacks.getD j [])) (newBk zs) i zs[i] = 0 from by show wholeN ((newBk zs).stacks.getD i []) = 0; rw [getD_of es]; rfl]
        have v4 := v3.trans (same_but u4)
        refine ⟨.ref b, rfl, b, dxb, _, rfl, inst v4, bf_no (NoF.mk' (by decide +kernel)), .str zs[i], rfl, b, _, zs[i], i, rfl, look v4, okB, ei', fun G5 u5 => ?_⟩
        rw [show (fun (M : Bk) (_ : Nat) (z : Str) => fallTo M z) (newBk zs) i zs[i] = 0 from fall_new zs zs[i]]
        have v5 := v4.trans (same_but u5)
        refine ⟨by show 5 ≤ sizeLine; decide, fun L nL => ?_⟩
        have u6 := same_upd (o := .lst [V.int 0, .int 0, .int 0, .int 0, .int 0]) nL
        have hL : upd G5 L (.lst [V.int 0, .int 0, .int 0, .int 0, .int 0]) L = some (.lst [V.int 0, .int 0, .int 0, .int 0, .int 0]) := upd_same
        generalize upd G5 L (.lst [V.int 0, .int 0, .int 0, .int 0, .int 0]) = G6 at u6 hL
        have v6 := v5.trans (same_but u6)
        refine ⟨.ref L, rfl, .ref b, rfl, b, dxb, _, rfl, inst v6, bf_no (NoF.mk' (by decide +kernel)), .str zs[i], rfl, b, _, zs[i], i, [], 0, rfl, look v6, nz, ei', es, ed, Nat.zero_le _, fun r2 x2 G7 u7 nr2 h2 d2 => ?_⟩
        have v7 := v6.trans (same_but u7)
        refine ⟨.ref b, rfl, b, dxb, _, rfl, inst v7, bf_no (NoF.mk' (by decide +kernel)), .str zs[i], rfl, b, _, zs[i], i, [], 0, rfl, look v7, nz, ei', es, ed, Nat.zero_le _, fun r3 x3 G8 u8 nr3 h3 d3 => ?_⟩
        have v8 := v7.trans (same_but u8)
        obtain rfl : x2 = [] := by
          have := d2.len
          exact List.eq_nil_of_length_eq_zero this
        obtain rfl : x3 = [] := by
          have := d3.len
          exact List.eq_nil_of_length_eq_zero this
        refine ⟨by show 2 ≤ sizeLine; decide, fun A nA => ?_⟩
        have u9 := same_upd (o := .lst [V.ref r2, .ref r3]) nA
        have hA : upd G8 A (.lst [V.ref r2, .ref r3]) A = some (.lst [V.ref r2, .ref r3]) := upd_same
        generalize upd G8 A (.lst [V.ref r2, .ref r3]) = G9 at u9 hA
        have v9 := v8.trans (same_but u9)
        have hL9 := u9 _ _ (u8 _ _ (u7 _ _ hL))
        refine ⟨L, A, _, _, rfl, rfl, hL9, hA, by show 5 + 2 ≤ sizeLine; decide, fun S nS => ?_⟩
        have ua := same_upd (o := .lst ([V.int 0, .int 0, .int 0, .int 0, .int 0] ++ [V.ref r2, .ref r3])) nS
        have hS : upd G9 S (.lst ([V.int 0, .int 0, .int 0, .int 0, .int 0] ++ [V.ref r2, .ref r3])) S = some (.lst [V.int 0, .int 0, .int 0, .int 0, .int 0, .ref r2, .ref r3]) := upd_same
        generalize upd G9 S (.lst ([V.int 0, .int 0, .int 0, .int 0, .int 0] ++ [V.ref r2, .ref r3])) = Ga at ua hS
        have va := v9.trans (same_but ua)
        have h2a := ua _ _ (u9 _ _ (u8 _ _ h2))
        have h3a := ua _ _ (u9 _ _ h3)
        refine ⟨.ref S, .list [.int 0, .int 0, .int 0, .int 0, .int 0, .list [], .list []], rfl, .lst (.inl (.inl hS)) (.cons (.int _) (.cons (.int _) (.cons (.int _) (.cons (.int _) (.cons (.int _) (.cons (.lst (.inl (.inl h2a)) .nil) (.cons (.lst (.inl (.inl h3a)) .nil) .nil))))))), by decide +kernel, .inl (by decide +kernel), by decide +kernel, .inr (by decide +kernel), ?_⟩
        refine ⟨rfl, _, rfl, ?_⟩
        rw [show (PyData.list [.int 0, .int 0, .int 0, .int 0, .int 0, .list [], .list []]).shown = ("[0, 0, 0, 0, 0, [], []]" : Str) from by decide +kernel]
        rw [decide_eq_true rfl]
        refine iteF ⟨_, _, rfl, ?_, va⟩
        exact (((((((((hp6.same u1).same u2).same u3).same u4).same u5).same u6).same u7).same u8).same u9).same ua
    obtain ⟨y4, y5, rfl, hp6, b36⟩ := hR
    refine ⟨fun σ H' => ∃ L xs, σ = [some (.ref p), some (.ref nl), some (.ref h), some (.ref b), y4, y5, some (.ref L), none, none, none] ∧ Pot H' p ∧ But p H3 H' ∧ L ≠ p ∧ H' L = some (.lst (List.map V.str xs)) ∧ xs.length ≤ 10 ∧ ∀ z ∈ xs, nameT z = true ∧ ¬ z ∈ zs, ?_, fun σ H7 hR => ?_⟩
    · refine ⟨by show 3 ≤ sizeLine; decide, fun A nA => ?_⟩
      have Ap := hp6.ne nA
      have hA : upd H6 A (.lst [V.str "a", .str "b", .str "zz"]) A = some (.lst [V.str "a", .str "b", .str "zz"]) := upd_same
      have sA := same_upd (o := .lst [V.str "a", .str "b", .str "zz"]) nA
      have hpA := hp6.same sA
      generalize upd H6 A (.lst [V.str "a", .str "b", .str "zz"]) = G1 at hA sA hpA
      refine ⟨.ref p, rfl, p, 3, rfl, hpA, by omega, fun r2 zs2 G2 nr2 r2p hr2 lz2 nd2 nm2 hp2 bt2 => ?_⟩
      have b32 : But p H3 G2 := b36.trans ((same_but sA).trans bt2)
      obtain ⟨xs, exs⟩ : ∃ xs : List Str, xs = (["a", "b", "zz"] : List Str) ++ zs2 := ⟨_, rfl⟩
      have nmx : ∀ x ∈ xs, nameT x = true := fun x hx => by
        rw [exs] at hx
        rcases List.mem_append.mp hx with hx | hx
        · simp only [List.mem_cons, List.not_mem_nil, or_false] at hx
          rcases hx with rfl | rfl | rfl <;> decide +kernel
        · exact nm2 x hx
      have lxs : xs.length = 6 := by
        rw [exs, List.length_append, lz2]
        rfl
      refine ⟨A, r2, _, _, rfl, rfl, bt2 _ _ Ap hA, hr2, by rw [List.length_map, lz2]; exact small_line (show 3 + 3 ≤ 1000 by decide), fun C0 nC => ?_⟩
      rw [show ([V.str "a", .str "b", .str "zz"] ++ zs2.map V.str) = xs.map V.str from by rw [exs, List.map_append]; rfl]
      have sC := same_upd (o := .lst (xs.map V.str)) nC
      have hC : upd G2 C0 (.lst (xs.map V.str)) C0 = some (.lst (xs.map V.str)) := upd_same
      have hp3 := hp2.same sC
      generalize upd G2 C0 (.lst (xs.map V.str)) = G3 at sC hC hp3
      have b33 := b32.trans (same_but sC)
      have hnl3' := b33 _ _ nlp hnl3
      have lxm : (xs.map V.str).length = xs.length := List.length_map ..
      refine ⟨C0, rfl, ⟨_, .inl (.inl hC)⟩, fun L nL => ?_⟩
      have Lp := hp3.ne nL
      refine lc_it (walk_list (K := K) (a := C0) (xs := xs.map V.str)) (fun i H' => Same G3 H' ∧ H' L = some (.lst (((xs.take i).filter fun z => !decide (z ∈ zs)).map V.str))) ⟨same_upd nL, upd_same⟩ (fun i H' _ hP => .inl (.inl (hP.1 _ _ hC))) (fun i x G4' G4 hi hP hY => ?_) (fun G4 hP => ?_)
      · obtain ⟨rfl, hx⟩ := hY
        obtain ⟨s4, h4⟩ := hP
        rw [lxm] at hi
        have exx : x = .str xs[i] := by
          rw [List.getElem?_map, List.getElem?_eq_getElem hi] at hx
          exact (Option.some.inj hx).symm
        subst exx
        rw [take_succ hi, List.filter_append]
        generalize xs[i] = z
        refine ⟨rfl, .str z, rfl, .ref nl, rfl, nl, _, rfl, .inl (.inl (.inl (s4 _ _ hnl3'))), rfl, flat_strs _, _, rfl, ?_⟩
        rw [inV_strs]
        by_cases hb : z ∈ zs
        · rw [decide_eq_true hb]
          refine iteF ⟨s4, ?_⟩
          rw [h4]
          simp [hb]
        · rw [decide_eq_false hb]
          refine iteT ⟨.str z, rfl, _, h4, ?_, fun c o ec => ?_, ?_⟩
          · rw [List.length_map]
            refine Nat.lt_of_le_of_lt (List.length_filter_le _ _) ?_
            rw [List.length_take]
            exact small1000 (by omega)
          · rw [upd_ne (ne_of_none ec nL)]
            exact s4 c o ec
          · rw [upd_same]
            simp [hb]
      obtain ⟨s4, h4⟩ := hP
      rw [lxm, List.take_length] at h4
      refine ⟨L, _, rfl, hp3.same s4, b33.trans (same_but s4), Lp, h4, Nat.le_trans (List.length_filter_le _ _) (by omega), fun z hz => ?_⟩
      obtain ⟨z1, z2⟩ := List.mem_filter.mp hz
      exact ⟨nmx z z1, by simpa using z2⟩
    obtain ⟨L, xs, rfl, hp7, b37, Lp, hL7, lxs, fr⟩ := hR
    have hasN : ∀ {d : PyData}, nameD d = false → hasD (newBk zs) d = false := fun {d} hn => has_no nz.nm d hn
    have hasF : ∀ {z : Str}, ¬ z ∈ zs → hasD (newBk zs) (.str z) = false := fun hz => decide_eq_false hz
    have hasT : ∀ {z : Str}, z ∈ zs → hasD (newBk zs) (.str z) = true := fun hz => decide_eq_true hz
    have shN : ∀ {z : Str}, nameT z = true → ShortD (.str z) := fun hz y e => by cases e; have := (nameT_len hz).2; omega
    refine ⟨fun σ H' => ∃ y4 y8, σ = [some (.ref p), some (.ref nl), some (.ref h), some (.ref b), y4, y5, some (.ref L), none, y8, none] ∧ Pot H' p ∧ But p H3 H' ∧ H' L = some (.lst (List.map V.str xs)), ?_, fun σ H8 hR => ?_⟩
    · refine ⟨7, rfl, by decide, by decide, ?_⟩
      refine for_it walk_range (fun i σ H' => ∃ y4 y8, σ = [some (.ref p), some (.ref nl), some (.ref h), some (.ref b), y4, y5, some (.ref L), none, y8, none] ∧ Pot H' p ∧ But p H3 H' ∧ H' L = some (.lst (List.map V.str xs))) ⟨_, _, rfl, hp7, b37, hL7⟩ (fun _ _ _ _ _ => trivial) (fun i x σ H8' H8 hi hP hY => ?_) (fun σ H8 hP => hP)
      obtain ⟨rfl, rfl⟩ := hY
      obtain ⟨y4', y8, rfl, hp8, b38, hL8⟩ := hP
      refine ⟨.ref p, rfl, p, rfl, hp8, fun x d G hpG bG nf od => ?_⟩
      have b3G := b38.trans bG
      have hLG := bG _ _ Lp hL8
      have dG : Dt K G x d := nf G fun c o _ e => e
      have b3G := b38.trans bG
      have hLG := bG _ _ Lp hL8
      have dG : Dt K G x d := nf G fun c o _ e => e
      refine ⟨fun σ H' => σ = [some (.ref p), some (.ref nl), some (.ref h), some (.ref b), some x, y5, some (.ref L), none, some (.int (0 + (i : Nat))), none] ∧ Same G H', ?_, fun σ G3 hR => ?_⟩
      · refine ⟨.ref b, rfl, .int (0 + (i : Nat)), rfl, x, rfl, b, _, x, d, (0 + (i : Nat)), rfl, look b3G, nz, dG, od.sd, hasN od.nn, od.so, fun G1 u1 => ⟨_, rfl, iteF ?_⟩⟩
        have v1 := b3G.trans (same_but u1)
        have hL1 := u1 _ _ hLG
        refine ⟨.ref L, rfl, Nat.zero_le _, fun k nk => ?_⟩
        have u2 := same_upd (o := .lst []) nk
        have hk : upd G1 k (.lst []) k = some (.lst []) := upd_same
        generalize upd G1 k (.lst []) = G2 at u2 hk
        have v2 := v1.trans (same_but u2)
        have hL2 := u2 _ _ hL1
        have axs : ∀ t ∈ xs, Asc t := fun t ht => name_asc (fr t ht).1
        refine ⟨_, _, strs_dp12 hL2, .lst (.inl (.inl hk)) .nil, shaped12 axs, by decide +kernel, _, rfl, ?_⟩
        rw [eq_nils]
        by_cases ex0 : xs = []
        · rw [decide_eq_true ex0]
          exact iteF (iteF ⟨rfl, u1.trans u2⟩)
        · rw [decide_eq_false ex0]
          obtain ⟨y, r, exs⟩ : ∃ y r, xs = y :: r := by
            cases xs with
            | nil => exact absurd rfl ex0
            | cons y r => exact ⟨y, r, rfl⟩
          have fy := fr y (by rw [exs]; exact List.mem_cons_self)
          refine iteT ⟨.ref b, rfl, .int (0 + (i : Nat)), rfl, .ref L, rfl, L, _, 0, .str y, rfl, rfl, .inl (.inl hL2), by rw [exs]; exact atI_nat (j := 0) rfl, b, _, .str y, .str y, (0 + (i : Nat)), rfl, look v2, nz, .str y, shN fy.1, hasF fy.2, ?_, fun G3 u3 => ⟨_, rfl, iteF ⟨rfl, (u1.trans u2).trans u3⟩⟩⟩
          exact (nice_text (n := 8) (name_asc fy.1) (nameT_len fy.1).2).show (by omega)
      obtain ⟨rfl, s3⟩ := hR
      have v3 := b3G.trans (same_but s3)
      have zl : 0 < zs.length := by omega
      have e0 : zs[0]? = some zs[0] := List.getElem?_eq_getElem zl
      have elast : atI (zs.map V.str) (-1) = some (.str zs[zs.length - 1]) := by
        have e0 : zs = zs.dropLast ++ [zs[zs.length - 1]] := by
          have ne0 : zs ≠ [] := fun z => by rw [z] at zl; exact absurd zl (Nat.lt_irrefl _)
          rw [← List.getLast_eq_getElem ne0]
          exact (List.dropLast_concat_getLast ne0).symm
        conv => lhs; rw [e0, List.map_append]
        exact atI_last _ _
      have m0 : zs[0] ∈ zs := List.getElem_mem _
      have ml : zs[zs.length - 1] ∈ zs := List.getElem_mem _
      have ej0 : atI (zs.map V.str) 0 = some (.str zs[0]) := atI_nat (j := 0) (by rw [List.getElem?_map, e0]; rfl)
      generalize zs[0] = z0 at e0 m0 ej0
      generalize zs[zs.length - 1] = zz at elast ml
      have hnlG := v3 _ _ nlp hnl3
      refine ⟨x, rfl, .ref nl, rfl, nl, _, 0, .str z0, rfl, rfl, .inl (.inl hnlG), ej0, .ref nl, rfl, 1, rfl, nl, _, -1, .str zz, rfl, rfl, .inl (.inl hnlG), elast, by show 3 ≤ sizeLine; decide, fun A nA => ?_⟩
      have u4 := same_upd (o := .lst [x, .str z0, .str zz]) nA
      have hsrc : upd G3 A (.lst [x, .str z0, .str zz]) A = some (.lst [x, .str z0, .str zz]) := upd_same
      generalize upd G3 A (.lst [x, .str z0, .str zz]) = G4 at u4 hsrc
      have v4 := v3.trans (same_but u4)
      have d4 : Dt K G4 x d := Dt.same (s3.trans u4) _ dG
      have el : ∀ (i' : Nat) (e : V), [x, V.str z0, .str zz][i']? = some e → ∃ de, Dt K G4 e de ∧ ShortD de ∧ [false, true, true][i']? = some (hasD (newBk zs) de) := fun i' e he => by
        match i', he with
        | 0, he =>
          cases he
          exact ⟨d, d4, od.sd, by rw [hasN od.nn]; rfl⟩
        | 1, he =>
          cases he
          exact ⟨_, .str z0, shN (nz.nm _ m0), by rw [hasT m0]; rfl⟩
        | 2, he =>
          cases he
          exact ⟨_, .str zz, shN (nz.nm _ ml), by rw [hasT ml]; rfl⟩
        | n + 3, he => cases he
      refine ⟨A, rfl, ⟨_, .inl (.inl hsrc)⟩, fun D nD => ?_⟩
      refine lc_it (walk_list (K := K) (a := A) (xs := [x, .str z0, .str zz])) (fun i' H' => Same G4 H' ∧ H' D = some (.lst (([false, true, true].take i').map V.bl))) ⟨same_upd nD, upd_same⟩ (fun i' H' _ hP => .inl (.inl (hP.1 _ _ hsrc))) (fun i' e Ge' Ge hi' hP hY => ?_) (fun Ge hP => ?_)
      · obtain ⟨rfl, he⟩ := hY
        obtain ⟨se, he4⟩ := hP
        obtain ⟨de, hde, sde, hbe⟩ := el i' e he
        refine ⟨rfl, .ref b, rfl, b, dxb, _, rfl, inst (v4.trans (same_but se)), bf_no (NoF.mk' (by decide +kernel)), e, rfl, b, _, e, de, rfl, look (v4.trans (same_but se)), nz, Dt.same se _ hde, sde, fun Gf sf => ⟨_, sf _ _ he4, ?_, fun c o ec => ?_, ?_⟩⟩
        · rw [List.length_map, List.length_take]
          exact small1000 (Nat.le_trans (Nat.min_le_right _ _) (show 3 ≤ 1000 by decide))
        · rw [upd_ne (ne_of_none ec nD)]
          exact sf _ _ (se _ _ ec)
        · rw [upd_same, List.take_add_one, hbe, List.map_append]
          rfl
      obtain ⟨se, he4⟩ := hP
      have he5 : Ge D = some (.lst [V.bl false, .bl true, .bl true]) := he4
      refine ⟨.ref D, .list [.bool false, .bool true, .bool true], rfl, .lst (.inl (.inl he5)) (.cons (.bl _) (.cons (.bl _) (.cons (.bl _) .nil))), by decide +kernel, .inl (by decide +kernel), by decide +kernel, .inr (by decide +kernel), ?_⟩
      refine ⟨rfl, _, rfl, ?_⟩
      rw [show (PyData.list [.bool false, .bool true, .bool true]).shown = ("[False, True, True]" : Str) from by decide +kernel]
      rw [decide_eq_true rfl]
      have se' := s3.trans (u4.trans se)
      exact iteF ⟨_, _, rfl, hpG.same se', b3G.trans (same_but se'), se' _ _ hLG⟩
    obtain ⟨y4', y8, rfl, hp8, b38, hL8⟩ := hR
    have hsrc := hL8
    have el : ∀ (i' : Nat) (e : V), (xs.map V.str)[i']? = some e → ∃ de, Dt K H8 e de ∧ ShortD de ∧ (List.replicate xs.length false)[i']? = some (hasD (newBk zs) de) := fun i' e he => by
      rw [List.getElem?_map] at he
      obtain ⟨y, hy, rfl⟩ := Option.map_eq_some_iff.mp he
      obtain ⟨hi', ey⟩ := List.getElem?_eq_some_iff.mp hy
      have fy := fr y (List.mem_of_getElem? hy)
      exact ⟨_, .str y, shN fy.1, by rw [hasF fy.2]; exact rep_get hi'⟩
    refine ⟨.ref L, rfl, L, rfl, ⟨_, .inl (.inl hsrc)⟩, fun D nD => ?_⟩
    refine lc_it (walk_list (K := K) (a := L) (xs := xs.map V.str)) (fun i' H' => Same H8 H' ∧ H' D = some (.lst (((List.replicate xs.length false).take i').map V.bl))) ⟨same_upd nD, upd_same⟩ (fun i' H' _ hP => .inl (.inl (hP.1 _ _ hsrc))) (fun i' e Ge' Ge hi' hP hY => ?_) (fun Ge hP => ?_)
    · obtain ⟨rfl, he⟩ := hY
      obtain ⟨se, he4⟩ := hP
      obtain ⟨de, hde, sde, hbe⟩ := el i' e he
      refine ⟨rfl, .ref b, rfl, b, dxb, _, rfl, inst (b38.trans (same_but se)), bf_no (NoF.mk' (by decide +kernel)), e, rfl, b, _, e, de, rfl, look (b38.trans (same_but se)), nz, Dt.same se _ hde, sde, fun Gf sf => ⟨_, sf _ _ he4, ?_, fun c o ec => ?_, ?_⟩⟩
      · rw [List.length_map, List.length_take]
        exact small1000 (Nat.le_trans (Nat.min_le_right _ _) (by rw [List.length_replicate]; omega))
      · rw [upd_ne (ne_of_none ec nD)]
        exact sf _ _ (se _ _ ec)
      · rw [upd_same, List.take_add_one, hbe, List.map_append]
        rfl
    obtain ⟨se, he4⟩ := hP
    rw [List.length_map, List.take_of_length_le (by rw [List.length_replicate]; exact Nat.le_refl _)] at he4
    refine ⟨D, _, rfl, .inl (.inl he4), _, rfl, ?_⟩
    rw [show (List.replicate xs.length false).any id = false from by
      rw [List.any_replicate]
      split <;> rfl]
    exact q _ (hp8.same se) (b0.trans (b38.trans (same_but se)))
end
end Rc

namespace Rc
open PySem PySem.Spec PyProof.Rows L2 RZ
section
variable {X : Cx} {CX : CXT} {k : Nat} {f : Addr} {fd : FuncData} {ps : List Str} {sp : Sp} {E : XK} {x : Str} {p pos : Pos}
theorem pe_callG0 {ds : List Value} {dvs : List V} (F : FnG X.prog X.w X.K X.mg X.base CX k f fd ps sp) (hr : Room k X.A) (gd : X.A.guards = some []) (hg : Gl X x) (hm : X.mg x = some (.ref f)) (hk : PySem.W.keepIn X.K (.ref f) = true) (hb : Binds X.K fd ps ds) (hd : Vals dvs ds) (hx : Passes CX X E)
    (hdb : (x == ("__debug__" : Str)) = false := by decide) : PE X (.Call (.Name x p) [] [] pos) (tCall sp dvs E tNil) := by
  refine ⟨fun pins s σ H Q I h => ?_⟩
  refine wpAny_Call_Name_kw (ld_glob I hg hm ?_ hdb)
  exact PySem.W.callWith_K0 I.kIn hk (runG (us := []) F hr gd hb hd hx I .nil h)
end
/-! ### what is shown of a thing -/
theorem niceB_names : ∀ {zs : List Str}, (∀ z ∈ zs, nameT z = true) → ∀ {ds : List PyData} {m : Nat}, NiceB ds m → NiceB (zs.map PyData.str ++ ds) (9 * zs.length + m)
  | [], _, ds, m, b => by
    rw [List.map_nil, List.nil_append, List.length_nil, Nat.mul_zero, Nat.zero_add]
    exact b
  | z :: r, h, ds, m, b => by
    have hz := h z List.mem_cons_self
    have nc := nice_text (n := 8) (name_asc hz) (nameT_len hz).2
    have := (niceB_names (fun y hy => h y (List.mem_cons_of_mem _ hy)) b).cons nc.sh nc.lv (by simp only [PyData.depth]; omega) nc.bk
    rw [List.map_cons, List.cons_append, List.length_cons, show 9 * (r.length + 1) + m = 8 + 1 + (9 * r.length + m) by omega]
    exact this
theorem hasD_names : ∀ {zs : List Str} {ds : List PyData}, PyData.hasDictAll (zs.map PyData.str ++ ds) = PyData.hasDictAll ds
  | [], _ => rfl
  | z :: r, ds => by
    rw [List.map_cons, List.cons_append]
    simp only [PyData.hasDictAll, PyData.hasDict, Bool.false_or]
    exact hasD_names
theorem fld_names {H : Hp} : ∀ {zs : List Str} {vs : List V} {ds : List PyData}, FlD H vs ds → FlD H (zs.map V.str ++ vs) (zs.map PyData.str ++ ds)
  | [], _, _, h => h
  | z :: r, _, _, h => .flat (.str z) (fld_names h)
theorem dts_app {K : PySem.W.Frag} {H : Hp} : ∀ {zs : List Str} {vs : List V} {ds : List PyData}, DtAll K H vs ds → DtAll K H (zs.map V.str ++ vs) (zs.map PyData.str ++ ds)
  | [], _, _, h => h
  | z :: r, _, _, h => .cons (.str z) (dts_app h)
/-- what it is shown as -/
theorem Th11.shown {K : PySem.W.Frag} {p : Addr} {H : Hp} {v : V} (h : Th11 K p H v) : ∃ z : Str, ∀ (G : Hp), But p H G → ∀ Q : VK, Q (.str z) G → rReprE K [v] G Q := by
  cases h with
  | @no _ d hd hl so sd az => exact ⟨d.shown, fun G b Q q => .inl ⟨v, d, rfl, hd G b, so.sh, so.tp, so.dp, so.ft, q⟩⟩
  | @lst a xs ha ap ls =>
    cases ls with
    | @nms zs nm l =>
      have so : ShowOk (.list (zs.map PyData.str)) := ((nice_names nm).list).show (by omega)
      exact ⟨_, fun G b Q q => .inl ⟨.ref a, .list (zs.map PyData.str), rfl, .lst (.inl (.inl (b _ _ ap ha))) (DtAll.strs _), so.sh, so.tp, so.dp, so.ft, q⟩⟩
    | @odd zs ys x d n1 n2 l as db od =>
      have nb : NiceB (zs.map PyData.str ++ d :: ys.map PyData.str) (9 * zs.length + (20 + 1 + (9 * ys.length + 0))) := niceB_names n1 (NiceB.cons od.so.sh od.lv (by have := od.d3; omega) od.bk (by
        have := niceB_names n2 NiceB.nil
        rwa [List.append_nil] at this))
      obtain ⟨sh, dp, ft⟩ := nb.show (by omega)
      rcases od.so.tp with hD | ⟨ps, eps⟩
      · refine ⟨_, fun G b Q q => .inl ⟨.ref a, .list (zs.map PyData.str ++ d :: ys.map PyData.str), rfl, .lst (.inl (.inl (b _ _ ap ha))) (dts_app (.cons (db.db G b) (DtAll.strs _))), sh, .inl ?_, dp, .inr ft, q⟩⟩
        simp only [PyData.hasDict]
        rw [hasD_names]
        simp only [PyData.hasDictAll]
        rw [hD, Bool.false_or]
        have := hasD_names (zs := ys) (ds := [])
        rw [List.append_nil] at this
        rw [this]
        rfl
      · subst eps
        refine ⟨_, fun G b Q q => .inr ⟨a, zs.map V.str ++ x :: ys.map V.str, zs.map PyData.str ++ .dict ps :: ys.map PyData.str, rfl, .inl (.inl (b _ _ ap ha)), as, ?_, sh, dp, ft, q⟩⟩
        have hx := db.db G b
        cases hx with
        | dct e fk fv => exact fld_names (.dct e fk fv (by
            have := fld_names (H := G) (zs := ys) .nil
            rwa [List.append_nil, List.append_nil] at this))
/-- what is told as data -/
def opD : Option (Str × Str) → PyData
  | none => .none
  | some (a, b) => .list [.str a, .str b]
theorem op_dp {K : PySem.W.Frag} {H : Hp} {x : V} : ∀ {o : Option (Str × Str)}, Op11 H x o → Dp K H x (opD o)
  | none, h => by
    cases h
    exact .non
  | some (a, b), h => by
    obtain ⟨r, rfl, hr⟩ := h
    exact .lst (.inl (.inl hr)) (.cons (.str _) (.cons (.str _) .nil))
theorem op_same {H H' : Hp} {x : V} : ∀ {o : Option (Str × Str)}, Op11 H x o → Same H H' → Op11 H' x o
  | none, h, _ => h
  | some (a, b), ⟨r, e, hr⟩, s => ⟨r, e, s _ _ hr⟩
theorem op_shaped {o : Option (Str × Str)} (h : ∀ a b, o = some (a, b) → Asc a ∧ Asc b) : SeqAt.shaped (opD o) = true := by
  match o with
  | none => decide +kernel
  | some (a, b) =>
    obtain ⟨h1, h2⟩ := h a b rfl
    exact shaped12 (l := [a, b]) (fun t ht => by
      simp only [List.mem_cons, List.not_mem_nil, or_false] at ht
      rcases ht with rfl | rfl
      · exact h1
      · exact h2)
theorem op_self {o : Option (Str × Str)} : PyData.eqv (opD o) (opD o) = true := by
  match o with
  | none => decide +kernel
  | some (a, b) =>
    simp [opD, PyData.eqv, PyData.eqvAll]
theorem Wr11.asc {K : PySem.W.Frag} {H : Hp} {v : V} {o : Option (Str × Str)} (h : Wr11 K H v o) : ∀ a b, o = some (a, b) → Asc a ∧ Asc b := fun a b e => by
  cases h with
  | bad _ a1 a2 =>
    cases e
    exact ⟨a1, a2⟩
  | good => cases e
section
variable {P : Program} {w : World} {K : PySem.W.Frag} {mg : Str → Option Value} {base : Heap}
abbrev sLaw : Stmt := topS 44
abbrev nLaw : List Str := ["_law_script", "_law_k", "_law_pot_here", "_law_thing", "_law_kept", "_law_wrong_here"]
theorem scLaw : FnScope nLaw ["_law_script"] (defScope sLaw) := ⟨rfl, rfl, rfl, by decide +kernel, rfl, by decide +kernel, by decide +kernel⟩
def spLaw (K : PySem.W.Frag) : Sp := fun vs H Q _ => ∃ (a : Addr) (ns : List Int), vs = [.ref a] ∧ SqL K H a (ns.map V.int) ∧ ns.length ≤ 63 ∧ ∀ H', Q (.bl true) H'
set_option maxHeartbeats 4000000 in
theorem ok_law {f fP fT f1 f2 f3 f4 f5 f6 : Addr} {fd fdP fdT fd1 fd2 fd3 fd4 fd5 fd6 : FuncData} (F : Fun K "law" "law" sLaw f fd) (B : Blt mg) (B2 : Blt2 mg) (TK : HasTake P w K mg base fT fdT)
    (LP : Has P w K mg base 3 "_law_pot" ["_law_script", "_law_k"] (spPot K) fP fdP) (LN : Has P w K mg base 3 "_law_names" ["_law_pot_here", "_law_many"] spLNms f1 fd1) (SO : Has P w K mg base 3 "_law_spoilt" ["_law_pot_here", "_law_names_here"] (spLSo K) f2 fd2)
    (WR : Has P w K mg base 2 "_law_wrong" ["_law_thing"] (spLWr11 K) f3 fd3) (RF : Has P w K mg base 5 "_law_refused" ["_law_thing"] (spLRf K) f4 fd4) (ER : HasG P w K mg base 2 "_law_errors_right" [] spLEr f5 fd5)
    (RT : HasG P w K mg base 9 "_law_right" ["_law_pot_here", "_law_names_here"] spLRt11 f6 fd6) : FnG P w K mg base CX0 10 f fd ["_law_script"] (spLaw K) := by
  refine okG0 F scLaw (fun vs H Q E h => ?_) (fun cdv A outer s H vs Q E hr hgd h => ?_)
  · obtain ⟨a, d, rfl, _⟩ := h
    rfl
  · obtain ⟨a, ns, rfl, hS, hlen, q⟩ := h
    have hr1 := hr.mono (show 1 ≤ 9 by decide)
    have hr2 := hr.mono (show 2 ≤ 9 by decide)
    have hr3 := hr.mono (show 3 ≤ 9 by decide)
    have hr5 := hr.mono (show 5 ≤ 9 by decide)
    refine ⟨_, (pss_cons (ps_for PassesOwn.never rfl (pi_range1 (by rfl) B2.range (pa_cons (pe_callB (call_max2 rfl) (by rfl) B2.max (by decide +kernel) (pa_cons pe_int (pa_cons (pe_callB (call_min2 rfl) (by rfl) B2.min (by decide +kernel) (pa_cons (pe_callB call_len_seq (by rfl) B.len PySem.boot_len (pa_cons (pv 0) pa_nil)) (pa_cons pe_int pa_nil))) pa_nil))) pa_nil)) (pg_name (i := 1) scLaw.nd rfl (.inl rfl)) (pss_cons (ps_set (i := 2) scLaw.nd rfl (.inl rfl) (pe_call LP.ok hr3 (by rfl) LP.g LP.kp LP.b .nil pass0 (pa_cons (pv 0) (pa_cons (pv 1) pa_nil)))) (pss_cons (ps_set (i := 3) scLaw.nd rfl (.inl rfl) (pe_call SO.ok hr3 (by rfl) SO.g SO.kp SO.b .nil pass0 (pa_cons (pv 2) (pa_cons (pe_call LN.ok hr3 (by rfl) LN.g LN.kp LN.b .nil pass0 (pa_cons (pv 2) (pa_cons (pe_op op_add pe_int (pe_call TK.ok hr1 (by rfl) TK.g TK.kp TK.b .nil pass0 (pa_cons (pv 2) (pa_cons (pe_ix ix_list (pe_lst (pa_cons pe_int (pa_cons pe_int pa_nil))) (pe_call TK.ok hr1 (by rfl) TK.g TK.kp TK.b .nil pass0 (pa_cons (pv 2) (pa_cons pe_int pa_nil))) (fun _ _ => rfl)) pa_nil)))) pa_nil))) pa_nil)))) (pss_cons (ps_set (i := 4) scLaw.nd rfl (.inl rfl) (pe_callB (call_reprE hr hgd) (by rfl) B2.repr (by decide +kernel) (pa_cons (pv 3) pa_nil))) (pss_cons (ps_set (i := 5) scLaw.nd rfl (.inl rfl) (pe_call WR.ok hr2 (by rfl) WR.g WR.kp WR.b .nil pass0 (pa_cons (pv 3) pa_nil))) (C8.pss_cut (ps_if (PW.pt (pw_or (pt_cmpR (op_neD hr.units) (pe_call RF.ok hr5 (by rfl) RF.g RF.kp RF.b .nil pass0 (pa_cons (pv 3) pa_nil)) (pv 5) (nomark _)) (pw_or (pt_cmpR op_ne (pe_callB (call_reprE hr hgd) (by rfl) B2.repr (by decide +kernel) (pa_cons (pv 3) pa_nil)) (pv 4) (nomark _)) (pw_or1 (pt_not (pt_val (pe_callG0 ER.ok hr2 hgd (by rfl) ER.g ER.kp ER.b .nil pass0))))))) (pss_one (ps_ret pe_bl)) pss_nil) (pss_one (ps_if (PW.pt (pw_and (pt_cmpR op_isN (pv 5) pe_non (nomark _)) (pw_and1 (pt_not (pt_val (pe_callG RT.ok hr hgd (by rfl) RT.g RT.kp RT.b .nil pass0 (pa_cons (pv 2) (pa_cons (pv 3) pa_nil)))))))) (pss_one (ps_ret pe_bl)) pss_nil)))))))) (pss_one (ps_ret pe_bl))), ?_⟩
    refine ⟨.ref a, rfl, a, _, rfl, .inl hS, _, _, rfl, _, _, rfl, ?_⟩
    have nb : ∃ n : Nat, n ≤ 63 ∧ (if (if (4 : Int) < ((ns.map V.int).length : Int) then (4 : Int) else ((ns.map V.int).length : Int)) > 1 then (if (4 : Int) < ((ns.map V.int).length : Int) then (4 : Int) else ((ns.map V.int).length : Int)) else 1) = (n : Int) := by
      rw [List.length_map]
      refine ⟨(if (if (4 : Int) < (ns.length : Int) then (4 : Int) else (ns.length : Int)) > 1 then (if (4 : Int) < (ns.length : Int) then (4 : Int) else (ns.length : Int)) else 1).toNat, ?_, ?_⟩ <;> (split <;> split <;> omega)
    obtain ⟨n, hn, en⟩ := nb
    refine ⟨_, congrArg (fun z => [V.int z]) en, by omega, by omega, ?_⟩
    refine for_it walk_range (fun i σ H' => ∃ y1 y2 y3 y4 y5, σ = [some (.ref a), y1, y2, y3, y4, y5] ∧ Same H H') ⟨_, _, _, _, _, rfl, Same.refl _⟩ (fun _ _ _ _ _ => trivial) (fun i x σ H1' H1 hi hP hY => ?_) (fun σ H1 hP => ?_)
    · obtain ⟨rfl, rfl⟩ := hY
      obtain ⟨y1, y2, y3, y4, y5, rfl, s1⟩ := hP
      have hi' : i < n := by simpa using hi
      refine ⟨.ref a, rfl, .int (0 + i), rfl, a, ns, _, rfl, s1.seq hS, by omega, by omega, fun p o np hp => ?_⟩
      have s2 := same_upd (o := o) np
      have bz : ∀ {G : Hp}, But p (upd H1 p o) G → Same H G := fun g c u e => by
        have e1 := s1 c u e
        exact g _ _ (ne_of_none e1 np) (s2 _ _ e1)
      generalize upd H1 p o = H2 at s2 hp bz
      refine ⟨.ref p, rfl, .ref p, rfl, .ref p, rfl, by show 2 ≤ sizeLine; decide, fun r nr => ?_⟩
      have t1 := same_upd (o := .lst [V.int 4, .int 13]) nr
      have h1 : upd H2 r (.lst [V.int 4, .int 13]) r = some (.lst [V.int 4, .int 13]) := upd_same
      have hp1 := hp.same t1
      have rp := hp.ne nr
      generalize upd H2 r (.lst [V.int 4, .int 13]) = H3 at t1 h1 hp1
      refine ⟨.ref p, rfl, p, 2, rfl, hp1, litM _ (by decide) (by decide), fun u H4 u0 u1 hp4 b4 => ?_⟩
      obtain ⟨m, em, mm⟩ := pick (xs := [V.int 4, .int 13]) u0 u1
      have hm : ∃ M : Int, m = .int M ∧ 4 ≤ M ∧ M ≤ 13 := by
        simp only [List.mem_cons, List.not_mem_nil, or_false] at mm
        rcases mm with rfl | rfl
        · exact ⟨4, rfl, by decide, by decide⟩
        · exact ⟨13, rfl, by decide, by decide⟩
      obtain ⟨M, rfl, M0, M1⟩ := hm
      refine ⟨r, _, _, .int M, rfl, rfl, .inl (.inl (b4 _ _ rp h1)), em, p, M, rfl, hp4, litM _ (by omega) (by omega), fun w' H5 w0 w1 hp5 b5 => ?_⟩
      obtain ⟨k, rfl⟩ := Int.eq_ofNat_of_zero_le w0
      refine ⟨_, _, rfl, rfl, ?_⟩
      refine ⟨p, k + 1, (by show [V.ref p, V.int (1 + (k : Int))] = _; rw [show (1 : Int) + (k : Int) = ((k + 1 : Nat) : Int) by omega]), hp5, by omega, fun nl zs H6 nnl nlp hnl lz nd nm hp6 b6 => ?_⟩
      refine ⟨p, nl, zs, rfl, hp6, hnl, nlp, by omega, by omega, nm, fun v H7 hp7 b7 th => ?_⟩
      have b27 : But p H2 H7 := (same_but t1).trans (b4.trans (b5.trans (b6.trans b7)))
      obtain ⟨z, hz⟩ := th.shown
      refine ⟨v, rfl, hz H7 (But.self H7) _ ?_⟩
      refine ⟨v, rfl, p, v, rfl, th, fun x o' H8 s8 wr op => ?_⟩
      have wr8 := wr.same (Same.refl _)
      have op8 := op
      have as := wr8.asc
      refine ⟨fun σ H' => σ = [some (.ref a), some (.int (0 + i)), some (.ref p), some v, some (.str z), some x] ∧ Same H8 H', ?_, fun σ H9 hR => ?_⟩
      · refine ⟨v, rfl, v, o', rfl, wr8, fun y G1 u1 oy => ?_⟩
        refine ⟨x, rfl, opD o', opD o', op_dp oy, op_dp (op_same op8 u1), op_shaped as, op_shaped as, _, rfl, ?_⟩
        rw [op_self]
        refine iteF ⟨v, rfl, hz G1 (same_but (s8.trans u1)) _ ⟨.str z, rfl, rfl, _, rfl, ?_⟩⟩
        rw [decide_eq_true rfl]
        exact iteF ⟨rfl, fun G2 u2 => ⟨_, rfl, iteF ⟨rfl, u1.trans u2⟩⟩⟩
      obtain ⟨rfl, s9⟩ := hR
      have b29 : But p H2 H9 := b27.trans (same_but (s8.trans s9))
      have hp9 := (hp7.same s8).same s9
      have wr9 := wr8.same s9
      refine ⟨x, rfl, rfl, _, rfl, ?_⟩
      cases wr9 with
      | @bad w1 w2 bq a1 a2 =>
        obtain ⟨r', rfl, _⟩ := op8
        rw [show decide (V.ref r' = V.non) = false from decide_eq_false fun c => by cases c]
        exact iteF (iteF ⟨_, _, _, _, _, rfl, bz b29⟩)
      | @good av zs' ev ha nz =>
        obtain rfl := op8
        subst ev
        rw [decide_eq_true rfl]
        have avp : av ≠ p := fun c => by
          obtain ⟨u', v', e, _⟩ := hp9
          rw [c, e] at ha
          have := nz.n0
          match zs', this, ha with
          | y :: r', _, ha => cases ha
        refine iteT ⟨.ref p, rfl, .ref av, rfl, p, av, zs', rfl, hp9, avp, ha, nz, fun G hpG bG => ⟨_, rfl, iteF ⟨_, _, _, _, _, rfl, bz (b29.trans bG)⟩⟩⟩
    · exact q _
end
end Rc

namespace Rc
open PySem PySem.Spec PyProof.Rows L2
theorem all1 {p : Str → Prop} {a : Str} (h : p a) : ∀ f ∈ [a], p f := fun f hf => by rw [List.mem_singleton.mp hf]; exact h
theorem all2 {p : Str → Prop} {a b : Str} (h : p a) (h' : p b) : ∀ f ∈ [a, b], p f := fun f hf => by
  rcases List.mem_cons.mp hf with e | e
  · rw [e]; exact h
  · rw [List.mem_singleton.mp e]; exact h'
/-- the top's facts of an own exception class -/
theorem mkCx {P : Program} {K : PySem.W.Frag} {h : Heap} {mg : Str → Option Value} {nm : Str} {st : Stmt} {fs : List Str} {B newId initId : String} {bmB : List Value} {C : Addr} (X : K.In h) (G : h.Ns mainGlobals mg)
    {fI : Addr} {oc : Value} {od : Option Addr} {qual : Str} {doc pm : Value} {an : Option Addr} {cda : Addr} {ct : Value} {cc : Addr} {osl : Array (Option Value)} {cl : Value} {cld : Option Addr} {csl : Array (Option Value)} {ccl : Value} {cdd : Option Addr} {vs : Array Value} {ccs : Array (Option Value)} {file : Str} {tf : Tok}
    (a : PySem.W.nsIn K mainGlobals nm = some (some (.ref C))) (a1 : PySem.W.excInitIn K C bmB newId = true) (a2 : PySem.W.excOver K C bmB = true) (a3 : PySem.W.hasDictIn K C = true)
    (a4 : PySem.W.findIn K (.ref C) "__setattr__" = some (some (.builtin "object.__setattr__"))) (a5 : PySem.W.findIn K (.ref C) "__getattribute__" = some (some (.builtin "BaseException.__getattribute__"))) (a6 : PySem.W.findIn K (.ref C) "__getattr__" = some none)
    (a7 : ∀ f ∈ fs, PySem.W.findIn K (.ref C) f = some none) (a8 : PySem.W.keepIn K (.ref C) = true) (a9 : PySem.W.subIn K (.ref C) (.type "BaseException") = some true) (b1 : PySem.W.typeIn K (.ref C) = some (.type "type")) (b2 : PySem.W.subIn K (.ref C) (.type B) = some true)
    (b3 : PySem.W.mroIn K C (.ref C) = some true) (b4 : PySem.W.nsIn K cStatics "thirdparty.any" = some none) (b5 : PySem.W.ks_superIn K C C "__init__" = some (some (.builtin initId))) (b6 : PySem.W.nsIn K mainGlobals "super" = some none) (b7 : (P.main.scope.names.lookup ("super" : Str)).isSome = false)
    (i1 : PySem.W.findIn K (.ref C) "__init__" = some (some (.ref fI))) (i2 : PySem.W.typeIn K (.ref fI) = some (.type "function"))
    (i3 : K.lookup fI = some ⟨oc, od, .func (PySem.W.ksFn "__init__" qual (defArgs st) (defBody st) (defScope st) .none .none doc pm an (.ref cda) ct cc), osl⟩) (i4 : PySem.W.codeIn K (.ref cda) qual = true)
    (i5 : K.lookup cc = some ⟨cl, cld, .cell (some (.ref C)), csl⟩) (i6 : K.lookup cda = some ⟨ccl, cdd, .fields vs, ccs⟩) (i7 : vs[2]? = some (.str file tf)) (i8 : ((P.main.file : Str) == file) = true) : EX.Cx' P K mg nm st fs B newId initId bmB C :=
  ⟨PySem.W.mg_of X G a, a1, a2, a3, a4, a5, a6, a7, a8, a9, b1, b2, b3, b4, b5, PySem.W.mg_none_of X G b6, b7, fI, oc, od, qual, doc, pm, an, cda, ct, cc, osl, i1, i2, i3, i4, ⟨_, _, _, i5⟩, _, _, _, _, _, _, i6, i7, i8⟩
theorem mkClsB {K : PySem.W.Frag} {h : Heap} {mg : Str → Option Value} {CB CN : Addr} (X : K.In h) (G : h.Ns mainGlobals mg) (a : PySem.W.nsIn K mainGlobals "BookError" = some (some (.ref CB))) (a1 : PySem.W.subIn K (.ref CB) (.type "BaseException") = some true) (a2 : PySem.W.hasDictIn K CB = true)
    (a3 : PySem.W.typeIn K (.ref CB) = some (.type "type")) (a4 : PySem.W.subIn K (.ref CN) (.ref CB) = some false) (a5 : PySem.W.subIn K (.ref CN) (.ref CN) = some true) (a6 : PySem.W.kitOne K (.ref CN) (.ref CB) = some false) (a7 : PySem.W.kitOne K (.ref CN) (.type "LookupError") = some true)
    (a8 : PySem.W.nsIn K mainGlobals "LookupError" = some none) (a9 : PySem.W.findIn K (.ref CN) "__class__" = some (some (.builtin "object.__class__"))) (b1 : PySem.W.specialIn K (.builtin "object.__class__") "__get__" = some (some (.builtin "getset_descriptor.__get__")))
    (b2 : PySem.W.takesIn K (.builtin "object.__class__") = some true) (b3 : PySem.W.mroIn K CN (.type "object") = some true) : ClsB K mg CB CN :=
  ⟨PySem.W.mg_of X G a, a1, a2, a3, a4, a5, a6, a7, PySem.W.mg_none_of X G a8, a9, b1, b2, b3⟩
end Rc

namespace Rc
open PySem PySem.Spec PyProof.Rows L2
theorem fnOr {P : Program} {w : World} {K : PySem.W.Frag} {mg : Str → Option Value} {base : Heap} {CX : CXT} {k : Nat} {f : Addr} {fd : FuncData} {ps : List Str} {sp sp' : Sp} (F : FnOk P w K mg base CX k f fd ps sp) (G : FnOk P w K mg base CX k f fd ps sp') :
    FnOk P w K mg base CX k f fd ps (fun vs H Q E => sp vs H Q E ∨ sp' vs H Q E) :=
  ⟨fun vs H Q E h => h.elim (F.len vs H Q E) (G.len vs H Q E), fun A outer s H args us vs Q E hr he hb hv hs => hs.elim (F.run A outer s H args us vs Q E hr he hb hv) (G.run A outer s H args us vs Q E hr he hb hv)⟩
end Rc

namespace Rc
open PySem PySem.Spec PyProof.Rows L2
/-- a def of the text, by its name -/
def DefOf {K : PySem.W.Frag} {h : Heap} (_ : K.In h) (mg : Str → Option Value) (nm : Str) (st : Stmt) : Prop := ∃ f fd, Fun K nm nm st f fd ∧ mg nm = some (.ref f)
theorem mkDef {K : PySem.W.Frag} {h : Heap} {mg : Str → Option Value} (X : K.In h) (G : h.Ns mainGlobals mg) {nm : Str} {st : Stmt} {f : Addr} {oc : Value} {od an : Option Addr} {osl : Array (Option Value)} {kV doc pm cdv ct : Value}
    (a : PySem.W.nsIn K mainGlobals nm = some (some (.ref f)))
    (l : K.lookup f = some ⟨oc, od, .func (PySem.W.fnOf nm nm (defArgs st) (defBody st) (defScope st) .none kV doc pm an cdv ct), osl⟩)
    (c : PySem.W.codeIn K cdv nm = true) (k : PySem.W.keepIn K (.ref f) = true) : DefOf X mg nm st := ⟨f, _, fun_mk l c k, PySem.W.mg_of X G a⟩
/-- a method of the class C -/
def MethOf (K : PySem.W.Frag) (C : Addr) (nm qual : Str) (st : Stmt) : Prop := ∃ f fd, Fun K nm qual st f fd ∧ Meth K C nm f
theorem mkMeth {K : PySem.W.Frag} {C : Addr} {nm qual : Str} {st : Stmt} {f : Addr} {oc : Value} {od an : Option Addr} {osl : Array (Option Value)} {kV doc pm cdv ct : Value}
    (a : PySem.W.findIn K (.ref C) nm = some (some (.ref f))) (i : PySem.W.isFn K (.ref f) = true)
    (l : K.lookup f = some ⟨oc, od, .func (PySem.W.fnOf nm qual (defArgs st) (defBody st) (defScope st) .none kV doc pm an cdv ct), osl⟩)
    (c : PySem.W.codeIn K cdv qual = true) (k : PySem.W.keepIn K (.ref f) = true) : MethOf K C nm qual st := ⟨f, _, fun_mk l c k, a, i, k⟩
structure TopB (K : PySem.W.Frag) (mg : Str → Option Value) (C : Addr) : Prop where
  T : ClsF K C
  g : mg "Book" = some (.ref C)
  makes : PySem.W.makesIn K C = true
  kp : PySem.W.keepIn K (.ref C) = true
theorem mkTop {K : PySem.W.Frag} {h : Heap} {mg : Str → Option Value} {C : Addr} (X : K.In h) (G : h.Ns mainGlobals mg) (a : PySem.W.nsIn K mainGlobals "Book" = some (some (.ref C)))
    (pg : PySem.W.plainGet K C Str.empty = true) (hd : PySem.W.hasDictIn K C = true) (po : PySem.W.plainOver K C = true) (sa : PySem.W.findIn K (.ref C) "__setattr__" = some (some (.builtin "object.__setattr__"))) (mk : PySem.W.makesIn K C = true) (kc : PySem.W.keepIn K (.ref C) = true)
    (n1 : PySem.W.findIn K (.ref C) "names" = some none) (n2 : PySem.W.findIn K (.ref C) "gifts" = some none) (n3 : PySem.W.findIn K (.ref C) "stacks" = some none) (n4 : PySem.W.findIn K (.ref C) "drops" = some none) : TopB K mg C :=
  ⟨⟨⟨pg, hd, po, sa⟩, n1, n2, n3, n4⟩, PySem.W.mg_of X G a, mk, kc⟩
def ConOf (mg : Str → Option Value) (nm : Str) (v : V) : Prop := ∃ u, mg nm = some u ∧ RelV v u
theorem con_of {K : PySem.W.Frag} {h : Heap} {mg : Str → Option Value} (X : K.In h) (G : h.Ns mainGlobals mg) {nm : Str} {v : V} {u : Value} (a : PySem.W.nsIn K mainGlobals nm = some (some u)) (r : RelV v u) : ConOf mg nm v := ⟨u, PySem.W.mg_of X G a, r⟩
section
variable {K : PySem.W.Frag} {nm q x y z u4 : Str} {st : Stmt} {f : Addr} {fd : FuncData}
theorem bind1 (F : Fun K nm q st f fd)
    (h : ∀ (kV doc pm : Value) (an : Option Addr) (cdv ct v : Value), bindArgs (PySem.W.fnOf nm q (defArgs st) (defBody st) (defScope st) .none kV doc pm an cdv ct) ⟨[v], []⟩ = pure [(x, v)]) : Binds K fd [x] [] :=
  F.binds (ps := [x]) fun kV doc pm an cdv ct us hl => match us, hl with | [v], _ => h kV doc pm an cdv ct v
theorem bind2 (F : Fun K nm q st f fd)
    (h : ∀ (kV doc pm : Value) (an : Option Addr) (cdv ct u v : Value), bindArgs (PySem.W.fnOf nm q (defArgs st) (defBody st) (defScope st) .none kV doc pm an cdv ct) ⟨[u, v], []⟩ = pure [(x, u), (y, v)]) : Binds K fd [x, y] [] :=
  F.binds (ps := [x, y]) fun kV doc pm an cdv ct us hl => match us, hl with | [u, v], _ => h kV doc pm an cdv ct u v
theorem bind3 (F : Fun K nm q st f fd)
    (h : ∀ (kV doc pm : Value) (an : Option Addr) (cdv ct u v w : Value), bindArgs (PySem.W.fnOf nm q (defArgs st) (defBody st) (defScope st) .none kV doc pm an cdv ct) ⟨[u, v, w], []⟩ = pure [(x, u), (y, v), (z, w)]) : Binds K fd [x, y, z] [] :=
  F.binds (ps := [x, y, z]) fun kV doc pm an cdv ct us hl => match us, hl with | [u, v, w], _ => h kV doc pm an cdv ct u v w
theorem bind4 (F : Fun K nm q st f fd)
    (h : ∀ (kV doc pm : Value) (an : Option Addr) (cdv ct u v w t : Value), bindArgs (PySem.W.fnOf nm q (defArgs st) (defBody st) (defScope st) .none kV doc pm an cdv ct) ⟨[u, v, w, t], []⟩ = pure [(x, u), (y, v), (z, w), (u4, t)]) : Binds K fd [x, y, z, u4] [] :=
  F.binds (ps := [x, y, z, u4]) fun kV doc pm an cdv ct us hl => match us, hl with | [u, v, w, t], _ => h kV doc pm an cdv ct u v w t
end
section
variable {P : Program} {w : World} {K : PySem.W.Frag} {mg : Str → Option Value} {base : Heap} {C f : Addr} {fd : FuncData} {k : Nat} {nm : Str} {ps : List Str} {sp : Sp} {st : Stmt}
end
end Rc

namespace Rc
open PySem PySem.Spec PyProof.Rows L2 RZ
theorem FnOk.up {P : Program} {w : World} {K : PySem.W.Frag} {mg : Str → Option Value} {base : Heap} {CX : CXT} {k : Nat} {f : Addr} {fd : FuncData} {ps : List Str} {sp : Sp} (F : FnOk P w K mg base CX0 k f fd ps sp) : FnOk P w K mg base CX k f fd ps sp :=
  ⟨F.len, fun A outer s H args us vs Q E hr he hb hv hs => PySem.codeAny_mono (F.run A outer s H args us vs Q E hr he hb hv hs) fun r s' h => by
    cases r with
    | ok c => cases c <;> exact h
    | error e => exact h.elim⟩
theorem bind0 {K : PySem.W.Frag} {nm q : Str} {st : Stmt} {f : Addr} {fd : FuncData} (F : Fun K nm q st f fd)
    (h : ∀ (kV doc pm : Value) (an : Option Addr) (cdv ct : Value), bindArgs (PySem.W.fnOf nm q (defArgs st) (defBody st) (defScope st) .none kV doc pm an cdv ct) ⟨[], []⟩ = pure []) : Binds K fd [] [] :=
  F.binds (ps := []) fun kV doc pm an cdv ct us hl => match us, hl with | [], _ => h kV doc pm an cdv ct
theorem kit_two {K : PySem.W.Frag} {t a b : Value} (h1 : PySem.W.kitOne K t a = some false) (h2 : PySem.W.kitOne K t b = some false) : PySem.W.kitAny K t [a, b] = some false := by
  simp only [PySem.W.kitAny, h1, h2]
theorem mkEr11 {P : Program} {K : PySem.W.Frag} {mg : Str → Option Value} {xO xS xX xR xF xT xH xD xA xP xV xW xK BA BP BV BW BK : Addr}
    (pO : ClsNoB P K mg xO)
    (pS : ClsN P K mg xS)
    (pX : ClsX11 P K mg xX)
    (pR : ClsR11 P K mg xR)
    (pF : ClsF11 P K mg xF)
    (pT : ClsT11 P K mg xT)
    (pH : ClsH11 P K mg xH)
    (pD : ClsD11 P K mg xD)
    (pA : ClsP K mg "NoAmount" xA BA)
    (pP : ClsP K mg "NoStep" xP BP)
    (pV : ClsP K mg "NoVector" xV BV)
    (pW : ClsP K mg "NoRow" xW BW)
    (pK : ClsP K mg "NoBack" xK BK)
    (clO : PySem.W.findIn K (.ref xO) "__class__" = some (some (.builtin "object.__class__")))
    (obO : PySem.W.mroIn K xO (.type "object") = some true)
    (clS : PySem.W.findIn K (.ref xS) "__class__" = some (some (.builtin "object.__class__")))
    (obS : PySem.W.mroIn K xS (.type "object") = some true)
    (clX : PySem.W.findIn K (.ref xX) "__class__" = some (some (.builtin "object.__class__")))
    (obX : PySem.W.mroIn K xX (.type "object") = some true)
    (clR : PySem.W.findIn K (.ref xR) "__class__" = some (some (.builtin "object.__class__")))
    (obR : PySem.W.mroIn K xR (.type "object") = some true)
    (clF : PySem.W.findIn K (.ref xF) "__class__" = some (some (.builtin "object.__class__")))
    (obF : PySem.W.mroIn K xF (.type "object") = some true)
    (clT : PySem.W.findIn K (.ref xT) "__class__" = some (some (.builtin "object.__class__")))
    (obT : PySem.W.mroIn K xT (.type "object") = some true)
    (clH : PySem.W.findIn K (.ref xH) "__class__" = some (some (.builtin "object.__class__")))
    (obH : PySem.W.mroIn K xH (.type "object") = some true)
    (clD : PySem.W.findIn K (.ref xD) "__class__" = some (some (.builtin "object.__class__")))
    (obD : PySem.W.mroIn K xD (.type "object") = some true)
    (soO : PySem.W.subIn K (.ref xO) (.ref xO) = some true)
    (soS : PySem.W.subIn K (.ref xS) (.ref xS) = some true)
    (oB : PySem.W.kitOne K (.ref xO) (.ref BA) = some true)
    (oV : PySem.W.kitOne K (.ref xO) (.type "ValueError") = some true)
    (sB : PySem.W.kitOne K (.ref xS) (.ref BA) = some false)
    (sR : PySem.W.kitOne K (.ref xS) (.ref xR) = some false)
    (kxV : PySem.W.kitOne K (.ref xX) (.type "ValueError") = some true)
    (rL : PySem.W.kitOne K (.ref xR) (.type "LookupError") = some true)
    (rB : PySem.W.kitOne K (.ref xR) (.ref BA) = some false)
    (rS : PySem.W.kitOne K (.ref xR) (.ref xS) = some false)
    (fR : PySem.W.kitOne K (.ref xF) (.type "RuntimeError") = some true)
    (tR : PySem.W.kitOne K (.ref xT) (.type "RuntimeError") = some true)
    (hA : PySem.W.kitOne K (.ref xH) (.type "ArithmeticError") = some true)
    (dA : PySem.W.kitOne K (.ref xD) (.type "ArithmeticError") = some true)
    (fB : PySem.W.kitOne K (.ref xF) (.ref BA) = some false)
    (fT : PySem.W.kitOne K (.ref xF) (.ref xT) = some false)
    (hB : PySem.W.kitOne K (.ref xH) (.ref BA) = some false)
    (hD : PySem.W.kitOne K (.ref xH) (.ref xD) = some false)
    (gV : mg "ValueError" = none)
    (gL : mg "LookupError" = none)
    (gRt : mg "RuntimeError" = none)
    (gA : mg "ArithmeticError" = none) : ∃ a : Ea11, Er11 P K mg a := by
  have eP := pA.gB.symm.trans pP.gB
  cases eP
  have eV := pA.gB.symm.trans pV.gB
  cases eV
  have eW := pA.gB.symm.trans pW.gB
  cases eW
  have eK := pA.gB.symm.trans pK.gB
  cases eK
  exact ⟨⟨BA, xO, xS, xX, xR, xF, xT, xH, xD, xA, xP, xV, xW, xK⟩, ⟨pA.gB, pO, pS, pX, pR, pF, pT, pH, pD, pA, pP, pV, pW, pK, ⟨pO.ga, pO.gg, pO.exC, pO.hd, clO, pA.sp, pA.tk, obO⟩, ⟨pS.ga, pS.gg, pS.exC, pS.hd, clS, pA.sp, pA.tk, obS⟩, ⟨pX.ga, pX.gg, pX.exC, pX.hd, clX, pA.sp, pA.tk, obX⟩, ⟨pR.ga, pR.gg, pR.exC, pR.hd, clR, pA.sp, pA.tk, obR⟩, ⟨pF.ga, pF.gg, pF.exC, pF.hd, clF, pA.sp, pA.tk, obF⟩, ⟨pT.ga, pT.gg, pT.exC, pT.hd, clT, pA.sp, pA.tk, obT⟩, ⟨pH.ga, pH.gg, pH.exC, pH.hd, clH, pA.sp, pA.tk, obH⟩, ⟨pD.ga, pD.gg, pD.exC, pD.hd, clD, pA.sp, pA.tk, obD⟩, gV, gL, gRt, gA, soO, soS, oB, oV, kit_two sB sR, kxV, rL, kit_two rB rS, fR, tR, hA, dA, kit_two fB fT, kit_two hB hD⟩⟩
end Rc

namespace Rc
open PySem PySem.Spec PyProof.Rows L2
set_option maxHeartbeats 0 in
theorem all_mk {l : PySem.W.OpenLaw} {w : World} {K : PySem.W.Frag} {h : Heap} {mg : Str → Option Value} {fa C : Addr} (X : K.In h)
    (hfa : mg "law" = some (.ref fa))
    (TC : TopB K mg C)
    (d_is_name : DefOf X mg "is_name" (topS 19))
    (d_check_persons : DefOf X mg "check_persons" (topS 25))
    (d_split_notes : DefOf X mg "split_notes" (topS 27))
    (d_l_pot : DefOf X mg "_law_pot" (topS 31))
    (d_l_take : DefOf X mg "_law_take" (topS 32))
    (d_l_name : DefOf X mg "_law_name" (topS 33))
    (d_l_names : DefOf X mg "_law_names" (topS 34))
    (d_l_odd : DefOf X mg "_law_odd" (topS 35))
    (d_l_is_name : DefOf X mg "_law_is_name" (topS 36))
    (d_l_spoilt : DefOf X mg "_law_spoilt" (topS 37))
    (d_l_wrong : DefOf X mg "_law_wrong" (topS 38))
    (d_l_refused : DefOf X mg "_law_refused" (topS 39))
    (d_l_asked : DefOf X mg "_law_asked" (topS 40))
    (d_l_is_none : DefOf X mg "_law_is_none" (topS 41))
    (d_l_errors_right : DefOf X mg "_law_errors_right" (topS 42))
    (d_l_right : DefOf X mg "_law_right" (topS 43))
    (d_law : DefOf X mg "law" (topS 44))
    (m_init : MethOf K C "__init__" "Book.__init__" (inBook 0))
    (m_has : MethOf K C "has" "Book.has" (inBook 4))
    (m_place_of : MethOf K C "place_of" "Book.place_of" (inBook 2))
    (m_persons : MethOf K C "persons" "Book.persons" (inBook 3))
    (m_given : MethOf K C "given" "Book.given" (inBook 5))
    (m_fallen : MethOf K C "fallen" "Book.fallen" (inBook 6))
    (m_notes : MethOf K C "notes" "Book.notes" (inBook 7))
    (m_pile : MethOf K C "pile" "Book.pile" (inBook 8))
    (m_whole_of : MethOf K C "whole_of" "Book.whole_of" (inBook 9))
    (m_fallen_to : MethOf K C "fallen_to" "Book.fallen_to" (inBook 10))
    (m_cash : MethOf K C "cash" "Book.cash" (inBook 11))
    (m_notes_left : MethOf K C "notes_left" "Book.notes_left" (inBook 17))
    (m_len : MethOf K C "__len__" "Book.__len__" (inBook 19))
    (c_LETTERS : ConOf mg "LETTERS" (.str "abcdefghijklmnopqrstuvwxyz"))
    (c_LONGEST : ConOf mg "LONGEST" (.int 8))
    (c_MOST : ConOf mg "MOST" (.int 60))
    (c_MOST_PERSONS : ConOf mg "MOST_PERSONS" (.int 12))
    (B : Blt mg)
    (B2 : Blt2 mg)
    (B3 : Blt3 mg)
    (xEr : ∃ a : Ea11, Er11 l.prog K mg a)
    (gAny : mg "any" = none) :
    ∃ fd : FuncData, (∀ (s : Shared) (v : Value), BindsTo s fd ⟨[v], []⟩ [("_law_script", v)]) ∧ ∀ base : Heap, K.In base → base.Ns mainGlobals mg → FnG l.prog w K mg base CX0 10 fa fd ["_law_script"] (spLaw K) := by
  obtain ⟨f_is_name, fd_is_name, F_is_name, g_is_name⟩ := d_is_name
  obtain ⟨f_check_persons, fd_check_persons, F_check_persons, g_check_persons⟩ := d_check_persons
  obtain ⟨f_split_notes, fd_split_notes, F_split_notes, g_split_notes⟩ := d_split_notes
  obtain ⟨f_l_pot, fd_l_pot, F_l_pot, g_l_pot⟩ := d_l_pot
  obtain ⟨f_l_take, fd_l_take, F_l_take, g_l_take⟩ := d_l_take
  obtain ⟨f_l_name, fd_l_name, F_l_name, g_l_name⟩ := d_l_name
  obtain ⟨f_l_names, fd_l_names, F_l_names, g_l_names⟩ := d_l_names
  obtain ⟨f_l_odd, fd_l_odd, F_l_odd, g_l_odd⟩ := d_l_odd
  obtain ⟨f_l_is_name, fd_l_is_name, F_l_is_name, g_l_is_name⟩ := d_l_is_name
  obtain ⟨f_l_spoilt, fd_l_spoilt, F_l_spoilt, g_l_spoilt⟩ := d_l_spoilt
  obtain ⟨f_l_wrong, fd_l_wrong, F_l_wrong, g_l_wrong⟩ := d_l_wrong
  obtain ⟨f_l_refused, fd_l_refused, F_l_refused, g_l_refused⟩ := d_l_refused
  obtain ⟨f_l_asked, fd_l_asked, F_l_asked, g_l_asked⟩ := d_l_asked
  obtain ⟨f_l_is_none, fd_l_is_none, F_l_is_none, g_l_is_none⟩ := d_l_is_none
  obtain ⟨f_l_errors_right, fd_l_errors_right, F_l_errors_right, g_l_errors_right⟩ := d_l_errors_right
  obtain ⟨f_l_right, fd_l_right, F_l_right, g_l_right⟩ := d_l_right
  obtain ⟨f_law, fd_law, F_law, g_law⟩ := d_law
  obtain ⟨f_init, fd_init, F_init, M_init⟩ := m_init
  obtain ⟨f_has, fd_has, F_has, M_has⟩ := m_has
  obtain ⟨f_place_of, fd_place_of, F_place_of, M_place_of⟩ := m_place_of
  obtain ⟨f_persons, fd_persons, F_persons, M_persons⟩ := m_persons
  obtain ⟨f_given, fd_given, F_given, M_given⟩ := m_given
  obtain ⟨f_fallen, fd_fallen, F_fallen, M_fallen⟩ := m_fallen
  obtain ⟨f_notes, fd_notes, F_notes, M_notes⟩ := m_notes
  obtain ⟨f_pile, fd_pile, F_pile, M_pile⟩ := m_pile
  obtain ⟨f_whole_of, fd_whole_of, F_whole_of, M_whole_of⟩ := m_whole_of
  obtain ⟨f_fallen_to, fd_fallen_to, F_fallen_to, M_fallen_to⟩ := m_fallen_to
  obtain ⟨f_cash, fd_cash, F_cash, M_cash⟩ := m_cash
  obtain ⟨f_notes_left, fd_notes_left, F_notes_left, M_notes_left⟩ := m_notes_left
  obtain ⟨f_len, fd_len, F_len, M_len⟩ := m_len
  obtain ⟨u_LETTERS, g_LETTERS, t_LETTERS, rfl⟩ := c_LETTERS
  obtain ⟨u_LONGEST, g_LONGEST, t_LONGEST, rfl⟩ := c_LONGEST
  obtain ⟨u_MOST, g_MOST, t_MOST, rfl⟩ := c_MOST
  obtain ⟨u_MOST_PERSONS, g_MOST_PERSONS, t_MOST_PERSONS, rfl⟩ := c_MOST_PERSONS
  obtain ⟨EA, ER⟩ := xEr
  have e := hfa.symm.trans g_law
  cases e
  refine ⟨fd_law, fun s v => ?_, fun base _ _ => ?_⟩
  · obtain ⟨oc, od, kV, doc, pm, an, cdv, ct, osl, rfl, lk, hcd⟩ := F_law.ex
    exact .of_eq rfl
  · have T := TC.T
    have NM : Has l.prog w K mg base 1 "is_name" ["thing"] (spBool K nameD) f_is_name fd_is_name := ⟨ok_name F_is_name B ⟨t_LETTERS, g_LETTERS⟩ ⟨t_LONGEST, g_LONGEST⟩, g_is_name, F_is_name.kp, (bind1 F_is_name fun _ _ _ _ _ _ _ => rfl)⟩
    have CKP : Has l.prog w K mg base 2 "check_persons" ["persons"] (spCheckP K) f_check_persons fd_check_persons := ⟨ok_checkP F_check_persons B B3 ⟨t_MOST_PERSONS, g_MOST_PERSONS⟩ NM, g_check_persons, F_check_persons.kp, (bind1 F_check_persons fun _ _ _ _ _ _ _ => rfl)⟩
    have SPL : Has l.prog w K mg base 1 "split_notes" ["notes", "fallen"] (spSplit K) f_split_notes fd_split_notes := ⟨ok_split F_split_notes B2, g_split_notes, F_split_notes.kp, (bind2 F_split_notes fun _ _ _ _ _ _ _ _ => rfl)⟩
    have GI : FnOk l.prog w K mg base CX0 3 f_init fd_init ["self", "persons"] (spInit K C) := ok_init F_init T B B3 CKP
    have bI : Binds K fd_init ["self", "persons"] [] := (bind2 F_init fun _ _ _ _ _ _ _ _ => rfl)
    have MK : Mk K C f_init := ⟨TC.makes, M_init.at_, M_init.fn, TC.kp⟩
    have HS : HasM l.prog w K mg base C 2 "has" ["self", "who"] (spHas K C) f_has fd_has := ⟨ok_has F_has T NM, M_has, (bind2 F_has fun _ _ _ _ _ _ _ _ => rfl)⟩
    have PL : HasM l.prog w K mg base C 3 "place_of" ["self", "who"] (spPlace K C) f_place_of fd_place_of := ⟨ok_place F_place_of T HS, M_place_of, (bind2 F_place_of fun _ _ _ _ _ _ _ _ => rfl)⟩
    have PS : HasM l.prog w K mg base C 1 "persons" ["self"] (spPersons K C) f_persons fd_persons := ⟨ok_persons F_persons T B3, M_persons, (bind1 F_persons fun _ _ _ _ _ _ _ => rfl)⟩
    have GV : HasM l.prog w K mg base C 4 "given" ["self", "who"] (spNum K C Bk.gifts) f_given fd_given := ⟨ok_given F_given T PL, M_given, (bind2 F_given fun _ _ _ _ _ _ _ _ => rfl)⟩
    have FL : HasM l.prog w K mg base C 4 "fallen" ["self", "who"] (spNum K C Bk.drops) f_fallen fd_fallen := ⟨ok_fallen F_fallen T PL, M_fallen, (bind2 F_fallen fun _ _ _ _ _ _ _ _ => rfl)⟩
    have NT : HasM l.prog w K mg base C 4 "notes" ["self", "who"] (spRow K C fun l _ => l) f_notes fd_notes := ⟨ok_notes F_notes T B3 PL, M_notes, (bind2 F_notes fun _ _ _ _ _ _ _ _ => rfl)⟩
    have PI : HasM l.prog w K mg base C 5 "pile" ["self", "who"] (spRow K C leftN) f_pile fd_pile := ⟨ok_pile F_pile T SPL NT FL, M_pile, (bind2 F_pile fun _ _ _ _ _ _ _ _ => rfl)⟩
    have FT : HasM l.prog w K mg base C 4 "fallen_to" ["self", "who"] (spCalc K C fun M _ z => fallTo M z) f_fallen_to fd_fallen_to := ⟨ok_fallTo F_fallen_to T B3 PL SPL, M_fallen_to, (bind2 F_fallen_to fun _ _ _ _ _ _ _ _ => rfl)⟩
    have CS : HasM l.prog w K mg base C 5 "cash" ["self", "who"] (spCalc K C cashM) f_cash fd_cash := ⟨ok_cash F_cash T GV FT FL, M_cash, (bind2 F_cash fun _ _ _ _ _ _ _ _ => rfl)⟩
    have WO : HasM l.prog w K mg base C 5 "whole_of" ["self", "who"] (spCalc K C fun M j _ => wholeN (M.stacks.getD j [])) f_whole_of fd_whole_of := ⟨ok_whOf F_whole_of T B3 NT, M_whole_of, (bind2 F_whole_of fun _ _ _ _ _ _ _ _ => rfl)⟩
    have NLS : HasM l.prog w K mg base C 6 "notes_left" ["self"] (spLefts K C) f_notes_left fd_notes_left := ⟨ok_lefts F_notes_left T PI, M_notes_left, (bind1 F_notes_left fun _ _ _ _ _ _ _ => rfl)⟩
    have LEN : HasM l.prog w K mg base C 7 "__len__" ["self"] (spLenB K C) f_len fd_len := ⟨ok_lenB F_len T B NLS, M_len, (bind1 F_len fun _ _ _ _ _ _ _ => rfl)⟩
    have CKX : FnOk l.prog w K mg base (L2.CX l.prog w) 2 f_check_persons fd_check_persons ["persons"] (spCkX K EA.O) := no_checkP F_check_persons B B3 ER.o ⟨t_MOST_PERSONS, g_MOST_PERSONS⟩ NM
    have GIX : FnOk l.prog w K mg base (L2.CX l.prog w) 3 f_init fd_init ["self", "persons"] (spInX K EA.O) := no_init (C := C) F_init ⟨CKX, g_check_persons, F_check_persons.kp, (bind1 F_check_persons fun _ _ _ _ _ _ _ => rfl)⟩
    have GIO : FnOk l.prog w K mg base (L2.CX l.prog w) 3 f_init fd_init ["self", "persons"] (spInO K C EA.O) := fnOr (FnOk.up GI) GIX
    have PLN : HasMX l.prog w K mg base C 3 "place_of" ["self", "who"] (spNo K C EA.S) f_place_of fd_place_of := ⟨no_place F_place_of T ER.s HS, M_place_of, (bind2 F_place_of fun _ _ _ _ _ _ _ _ => rfl)⟩
    have NTN : HasMX l.prog w K mg base C 4 "notes" ["self", "who"] (spNo K C EA.S) f_notes fd_notes := ⟨no_notes F_notes T B3 PLN, M_notes, (bind2 F_notes fun _ _ _ _ _ _ _ _ => rfl)⟩
    have PIN : HasMX l.prog w K mg base C 5 "pile" ["self", "who"] (spNo K C EA.S) f_pile fd_pile := ⟨no_pile F_pile T SPL NTN, M_pile, (bind2 F_pile fun _ _ _ _ _ _ _ _ => rfl)⟩
    have GVN : HasMX l.prog w K mg base C 4 "given" ["self", "who"] (spNo K C EA.S) f_given fd_given := ⟨no_given F_given T PLN, M_given, (bind2 F_given fun _ _ _ _ _ _ _ _ => rfl)⟩
    have FLN : HasMX l.prog w K mg base C 4 "fallen" ["self", "who"] (spNo K C EA.S) f_fallen fd_fallen := ⟨no_fallen F_fallen T PLN, M_fallen, (bind2 F_fallen fun _ _ _ _ _ _ _ _ => rfl)⟩
    have FTN : HasMX l.prog w K mg base C 4 "fallen_to" ["self", "who"] (spNo K C EA.S) f_fallen_to fd_fallen_to := ⟨no_fallTo F_fallen_to T PLN, M_fallen_to, (bind2 F_fallen_to fun _ _ _ _ _ _ _ _ => rfl)⟩
    have CSN : HasMX l.prog w K mg base C 5 "cash" ["self", "who"] (spNo K C EA.S) f_cash fd_cash := ⟨no_cash F_cash T GVN, M_cash, (bind2 F_cash fun _ _ _ _ _ _ _ _ => rfl)⟩
    have WON : HasMX l.prog w K mg base C 5 "whole_of" ["self", "who"] (spNo K C EA.S) f_whole_of fd_whole_of := ⟨no_whOf F_whole_of T B3 NTN, M_whole_of, (bind2 F_whole_of fun _ _ _ _ _ _ _ _ => rfl)⟩
    have LP : Has l.prog w K mg base 3 "_law_pot" ["_law_script", "_law_k"] (spPot K) f_l_pot fd_l_pot := ⟨ok_pot F_l_pot B B2, g_l_pot, F_l_pot.kp, (bind2 F_l_pot fun _ _ _ _ _ _ _ _ => rfl)⟩
    have TK : HasTake l.prog w K mg base f_l_take fd_l_take := ⟨ok_take F_l_take B2, g_l_take, F_l_take.kp, (bind2 F_l_take fun _ _ _ _ _ _ _ _ => rfl)⟩
    have LNM : Has l.prog w K mg base 2 "_law_name" ["_law_pot_here", "_law_used"] spLNm f_l_name fd_l_name := ⟨ok_lnm F_l_name B B2 TK, g_l_name, F_l_name.kp, (bind2 F_l_name fun _ _ _ _ _ _ _ _ => rfl)⟩
    have LNS : Has l.prog w K mg base 3 "_law_names" ["_law_pot_here", "_law_many"] spLNms f_l_names fd_l_names := ⟨ok_lnms F_l_names B2 LNM, g_l_names, F_l_names.kp, (bind2 F_l_names fun _ _ _ _ _ _ _ _ => rfl)⟩
    have LOD : Has l.prog w K mg base 2 "_law_odd" ["_law_pot_here"] (spLOd K) f_l_odd fd_l_odd := ⟨ok_lod F_l_odd B TK, g_l_odd, F_l_odd.kp, (bind1 F_l_odd fun _ _ _ _ _ _ _ => rfl)⟩
    have LIN : Has l.prog w K mg base 1 "_law_is_name" ["_law_thing"] (spIn11 K) f_l_is_name fd_l_is_name := ⟨ok_lin F_l_is_name B, g_l_is_name, F_l_is_name.kp, (bind1 F_l_is_name fun _ _ _ _ _ _ _ => rfl)⟩
    have LSO : Has l.prog w K mg base 3 "_law_spoilt" ["_law_pot_here", "_law_names_here"] (spLSo K) f_l_spoilt fd_l_spoilt := ⟨ok_lso F_l_spoilt B B3 TK LOD, g_l_spoilt, F_l_spoilt.kp, (bind2 F_l_spoilt fun _ _ _ _ _ _ _ _ => rfl)⟩
    have LWR : Has l.prog w K mg base 2 "_law_wrong" ["_law_thing"] (spLWr11 K) f_l_wrong fd_l_wrong := ⟨ok_lwr F_l_wrong B B3 LIN, g_l_wrong, F_l_wrong.kp, (bind1 F_l_wrong fun _ _ _ _ _ _ _ => rfl)⟩
    have LRF : Has l.prog w K mg base 5 "_law_refused" ["_law_thing"] (spLRf K) f_l_refused fd_l_refused := ⟨ok_lrf F_l_refused B ER.o ER.eo ER.so ER.gB ER.oB ER.gV ER.oV MK TC.g GIO bI, g_l_refused, F_l_refused.kp, (bind1 F_l_refused fun _ _ _ _ _ _ _ => rfl)⟩
    have LAK : HasX l.prog w K mg base 6 "_law_asked" ["_law_book", "_law_way", "_law_who"] (spAk11 K C EA.S) f_l_asked fd_l_asked := ⟨no_asked F_l_asked T CSN FLN GVN PIN NTN WON FTN, g_l_asked, F_l_asked.kp, (bind3 F_l_asked fun _ _ _ _ _ _ _ _ _ => rfl)⟩
    have LNO : HasG l.prog w K mg base 7 "_law_is_none" ["_law_book", "_law_way", "_law_who"] (spNo11 K C) f_l_is_none fd_l_is_none := ⟨ok_lno F_l_is_none B B2 ER.s ER.es ER.ss ER.gB ER.r.gC ER.sR LAK, g_l_is_none, F_l_is_none.kp, (bind3 F_l_is_none fun _ _ _ _ _ _ _ _ _ => rfl)⟩
    have LER : HasG l.prog w K mg base 2 "_law_errors_right" [] spLEr f_l_errors_right fd_l_errors_right := ⟨ok_ler F_l_errors_right B B2 ⟨t_MOST, g_MOST⟩ ER, g_l_errors_right, F_l_errors_right.kp, (bind0 F_l_errors_right fun _ _ _ _ _ _ => rfl)⟩
    have LRT : HasG l.prog w K mg base 9 "_law_right" ["_law_pot_here", "_law_names_here"] spLRt11 f_l_right fd_l_right := ⟨ok_lrt F_l_right T B B2 B3 gAny MK TC.g GI bI PS LEN CS FL GV WO FT PI NT HS LNS LOD LNO, g_l_right, F_l_right.kp, (bind2 F_l_right fun _ _ _ _ _ _ _ _ => rfl)⟩
    exact ok_law F_law B B2 TK LP LNS LSO LWR LRF LER LRT
end Rc

set_option pp.maxSteps 300
set_option pp.deepTerms false
open PySem PySem.W PyProof.Rows
set_option maxHeartbeats 0 in
theorem PySem.Challenge.cw_ringclear_k11_made_and_told_holds : PySem.Challenge.rw_ringclear_k11_made_and_told.Holds := by
  w_on; o_law; k_head; (case hw => w_witness2)
  k_fill
  refine Rc.walk_ofG (l := PySem.Challenge.rw_ringclear_k11_made_and_told) (n := 63) (k := 10) (x := "_law_script") (CX := fun _ => L2.CX0) (sp := fun w => Rc.spLaw _) rfl (by decide) rfl ⟨rfl, by decide, by decide⟩ (fun w h Y => PySem.W.kIn_of Y) ?F (fun _ _ a ns hl _ hS => ⟨a, ns, rfl, hS, hl, fun _ => rfl⟩) (fun _ _ _ _ _ h => h)
  case F =>
    intro w mg fa h KX G hmg
    refine' Rc.all_mk KX hmg ?TC ?d_is_name ?d_check_persons ?d_split_notes ?d_l_pot ?d_l_take ?d_l_name ?d_l_names ?d_l_odd ?d_l_is_name ?d_l_spoilt ?d_l_wrong ?d_l_refused ?d_l_asked ?d_l_is_none ?d_l_errors_right ?d_l_right ?d_law ?m_init ?m_has ?m_place_of ?m_persons ?m_given ?m_fallen ?m_notes ?m_pile ?m_whole_of ?m_fallen_to ?m_cash ?m_notes_left ?m_len ?c_LETTERS ?c_LONGEST ?c_MOST ?c_MOST_PERSONS ?B ?B2 ?B3 ?xEr ?gAny
    case TC => (refine' Rc.mkTop KX G ?tcA ?tcPg ?tcHd ?tcPo ?tcSa ?tcMk ?tcKc ?tcN1 ?tcN2 ?tcN3 ?tcN4; (case tcA => k_is); (case tcPg => k_is); (case tcHd => k_is); (case tcPo => k_is); (case tcSa => k_is); (case tcMk => k_is); (case tcKc => k_is); (case tcN1 => k_is); (case tcN2 => k_is); (case tcN3 => k_is); (case tcN4 => k_is))
    case c_LETTERS => (refine' Rc.con_of KX G ?ca_LETTERS ?cr_LETTERS; (case ca_LETTERS => k_is); (case cr_LETTERS => exact ⟨_, rfl⟩))
    case c_LONGEST => (refine' Rc.con_of KX G ?ca_LONGEST ?cr_LONGEST; (case ca_LONGEST => k_is); (case cr_LONGEST => exact ⟨_, rfl⟩))
    case c_MOST => (refine' Rc.con_of KX G ?ca_MOST ?cr_MOST; (case ca_MOST => k_is); (case cr_MOST => exact ⟨_, rfl⟩))
    case c_MOST_PERSONS => (refine' Rc.con_of KX G ?ca_MOST_PERSONS ?cr_MOST_PERSONS; (case ca_MOST_PERSONS => k_is); (case cr_MOST_PERSONS => exact ⟨_, rfl⟩))
    case B => (refine' ⟨PySem.W.mg_none_of KX G ?Bz0, PySem.W.mg_none_of KX G ?Bz1, PySem.W.mg_none_of KX G ?Bz2, PySem.W.mg_none_of KX G ?Bz3, PySem.W.mg_none_of KX G ?Bz4, PySem.W.mg_none_of KX G ?Bz5⟩; (case Bz0 => k_is); (case Bz1 => k_is); (case Bz2 => k_is); (case Bz3 => k_is); (case Bz4 => k_is); (case Bz5 => k_is))
    case B2 => (refine' ⟨PySem.W.mg_none_of KX G ?B2z0, PySem.W.mg_none_of KX G ?B2z1, PySem.W.mg_none_of KX G ?B2z2, PySem.W.mg_none_of KX G ?B2z3, PySem.W.mg_none_of KX G ?B2z4, PySem.W.mg_none_of KX G ?B2z5⟩; (case B2z0 => k_is); (case B2z1 => k_is); (case B2z2 => k_is); (case B2z3 => k_is); (case B2z4 => k_is); (case B2z5 => k_is))
    case B3 => (refine' ⟨PySem.W.mg_none_of KX G ?B3z0, PySem.W.mg_none_of KX G ?B3z1, PySem.W.mg_none_of KX G ?B3z2, PySem.W.mg_none_of KX G ?B3z3, PySem.W.mg_none_of KX G ?B3z4, PySem.W.mg_none_of KX G ?B3z5⟩; (case B3z0 => k_is); (case B3z1 => k_is); (case B3z2 => k_is); (case B3z3 => k_is); (case B3z4 => k_is); (case B3z5 => k_is))
    case d_is_name => (refine' Rc.mkDef KX G ?a_d_is_name ?l_d_is_name ?c_d_is_name ?k_d_is_name; (case a_d_is_name => k_is); (case l_d_is_name => k_is); (case c_d_is_name => k_is); (case k_d_is_name => k_is))
    case d_check_persons => (refine' Rc.mkDef KX G ?a_d_check_persons ?l_d_check_persons ?c_d_check_persons ?k_d_check_persons; (case a_d_check_persons => k_is); (case l_d_check_persons => k_is); (case c_d_check_persons => k_is); (case k_d_check_persons => k_is))
    case d_split_notes => (refine' Rc.mkDef KX G ?a_d_split_notes ?l_d_split_notes ?c_d_split_notes ?k_d_split_notes; (case a_d_split_notes => k_is); (case l_d_split_notes => k_is); (case c_d_split_notes => k_is); (case k_d_split_notes => k_is))
    case d_l_pot => (refine' Rc.mkDef KX G ?a_d_l_pot ?l_d_l_pot ?c_d_l_pot ?k_d_l_pot; (case a_d_l_pot => k_is); (case l_d_l_pot => k_is); (case c_d_l_pot => k_is); (case k_d_l_pot => k_is))
    case d_l_take => (refine' Rc.mkDef KX G ?a_d_l_take ?l_d_l_take ?c_d_l_take ?k_d_l_take; (case a_d_l_take => k_is); (case l_d_l_take => k_is); (case c_d_l_take => k_is); (case k_d_l_take => k_is))
    case d_l_name => (refine' Rc.mkDef KX G ?a_d_l_name ?l_d_l_name ?c_d_l_name ?k_d_l_name; (case a_d_l_name => k_is); (case l_d_l_name => k_is); (case c_d_l_name => k_is); (case k_d_l_name => k_is))
    case d_l_names => (refine' Rc.mkDef KX G ?a_d_l_names ?l_d_l_names ?c_d_l_names ?k_d_l_names; (case a_d_l_names => k_is); (case l_d_l_names => k_is); (case c_d_l_names => k_is); (case k_d_l_names => k_is))
    case d_l_odd => (refine' Rc.mkDef KX G ?a_d_l_odd ?l_d_l_odd ?c_d_l_odd ?k_d_l_odd; (case a_d_l_odd => k_is); (case l_d_l_odd => k_is); (case c_d_l_odd => k_is); (case k_d_l_odd => k_is))
    case d_l_is_name => (refine' Rc.mkDef KX G ?a_d_l_is_name ?l_d_l_is_name ?c_d_l_is_name ?k_d_l_is_name; (case a_d_l_is_name => k_is); (case l_d_l_is_name => k_is); (case c_d_l_is_name => k_is); (case k_d_l_is_name => k_is))
    case d_l_spoilt => (refine' Rc.mkDef KX G ?a_d_l_spoilt ?l_d_l_spoilt ?c_d_l_spoilt ?k_d_l_spoilt; (case a_d_l_spoilt => k_is); (case l_d_l_spoilt => k_is); (case c_d_l_spoilt => k_is); (case k_d_l_spoilt => k_is))
    case d_l_wrong => (refine' Rc.mkDef KX G ?a_d_l_wrong ?l_d_l_wrong ?c_d_l_wrong ?k_d_l_wrong; (case a_d_l_wrong => k_is); (case l_d_l_wrong => k_is); (case c_d_l_wrong => k_is); (case k_d_l_wrong => k_is))
    case d_l_refused => (refine' Rc.mkDef KX G ?a_d_l_refused ?l_d_l_refused ?c_d_l_refused ?k_d_l_refused; (case a_d_l_refused => k_is); (case l_d_l_refused => k_is); (case c_d_l_refused => k_is); (case k_d_l_refused => k_is))
    case d_l_asked => (refine' Rc.mkDef KX G ?a_d_l_asked ?l_d_l_asked ?c_d_l_asked ?k_d_l_asked; (case a_d_l_asked => k_is); (case l_d_l_asked => k_is); (case c_d_l_asked => k_is); (case k_d_l_asked => k_is))
    case d_l_is_none => (refine' Rc.mkDef KX G ?a_d_l_is_none ?l_d_l_is_none ?c_d_l_is_none ?k_d_l_is_none; (case a_d_l_is_none => k_is); (case l_d_l_is_none => k_is); (case c_d_l_is_none => k_is); (case k_d_l_is_none => k_is))
    case d_l_errors_right => (refine' Rc.mkDef KX G ?a_d_l_errors_right ?l_d_l_errors_right ?c_d_l_errors_right ?k_d_l_errors_right; (case a_d_l_errors_right => k_is); (case l_d_l_errors_right => k_is); (case c_d_l_errors_right => k_is); (case k_d_l_errors_right => k_is))
    case d_l_right => (refine' Rc.mkDef KX G ?a_d_l_right ?l_d_l_right ?c_d_l_right ?k_d_l_right; (case a_d_l_right => k_is); (case l_d_l_right => k_is); (case c_d_l_right => k_is); (case k_d_l_right => k_is))
    case d_law => (refine' Rc.mkDef KX G ?a_d_law ?l_d_law ?c_d_law ?k_d_law; (case a_d_law => k_is); (case l_d_law => k_is); (case c_d_law => k_is); (case k_d_law => k_is))
    case m_init => (refine' Rc.mkMeth ?a_m_init ?i_m_init ?l_m_init ?c_m_init ?k_m_init; (case a_m_init => k_is); (case i_m_init => k_is); (case l_m_init => k_is); (case c_m_init => k_is); (case k_m_init => k_is))
    case m_has => (refine' Rc.mkMeth ?a_m_has ?i_m_has ?l_m_has ?c_m_has ?k_m_has; (case a_m_has => k_is); (case i_m_has => k_is); (case l_m_has => k_is); (case c_m_has => k_is); (case k_m_has => k_is))
    case m_place_of => (refine' Rc.mkMeth ?a_m_place_of ?i_m_place_of ?l_m_place_of ?c_m_place_of ?k_m_place_of; (case a_m_place_of => k_is); (case i_m_place_of => k_is); (case l_m_place_of => k_is); (case c_m_place_of => k_is); (case k_m_place_of => k_is))
    case m_persons => (refine' Rc.mkMeth ?a_m_persons ?i_m_persons ?l_m_persons ?c_m_persons ?k_m_persons; (case a_m_persons => k_is); (case i_m_persons => k_is); (case l_m_persons => k_is); (case c_m_persons => k_is); (case k_m_persons => k_is))
    case m_given => (refine' Rc.mkMeth ?a_m_given ?i_m_given ?l_m_given ?c_m_given ?k_m_given; (case a_m_given => k_is); (case i_m_given => k_is); (case l_m_given => k_is); (case c_m_given => k_is); (case k_m_given => k_is))
    case m_fallen => (refine' Rc.mkMeth ?a_m_fallen ?i_m_fallen ?l_m_fallen ?c_m_fallen ?k_m_fallen; (case a_m_fallen => k_is); (case i_m_fallen => k_is); (case l_m_fallen => k_is); (case c_m_fallen => k_is); (case k_m_fallen => k_is))
    case m_notes => (refine' Rc.mkMeth ?a_m_notes ?i_m_notes ?l_m_notes ?c_m_notes ?k_m_notes; (case a_m_notes => k_is); (case i_m_notes => k_is); (case l_m_notes => k_is); (case c_m_notes => k_is); (case k_m_notes => k_is))
    case m_pile => (refine' Rc.mkMeth ?a_m_pile ?i_m_pile ?l_m_pile ?c_m_pile ?k_m_pile; (case a_m_pile => k_is); (case i_m_pile => k_is); (case l_m_pile => k_is); (case c_m_pile => k_is); (case k_m_pile => k_is))
    case m_whole_of => (refine' Rc.mkMeth ?a_m_whole_of ?i_m_whole_of ?l_m_whole_of ?c_m_whole_of ?k_m_whole_of; (case a_m_whole_of => k_is); (case i_m_whole_of => k_is); (case l_m_whole_of => k_is); (case c_m_whole_of => k_is); (case k_m_whole_of => k_is))
    case m_fallen_to => (refine' Rc.mkMeth ?a_m_fallen_to ?i_m_fallen_to ?l_m_fallen_to ?c_m_fallen_to ?k_m_fallen_to; (case a_m_fallen_to => k_is); (case i_m_fallen_to => k_is); (case l_m_fallen_to => k_is); (case c_m_fallen_to => k_is); (case k_m_fallen_to => k_is))
    case m_cash => (refine' Rc.mkMeth ?a_m_cash ?i_m_cash ?l_m_cash ?c_m_cash ?k_m_cash; (case a_m_cash => k_is); (case i_m_cash => k_is); (case l_m_cash => k_is); (case c_m_cash => k_is); (case k_m_cash => k_is))
    case m_notes_left => (refine' Rc.mkMeth ?a_m_notes_left ?i_m_notes_left ?l_m_notes_left ?c_m_notes_left ?k_m_notes_left; (case a_m_notes_left => k_is); (case i_m_notes_left => k_is); (case l_m_notes_left => k_is); (case c_m_notes_left => k_is); (case k_m_notes_left => k_is))
    case m_len => (refine' Rc.mkMeth ?a_m_len ?i_m_len ?l_m_len ?c_m_len ?k_m_len; (case a_m_len => k_is); (case i_m_len => k_is); (case l_m_len => k_is); (case c_m_len => k_is); (case k_m_len => k_is))
    case xEr => (refine' Rc.mkEr11 (Rc.mkCx KX G ?xsO_a ?xsO_a1 ?xsO_a2 ?xsO_a3 ?xsO_a4 ?xsO_a5 ?xsO_a6 ?xsO_a7 ?xsO_a8 ?xsO_a9 ?xsO_b1 ?xsO_b2 ?xsO_b3 ?xsO_b4 ?xsO_b5 ?xsO_b6 ?xsO_b7 ?xsO_i1 ?xsO_i2 ?xsO_i3 ?xsO_i4 ?xsO_i5 ?xsO_i6 ?xsO_i7 ?xsO_i8) (Rc.mkCx KX G ?xsS_a ?xsS_a1 ?xsS_a2 ?xsS_a3 ?xsS_a4 ?xsS_a5 ?xsS_a6 ?xsS_a7 ?xsS_a8 ?xsS_a9 ?xsS_b1 ?xsS_b2 ?xsS_b3 ?xsS_b4 ?xsS_b5 ?xsS_b6 ?xsS_b7 ?xsS_i1 ?xsS_i2 ?xsS_i3 ?xsS_i4 ?xsS_i5 ?xsS_i6 ?xsS_i7 ?xsS_i8) (Rc.mkCx KX G ?xsX_a ?xsX_a1 ?xsX_a2 ?xsX_a3 ?xsX_a4 ?xsX_a5 ?xsX_a6 ?xsX_a7 ?xsX_a8 ?xsX_a9 ?xsX_b1 ?xsX_b2 ?xsX_b3 ?xsX_b4 ?xsX_b5 ?xsX_b6 ?xsX_b7 ?xsX_i1 ?xsX_i2 ?xsX_i3 ?xsX_i4 ?xsX_i5 ?xsX_i6 ?xsX_i7 ?xsX_i8) (Rc.mkCx KX G ?xsR_a ?xsR_a1 ?xsR_a2 ?xsR_a3 ?xsR_a4 ?xsR_a5 ?xsR_a6 ?xsR_a7 ?xsR_a8 ?xsR_a9 ?xsR_b1 ?xsR_b2 ?xsR_b3 ?xsR_b4 ?xsR_b5 ?xsR_b6 ?xsR_b7 ?xsR_i1 ?xsR_i2 ?xsR_i3 ?xsR_i4 ?xsR_i5 ?xsR_i6 ?xsR_i7 ?xsR_i8) (Rc.mkCx KX G ?xsF_a ?xsF_a1 ?xsF_a2 ?xsF_a3 ?xsF_a4 ?xsF_a5 ?xsF_a6 ?xsF_a7 ?xsF_a8 ?xsF_a9 ?xsF_b1 ?xsF_b2 ?xsF_b3 ?xsF_b4 ?xsF_b5 ?xsF_b6 ?xsF_b7 ?xsF_i1 ?xsF_i2 ?xsF_i3 ?xsF_i4 ?xsF_i5 ?xsF_i6 ?xsF_i7 ?xsF_i8) (Rc.mkCx KX G ?xsT_a ?xsT_a1 ?xsT_a2 ?xsT_a3 ?xsT_a4 ?xsT_a5 ?xsT_a6 ?xsT_a7 ?xsT_a8 ?xsT_a9 ?xsT_b1 ?xsT_b2 ?xsT_b3 ?xsT_b4 ?xsT_b5 ?xsT_b6 ?xsT_b7 ?xsT_i1 ?xsT_i2 ?xsT_i3 ?xsT_i4 ?xsT_i5 ?xsT_i6 ?xsT_i7 ?xsT_i8) (Rc.mkCx KX G ?xsH_a ?xsH_a1 ?xsH_a2 ?xsH_a3 ?xsH_a4 ?xsH_a5 ?xsH_a6 ?xsH_a7 ?xsH_a8 ?xsH_a9 ?xsH_b1 ?xsH_b2 ?xsH_b3 ?xsH_b4 ?xsH_b5 ?xsH_b6 ?xsH_b7 ?xsH_i1 ?xsH_i2 ?xsH_i3 ?xsH_i4 ?xsH_i5 ?xsH_i6 ?xsH_i7 ?xsH_i8) (Rc.mkCx KX G ?xsD_a ?xsD_a1 ?xsD_a2 ?xsD_a3 ?xsD_a4 ?xsD_a5 ?xsD_a6 ?xsD_a7 ?xsD_a8 ?xsD_a9 ?xsD_b1 ?xsD_b2 ?xsD_b3 ?xsD_b4 ?xsD_b5 ?xsD_b6 ?xsD_b7 ?xsD_i1 ?xsD_i2 ?xsD_i3 ?xsD_i4 ?xsD_i5 ?xsD_i6 ?xsD_i7 ?xsD_i8) (Rc.mkClsP KX G ?xsA_a ?xsA_a1 ?xsA_a2 ?xsA_a3 ?xsA_a4 ?xsA_a5 ?xsA_a6 ?xsA_a7 ?xsA_a8 ?xsA_a9 ?xsA_b1 ?xsA_b2 ?xsA_b3 ?xsA_b4 ?xsA_b5) (Rc.mkClsP KX G ?xsP_a ?xsP_a1 ?xsP_a2 ?xsP_a3 ?xsP_a4 ?xsP_a5 ?xsP_a6 ?xsP_a7 ?xsP_a8 ?xsP_a9 ?xsP_b1 ?xsP_b2 ?xsP_b3 ?xsP_b4 ?xsP_b5) (Rc.mkClsP KX G ?xsV_a ?xsV_a1 ?xsV_a2 ?xsV_a3 ?xsV_a4 ?xsV_a5 ?xsV_a6 ?xsV_a7 ?xsV_a8 ?xsV_a9 ?xsV_b1 ?xsV_b2 ?xsV_b3 ?xsV_b4 ?xsV_b5) (Rc.mkClsP KX G ?xsW_a ?xsW_a1 ?xsW_a2 ?xsW_a3 ?xsW_a4 ?xsW_a5 ?xsW_a6 ?xsW_a7 ?xsW_a8 ?xsW_a9 ?xsW_b1 ?xsW_b2 ?xsW_b3 ?xsW_b4 ?xsW_b5) (Rc.mkClsP KX G ?xsK_a ?xsK_a1 ?xsK_a2 ?xsK_a3 ?xsK_a4 ?xsK_a5 ?xsK_a6 ?xsK_a7 ?xsK_a8 ?xsK_a9 ?xsK_b1 ?xsK_b2 ?xsK_b3 ?xsK_b4 ?xsK_b5) ?xsu_clO ?xsu_obO ?xsu_clS ?xsu_obS ?xsu_clX ?xsu_obX ?xsu_clR ?xsu_obR ?xsu_clF ?xsu_obF ?xsu_clT ?xsu_obT ?xsu_clH ?xsu_obH ?xsu_clD ?xsu_obD ?xsu_soO ?xsu_soS ?xsu_oB ?xsu_oV ?xsu_sB ?xsu_sR ?xsu_kxV ?xsu_rL ?xsu_rB ?xsu_rS ?xsu_fR ?xsu_tR ?xsu_hA ?xsu_dA ?xsu_fB ?xsu_fT ?xsu_hB ?xsu_hD (PySem.W.mg_none_of KX G ?xsu_gV) (PySem.W.mg_none_of KX G ?xsu_gL) (PySem.W.mg_none_of KX G ?xsu_gRt) (PySem.W.mg_none_of KX G ?xsu_gA); (case xsO_a => k_is); (case xsO_a1 => kx_is); (case xsO_a2 => kx_is); (case xsO_a3 => k_is); (case xsO_a4 => k_is); (case xsO_a5 => k_is); (case xsO_a6 => k_is); (case xsO_a7 => (refine' Rc.all2 ?xsO_a7f0 ?xsO_a7f1; (case xsO_a7f0 => k_is); (case xsO_a7f1 => k_is))); (case xsO_a8 => k_is); (case xsO_a9 => k_is); (case xsO_b1 => k_is); (case xsO_b2 => k_is); (case xsO_b3 => k_is); (case xsO_b4 => k_is); (case xsO_b5 => ks_is); (case xsO_b6 => k_is); (case xsO_b7 => (first | rfl | decide +kernel)); (case xsO_i1 => k_is); (case xsO_i2 => k_is); (case xsO_i3 => k_is); (case xsO_i4 => k_is); (case xsO_i5 => k_is); (case xsO_i6 => k_is); (case xsO_i7 => rfl); (case xsO_i8 => (first | rfl | decide +kernel)); (case xsS_a => k_is); (case xsS_a1 => kx_is); (case xsS_a2 => kx_is); (case xsS_a3 => k_is); (case xsS_a4 => k_is); (case xsS_a5 => k_is); (case xsS_a6 => k_is); (case xsS_a7 => (refine' Rc.all1 ?xsS_a7f0; (case xsS_a7f0 => k_is))); (case xsS_a8 => k_is); (case xsS_a9 => k_is); (case xsS_b1 => k_is); (case xsS_b2 => k_is); (case xsS_b3 => k_is); (case xsS_b4 => k_is); (case xsS_b5 => ks_is); (case xsS_b6 => k_is); (case xsS_b7 => (first | rfl | decide +kernel)); (case xsS_i1 => k_is); (case xsS_i2 => k_is); (case xsS_i3 => k_is); (case xsS_i4 => k_is); (case xsS_i5 => k_is); (case xsS_i6 => k_is); (case xsS_i7 => rfl); (case xsS_i8 => (first | rfl | decide +kernel)); (case xsX_a => k_is); (case xsX_a1 => kx_is); (case xsX_a2 => kx_is); (case xsX_a3 => k_is); (case xsX_a4 => k_is); (case xsX_a5 => k_is); (case xsX_a6 => k_is); (case xsX_a7 => (refine' Rc.all1 ?xsX_a7f0; (case xsX_a7f0 => k_is))); (case xsX_a8 => k_is); (case xsX_a9 => k_is); (case xsX_b1 => k_is); (case xsX_b2 => k_is); (case xsX_b3 => k_is); (case xsX_b4 => k_is); (case xsX_b5 => ks_is); (case xsX_b6 => k_is); (case xsX_b7 => (first | rfl | decide +kernel)); (case xsX_i1 => k_is); (case xsX_i2 => k_is); (case xsX_i3 => k_is); (case xsX_i4 => k_is); (case xsX_i5 => k_is); (case xsX_i6 => k_is); (case xsX_i7 => rfl); (case xsX_i8 => (first | rfl | decide +kernel)); (case xsR_a => k_is); (case xsR_a1 => kx_is); (case xsR_a2 => kx_is); (case xsR_a3 => k_is); (case xsR_a4 => k_is); (case xsR_a5 => k_is); (case xsR_a6 => k_is); (case xsR_a7 => (refine' Rc.all1 ?xsR_a7f0; (case xsR_a7f0 => k_is))); (case xsR_a8 => k_is); (case xsR_a9 => k_is); (case xsR_b1 => k_is); (case xsR_b2 => k_is); (case xsR_b3 => k_is); (case xsR_b4 => k_is); (case xsR_b5 => ks_is); (case xsR_b6 => k_is); (case xsR_b7 => (first | rfl | decide +kernel)); (case xsR_i1 => k_is); (case xsR_i2 => k_is); (case xsR_i3 => k_is); (case xsR_i4 => k_is); (case xsR_i5 => k_is); (case xsR_i6 => k_is); (case xsR_i7 => rfl); (case xsR_i8 => (first | rfl | decide +kernel)); (case xsF_a => k_is); (case xsF_a1 => kx_is); (case xsF_a2 => kx_is); (case xsF_a3 => k_is); (case xsF_a4 => k_is); (case xsF_a5 => k_is); (case xsF_a6 => k_is); (case xsF_a7 => (refine' Rc.all1 ?xsF_a7f0; (case xsF_a7f0 => k_is))); (case xsF_a8 => k_is); (case xsF_a9 => k_is); (case xsF_b1 => k_is); (case xsF_b2 => k_is); (case xsF_b3 => k_is); (case xsF_b4 => k_is); (case xsF_b5 => ks_is); (case xsF_b6 => k_is); (case xsF_b7 => (first | rfl | decide +kernel)); (case xsF_i1 => k_is); (case xsF_i2 => k_is); (case xsF_i3 => k_is); (case xsF_i4 => k_is); (case xsF_i5 => k_is); (case xsF_i6 => k_is); (case xsF_i7 => rfl); (case xsF_i8 => (first | rfl | decide +kernel)); (case xsT_a => k_is); (case xsT_a1 => kx_is); (case xsT_a2 => kx_is); (case xsT_a3 => k_is); (case xsT_a4 => k_is); (case xsT_a5 => k_is); (case xsT_a6 => k_is); (case xsT_a7 => (refine' Rc.all2 ?xsT_a7f0 ?xsT_a7f1; (case xsT_a7f0 => k_is); (case xsT_a7f1 => k_is))); (case xsT_a8 => k_is); (case xsT_a9 => k_is); (case xsT_b1 => k_is); (case xsT_b2 => k_is); (case xsT_b3 => k_is); (case xsT_b4 => k_is); (case xsT_b5 => ks_is); (case xsT_b6 => k_is); (case xsT_b7 => (first | rfl | decide +kernel)); (case xsT_i1 => k_is); (case xsT_i2 => k_is); (case xsT_i3 => k_is); (case xsT_i4 => k_is); (case xsT_i5 => k_is); (case xsT_i6 => k_is); (case xsT_i7 => rfl); (case xsT_i8 => (first | rfl | decide +kernel)); (case xsH_a => k_is); (case xsH_a1 => kx_is); (case xsH_a2 => kx_is); (case xsH_a3 => k_is); (case xsH_a4 => k_is); (case xsH_a5 => k_is); (case xsH_a6 => k_is); (case xsH_a7 => (refine' Rc.all1 ?xsH_a7f0; (case xsH_a7f0 => k_is))); (case xsH_a8 => k_is); (case xsH_a9 => k_is); (case xsH_b1 => k_is); (case xsH_b2 => k_is); (case xsH_b3 => k_is); (case xsH_b4 => k_is); (case xsH_b5 => ks_is); (case xsH_b6 => k_is); (case xsH_b7 => (first | rfl | decide +kernel)); (case xsH_i1 => k_is); (case xsH_i2 => k_is); (case xsH_i3 => k_is); (case xsH_i4 => k_is); (case xsH_i5 => k_is); (case xsH_i6 => k_is); (case xsH_i7 => rfl); (case xsH_i8 => (first | rfl | decide +kernel)); (case xsD_a => k_is); (case xsD_a1 => kx_is); (case xsD_a2 => kx_is); (case xsD_a3 => k_is); (case xsD_a4 => k_is); (case xsD_a5 => k_is); (case xsD_a6 => k_is); (case xsD_a7 => (refine' Rc.all1 ?xsD_a7f0; (case xsD_a7f0 => k_is))); (case xsD_a8 => k_is); (case xsD_a9 => k_is); (case xsD_b1 => k_is); (case xsD_b2 => k_is); (case xsD_b3 => k_is); (case xsD_b4 => k_is); (case xsD_b5 => ks_is); (case xsD_b6 => k_is); (case xsD_b7 => (first | rfl | decide +kernel)); (case xsD_i1 => k_is); (case xsD_i2 => k_is); (case xsD_i3 => k_is); (case xsD_i4 => k_is); (case xsD_i5 => k_is); (case xsD_i6 => k_is); (case xsD_i7 => rfl); (case xsD_i8 => (first | rfl | decide +kernel)); (case xsA_a => (first | k_is | kit_is)); (case xsA_a1 => k_exc); (case xsA_a2 => (first | k_is | kit_is)); (case xsA_a3 => (first | k_is | kit_is)); (case xsA_a4 => (first | k_is | kit_is)); (case xsA_a5 => (first | k_is | kit_is)); (case xsA_a6 => (first | k_is | kit_is)); (case xsA_a7 => (first | k_is | kit_is)); (case xsA_a8 => (first | k_is | kit_is)); (case xsA_a9 => (first | k_is | kit_is)); (case xsA_b1 => (first | k_is | kit_is)); (case xsA_b2 => (first | k_is | kit_is)); (case xsA_b3 => (first | k_is | kit_is)); (case xsA_b4 => (first | k_is | kit_is)); (case xsA_b5 => (first | k_is | kit_is)); (case xsP_a => (first | k_is | kit_is)); (case xsP_a1 => k_exc); (case xsP_a2 => (first | k_is | kit_is)); (case xsP_a3 => (first | k_is | kit_is)); (case xsP_a4 => (first | k_is | kit_is)); (case xsP_a5 => (first | k_is | kit_is)); (case xsP_a6 => (first | k_is | kit_is)); (case xsP_a7 => (first | k_is | kit_is)); (case xsP_a8 => (first | k_is | kit_is)); (case xsP_a9 => (first | k_is | kit_is)); (case xsP_b1 => (first | k_is | kit_is)); (case xsP_b2 => (first | k_is | kit_is)); (case xsP_b3 => (first | k_is | kit_is)); (case xsP_b4 => (first | k_is | kit_is)); (case xsP_b5 => (first | k_is | kit_is)); (case xsV_a => (first | k_is | kit_is)); (case xsV_a1 => k_exc); (case xsV_a2 => (first | k_is | kit_is)); (case xsV_a3 => (first | k_is | kit_is)); (case xsV_a4 => (first | k_is | kit_is)); (case xsV_a5 => (first | k_is | kit_is)); (case xsV_a6 => (first | k_is | kit_is)); (case xsV_a7 => (first | k_is | kit_is)); (case xsV_a8 => (first | k_is | kit_is)); (case xsV_a9 => (first | k_is | kit_is)); (case xsV_b1 => (first | k_is | kit_is)); (case xsV_b2 => (first | k_is | kit_is)); (case xsV_b3 => (first | k_is | kit_is)); (case xsV_b4 => (first | k_is | kit_is)); (case xsV_b5 => (first | k_is | kit_is)); (case xsW_a => (first | k_is | kit_is)); (case xsW_a1 => k_exc); (case xsW_a2 => (first | k_is | kit_is)); (case xsW_a3 => (first | k_is | kit_is)); (case xsW_a4 => (first | k_is | kit_is)); (case xsW_a5 => (first | k_is | kit_is)); (case xsW_a6 => (first | k_is | kit_is)); (case xsW_a7 => (first | k_is | kit_is)); (case xsW_a8 => (first | k_is | kit_is)); (case xsW_a9 => (first | k_is | kit_is)); (case xsW_b1 => (first | k_is | kit_is)); (case xsW_b2 => (first | k_is | kit_is)); (case xsW_b3 => (first | k_is | kit_is)); (case xsW_b4 => (first | k_is | kit_is)); (case xsW_b5 => (first | k_is | kit_is)); (case xsK_a => (first | k_is | kit_is)); (case xsK_a1 => k_exc); (case xsK_a2 => (first | k_is | kit_is)); (case xsK_a3 => (first | k_is | kit_is)); (case xsK_a4 => (first | k_is | kit_is)); (case xsK_a5 => (first | k_is | kit_is)); (case xsK_a6 => (first | k_is | kit_is)); (case xsK_a7 => (first | k_is | kit_is)); (case xsK_a8 => (first | k_is | kit_is)); (case xsK_a9 => (first | k_is | kit_is)); (case xsK_b1 => (first | k_is | kit_is)); (case xsK_b2 => (first | k_is | kit_is)); (case xsK_b3 => (first | k_is | kit_is)); (case xsK_b4 => (first | k_is | kit_is)); (case xsK_b5 => (first | k_is | kit_is)); (case xsu_clO => (first | k_is | kit_is)); (case xsu_obO => (first | k_is | kit_is)); (case xsu_clS => (first | k_is | kit_is)); (case xsu_obS => (first | k_is | kit_is)); (case xsu_clX => (first | k_is | kit_is)); (case xsu_obX => (first | k_is | kit_is)); (case xsu_clR => (first | k_is | kit_is)); (case xsu_obR => (first | k_is | kit_is)); (case xsu_clF => (first | k_is | kit_is)); (case xsu_obF => (first | k_is | kit_is)); (case xsu_clT => (first | k_is | kit_is)); (case xsu_obT => (first | k_is | kit_is)); (case xsu_clH => (first | k_is | kit_is)); (case xsu_obH => (first | k_is | kit_is)); (case xsu_clD => (first | k_is | kit_is)); (case xsu_obD => (first | k_is | kit_is)); (case xsu_soO => (first | k_is | kit_is)); (case xsu_soS => (first | k_is | kit_is)); (case xsu_oB => (first | k_is | kit_is)); (case xsu_oV => (first | k_is | kit_is)); (case xsu_sB => (first | k_is | kit_is)); (case xsu_sR => (first | k_is | kit_is)); (case xsu_kxV => (first | k_is | kit_is)); (case xsu_rL => (first | k_is | kit_is)); (case xsu_rB => (first | k_is | kit_is)); (case xsu_rS => (first | k_is | kit_is)); (case xsu_fR => (first | k_is | kit_is)); (case xsu_tR => (first | k_is | kit_is)); (case xsu_hA => (first | k_is | kit_is)); (case xsu_dA => (first | k_is | kit_is)); (case xsu_fB => (first | k_is | kit_is)); (case xsu_fT => (first | k_is | kit_is)); (case xsu_hB => (first | k_is | kit_is)); (case xsu_hD => (first | k_is | kit_is)); (case xsu_gV => k_is); (case xsu_gL => k_is); (case xsu_gRt => k_is); (case xsu_gA => k_is))
    case gAny => (refine' PySem.W.mg_none_of KX G ?gah; (case gah => k_is))

