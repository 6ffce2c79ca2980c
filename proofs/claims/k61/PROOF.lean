import PyProof.Rows.All
import Wide.All
import OpenK.AllK
import Wide.FinOn
import HandS.ForMost
import HandS.IsInst
import HandS.WideBits
import PyProof.ReprRoads
import HandS.Walk
import HandS.TupAny
import HandS.TupMul
import HandS.Strs
import HandS.Zip
import HandS.Codes
import HandS.Exc
import HandS.ExcField
import HandS.ExcSuper
import KE.KExcInit
import KE.KExcSuper
import HandS.ForExc
import HandS.More
import HandS.DictComp
import HandS.Style
import HandS.ExcIs
import KE.KExcIs
import PyProof.StrOps2
import HandS.DictTup
import HandS.TupLen
import HandS.Conv
import HandS.ListItems
import HandS.Small
import PyProof.DictWalks
import PyProof.WalkInts
import HandS.WordsDict
import HandS.Finally
import KE.KExcLine
import PySem.Challenge.RW_ringclear_k61_ends_of_vectors
set_option Elab.async false
set_option linter.all false
set_option maxRecDepth 100000
namespace Rc
open PySem PySem.Spec PyProof.Rows L2

/-- a promise that is kept where no repr is under way -/
structure FnG (P : Program) (w : World) (K : PySem.W.Frag) (mg : Str → Option Value)
    (base : Heap) (CX : CXT) (k : Nat) (f : Addr) (fd : FuncData) (ps : List Str) (sp : Sp) : Prop where
  len : ∀ vs H Q E, sp vs H Q E → vs.length = ps.length
  go : ∀ (A : Around) (outer : List Env) (s : Shared) (H : Hp) (args : Args) (us : List Value)
    (vs : List V) (Q : VK) (E : XK), Room k A → A.guards = some [] →
    Env0 P w K mg base A outer s H → BindsTo s fd args (ps.zip us) → Vals vs us → sp vs H Q E →
    codeAny (model P w) A (.call (.ref f) args) (CR CX outer P w H s Q E) s

section
variable {P : Program} {w : World} {K : PySem.W.Frag} {mg : Str → Option Value} {base : Heap}

theorem FnG.of {CX : CXT} {k : Nat} {f : Addr} {fd : FuncData} {ps : List Str} {sp : Sp}
    (F : FnOk P w K mg base CX k f fd ps sp) : FnG P w K mg base CX k f fd ps sp :=
  ⟨F.len, fun A outer s H args us vs Q E hr _ e0 hb r h =>
    F.run A outer s H args us vs Q E hr e0 hb r h⟩

/-- a def by its body, no repr being under way -/
theorem okG {CX : CXT} {x qual : Str} {st : Stmt} {f : Addr} {fd : FuncData} {N ps : List Str} {k : Nat} {sp : Sp}
    (F : Fun K x qual st f fd) (S : FnScope N ps (defScope st))
    (len : ∀ vs H Q E, sp vs H Q E → vs.length = ps.length)
    (body : ∀ (cdv : Value) (A : Around) (outer : List Env) (s : Shared) (H : Hp) (vs : List V) (Q : VK) (E : XK),
      Room k (A.deeper (envOfC qual (defScope st) s.heap.objs.size f cdv)) → A.guards = some [] → sp vs H Q E →
      ∃ t, PSs (cxOf CX P w K mg base N qual (defScope st) f cdv A outer s H E) (defBody st) t ∧
        t { nx := fun _ H' => Q .non H', rt := Q } (start N vs) H) :
    FnG P w K mg base CX (k + 1) f fd ps sp := by
  obtain ⟨oc, od, kV, doc, pm, an, cdv, ct, osl, rfl, lk, hcd⟩ := F.ex
  refine ⟨len, fun A outer s H args us vs Q E hr hg e0 hb r hsp => ?_⟩
  have hl := len vs H Q E hsp
  have keep : ∀ b o, base.get? b = some o → s.heap.get? b = some o := fun b o e => (e0.bs b o e).1
  have KX : K.In s.heap := e0.mod.kin.keeps keep
  refine codeAny_call_function hr.depth (KX _ _ lk) rfl S.co S.gen rfl
    (PySem.W.codeRec_of KX hcd) (hb _ _ _ _ ?_)
  refine wpAny_newFunctionEnv_cells S.kind (fun y hy => ?_) fun env he s1 x => ?_
  · obtain ⟨n, v⟩ := y
    exact (S.par n (List.of_mem_zip hy).1).elim .inl fun q => .inr ⟨q, PySem.W.cellsFrom_some _ _ _ (.inl q)⟩
  · subst he
    refine ⟨(e0.mod.nolimit.keeps keep).keeps x.toInCall.keep, codeAny_func ?_⟩
    obtain ⟨t, ht, hq⟩ := body cdv A outer s H vs Q E (hr.deeper _) hg hsp
    have I := inv_start (CX := CX) (E := E) S hr.hd e0 hl r x
    refine wpAny_mono (ht.run [] s1 (start N vs) H _ I hq) (fun fl s' hs => ?_) fun _ _ z => z
    cases fl with
    | ret u =>
      obtain ⟨v, σ', H', J, rv, q⟩ := hs
      exact ⟨v, H', J.os, J.bare, J.base, J.hok, rv, q⟩
    | next =>
      obtain ⟨σ', H', J, q⟩ := hs
      exact ⟨.non, H', J.os, J.bare, J.base, J.hok, rfl, q⟩
    | brk =>
      obtain ⟨_, _, _, q⟩ := hs
      exact q.elim
    | cont =>
      obtain ⟨_, _, _, q⟩ := hs
      exact q.elim
/-- .. where nothing that is raised leaves it -/
theorem okG0 {x qual : Str} {st : Stmt} {f : Addr} {fd : FuncData} {N ps : List Str} {k : Nat} {sp : Sp}
    (F : Fun K x qual st f fd) (S : FnScope N ps (defScope st))
    (len : ∀ vs H Q E, sp vs H Q E → vs.length = ps.length)
    (body : ∀ (cdv : Value) (A : Around) (outer : List Env) (s : Shared) (H : Hp) (vs : List V) (Q : VK) (E : XK),
      Room k (A.deeper (envOfC qual (defScope st) s.heap.objs.size f cdv)) → A.guards = some [] → sp vs H Q E →
      ∃ t, PSs (cxOf CX0 P w K mg base N qual (defScope st) f cdv A outer s H E).nox (defBody st) t ∧
        t { nx := fun _ H' => Q .non H', rt := Q } (start N vs) H) :
    FnG P w K mg base CX0 (k + 1) f fd ps sp :=
  okG F S len fun cdv A outer s H vs Q E hr hg h =>
    let ⟨t, a, b⟩ := body cdv A outer s H vs Q E hr hg h
    ⟨t, a.nox, b⟩
end

section
variable {X : Cx} {CX : CXT} {k : Nat} {f : Addr} {fd : FuncData} {ps : List Str} {sp : Sp} {E : XK} {x : Str}
  {p pos : Pos} {e : Expr} {es : List Expr} {t : TA}

theorem runG {pins : List (Addr × Obj)} {σ : L2.St} {H : Hp} {s : Shared} {Q : VK} {us : List Value} {vs : List V} {ds : List Value} {dvs : List V}
    (F : FnG X.prog X.w X.K X.mg X.base CX k f fd ps sp) (hr : Room k X.A) (hg : X.A.guards = some [])
    (hb : Binds X.K fd ps ds) (hd : Vals dvs ds) (hx : Passes CX X E) (I : Inv X pins σ H s) (r : Vals vs us)
    (h : sp (vs ++ dvs) H Q E) :
    wpAny (model X.prog X.w) X.A (call (.ref f) us) (EP X pins σ Q) X.xe s := by
  have r2 : Vals (vs ++ dvs) (us ++ ds) := r.append hd
  have hl : (us ++ ds).length = ps.length := r2.length.symm.trans (F.len _ _ _ _ h)
  refine wpAny_call (codeAny_mono (F.go X.A X.stack s H ⟨us, []⟩ (us ++ ds) (vs ++ dvs) Q E hr hg
    I.env0 (hb s us I.kIn hl) r2 h) fun r s' hq => ?_)
  match r, hq with
  | .error e, hq => exact hx pins σ H s e s' I hq
  | .ok (.ret u), hq => exact I.after hq
  | .ok .next, hq => exact hq.elim
  | .ok .brk, hq => exact hq.elim
  | .ok .cont, hq => exact hq.elim

theorem pe_callG {ds : List Value} {dvs : List V} (F : FnG X.prog X.w X.K X.mg X.base CX k f fd ps sp) (hr : Room k X.A)
    (gd : X.A.guards = some []) (hg : Gl X x) (hm : X.mg x = some (.ref f)) (hk : PySem.W.keepIn X.K (.ref f) = true)
    (hb : Binds X.K fd ps ds) (hd : Vals dvs ds) (hx : Passes CX X E) (ha : PA X (e :: es) t)
    (hdb : (x == ("__debug__" : Str)) = false := by decide)
    (he : starEach (e :: es) X.env = (false, eval e X.env) :: starEach es X.env := by rfl)
    (hpl : (backTo pos (starEach es X.env)).any (·.1) = false := by rfl) :
    PE X (.Call (.Name x p) (e :: es) [] pos) (tCall sp dvs E t) := by
  refine ⟨fun pins s σ H Q I h => wpAny_Call_Name_kw (ld_glob I hg hm ?_ hdb)⟩
  refine PySem.W.callWith_K (h₀ := X.base) I.ok.mod.kin hk ?_ he hpl
  refine thn (ha.run pos pins s σ H _ I h) fun us s1 z => ?_
  obtain ⟨vs, H1, I1, r, q⟩ := z
  exact ⟨I1.kIn, runG F hr gd hb hd hx I1 r q⟩

/-- f(k = v, ..), no value by place -/
def tCallKw (sp : Sp) (E : XK) (n : Nat) (tk : TA) : TE := fun σ H Q => tk σ H fun zs H2 => zs.length = n ∧ sp zs H2 Q E
theorem pe_callKw {ks : List Str} {kws : List Keyword} {tk : TA} (F : FnOk X.prog X.w X.K X.mg X.base CX k f fd ps sp)
    (hr : Room k X.A) (hg : Gl X x) (hm : X.mg x = some (.ref f)) (hk : PySem.W.keepIn X.K (.ref f) = true)
    (hb : ∀ (s : Shared) (ws : List Value), ws.length = ks.length → BindsTo s fd ⟨[], ks.zip ws⟩ (ps.zip ws)) (hx : Passes CX X E)
    (hkw : PK X kws tk) (hall : (backToKw pos (keywordEach kws X.env)).all (·.1.isSome) = true := by rfl)
    (hks : (backToKw pos (keywordEach kws X.env)).filterMap (·.1) = ks := by rfl)
    (hdb : (x == ("__debug__" : Str)) = false := by decide)
    (hpl : ((backTo pos (starEach [] X.env)).any (·.1) || (backToKw pos (keywordEach kws X.env)).any (·.1.isNone)) = false := by rfl) :
    PE X (.Call (.Name x p) [] kws pos) (tCallKw sp E ks.length tk) := by
  refine ⟨fun pins s σ H Q I h => wpAny_Call_Name_kw (ld_glob I hg hm ?_ hdb)⟩
  refine PySem.W.callWith_KW0 (h₀ := X.base) I.ok.mod.kin hk hall ?_ hpl
  refine thn (hkw.run pos pins s σ H _ I h) fun ws s2 z => ?_
  obtain ⟨zs, H2, I2, rz, l, q⟩ := z
  refine ⟨I2.kIn, ?_⟩
  rw [hks]
  refine wpAny_call (codeAny_mono (F.run X.A X.stack s2 H2 ⟨[], ks.zip ws⟩ ws zs Q E hr I2.env0
    (hb s2 ws (rz.length.symm.trans l)) rz q) fun r s' hq => ?_)
  match r, hq with
  | .error e, hq => exact hx pins σ H2 s2 e s' I2 hq
  | .ok (.ret u), hq => exact I2.after hq
  | .ok .next, hq => exact hq.elim
  | .ok .brk, hq => exact hq.elim
  | .ok .cont, hq => exact hq.elim
end

/-! ### repr -/
/-- no object -/
inductive Flat : V → PyData → Prop
  | non : Flat .non .none
  | bl (b : Bool) : Flat (.bl b) (.bool b)
  | int (i : Int) : Flat (.int i) (.int i)
  | str (x : Str) : Flat (.str x) (.str x)
inductive Flats : List V → List PyData → Prop
  | nil : Flats [] []
  | cons {v : V} {vs : List V} {d : PyData} {ds : List PyData} : Flat v d → Flats vs ds → Flats (v :: vs) (d :: ds)
mutual
/-- data that stands in the heap: none, truths, ints, texts, lists, tuples, dicts with int and text keys -/
inductive Dt (K : PySem.W.Frag) (H : Hp) : V → PyData → Prop
  | non : Dt K H .non .none
  | bl (b : Bool) : Dt K H (.bl b) (.bool b)
  | int (i : Int) : Dt K H (.int i) (.int i)
  | str (x : Str) : Dt K H (.str x) (.str x)
  | lst {a : Addr} {xs : List V} {ds : List PyData} : SqL K H a xs → DtAll K H xs ds → Dt K H (.ref a) (.list ds)
  | tup {a : Addr} {xs : List V} {ds : List PyData} : SqT K H a xs → DtAll K H xs ds → Dt K H (.ref a) (.tuple ds)
  | dct {a : Addr} {kvs : List (Key × V)} {ps : List (PyData × PyData)} : H a = some (.dK kvs) →
      Flats (kvs.map fun p => kV p.1) (ps.map (·.1)) → Flats (kvs.map (·.2)) (ps.map (·.2)) →
      Dt K H (.ref a) (.dict ps)
inductive DtAll (K : PySem.W.Frag) (H : Hp) : List V → List PyData → Prop
  | nil : DtAll K H [] []
  | cons {v : V} {vs : List V} {d : PyData} {ds : List PyData} : Dt K H v d → DtAll K H vs ds → DtAll K H (v :: vs) (d :: ds)
end

theorem Flat.reads {h : Heap} {v : V} {d : PyData} {u : Value} (f : Flat v d) (r : RelV v u) : Reads h u d [] := by
  cases f with
  | non => cases r; exact .none
  | bl b => cases r; exact .bool b
  | int i => obtain ⟨t, rfl⟩ := r; exact .int i t
  | str x => obtain ⟨t, rfl⟩ := r; exact .str x t
theorem Flats.reads {h : Heap} : ∀ {vs : List V} {ds : List PyData} {us : List Value}, Flats vs ds → Vals vs us → ReadsAll h us ds []
  | _, _, _, .nil, .nil => .nil
  | _, _, _, .cons f fs, .cons r rs => .cons (f.reads r) (fs.reads rs)
theorem keys_rel {P : Program} {w : World} : ∀ {es : List DictEntry} {vs : List (Key × Value)} {kvs : List (Key × V)}, Pairs (mixKind P w) es vs → KV kvs vs →
    Vals (kvs.map fun p => kV p.1) (es.map (·.key)) ∧ Vals (kvs.map (·.2)) (es.map (·.val))
  | [], _, _, .nil, .nil => ⟨.nil, .nil⟩
  | e :: es, (k, x) :: vs, (k', y) :: kvs, .cons h1 h2 hp, .cons r rs => by
    obtain ⟨a, b⟩ := keys_rel hp rs
    obtain ⟨e1, e2⟩ := r
    have e1' : k' = k := e1
    subst e1'
    refine ⟨.cons ?_ a, .cons ?_ b⟩
    · rcases keyIs_shape h1 with ⟨i, t, q1, q2⟩ | ⟨z, t, q1, q2⟩
      · have q1' : k' = Sum.inl i := q1
        subst q1'
        exact ⟨t, q2⟩
      · have q1' : k' = Sum.inr z := q1
        subst q1'
        exact ⟨t, q2⟩
    · show L2.RelV y e.val
      rw [h2]
      exact e2
section
variable {X : Cx} {pins : List (Addr × Obj)} {σ : L2.St} {H : Hp} {s : Shared}
/-- a dict alone may hold a dict (itself) -/
def DictTop (d : PyData) : Prop := d.hasDict = false ∨ ∃ ps, d = .dict ps
mutual
theorem Dt.reads (I : Inv X pins σ H s) : ∀ (d : PyData) (v : V) (u : Value), Dt X.K H v d → RelV v u →
    ∃ as, Reads s.heap u d as ∧ ((∃ ps, d = .dict ps) → sysModules ∉ as)
  | .none, _, _, h, r => by
    cases h; cases r
    exact ⟨_, .none, fun z => by obtain ⟨_, z⟩ := z; cases z⟩
  | .bool b, _, _, h, r => by
    cases h; cases r
    exact ⟨_, .bool b, fun z => by obtain ⟨_, z⟩ := z; cases z⟩
  | .int i, _, _, h, r => by
    cases h
    obtain ⟨t, rfl⟩ := r
    exact ⟨_, .int i t, fun z => by obtain ⟨_, z⟩ := z; cases z⟩
  | .str x, _, _, h, r => by
    cases h
    obtain ⟨t, rfl⟩ := r
    exact ⟨_, .str x t, fun z => by obtain ⟨_, z⟩ := z; cases z⟩
  | .list ds, _, _, h, r => by
    cases h with
    | lst hs ha =>
      cases r
      obtain ⟨its, rv, ⟨o, n, ho, hc, _, hd⟩, _⟩ := I.list hs
      obtain ⟨as, q⟩ := Dt.readsAll I ds _ its ha rv
      exact ⟨_, .list ho hc hd q, fun z => by obtain ⟨_, z⟩ := z; cases z⟩
  | .tuple ds, _, _, h, r => by
    cases h with
    | tup hs ha =>
      cases r
      obtain ⟨its, rv, ⟨o, ho, hc, n, hd⟩, _⟩ := I.tuple hs
      obtain ⟨as, q⟩ := Dt.readsAll I ds _ its ha rv
      exact ⟨_, .tuple ho hc hd q, fun z => by obtain ⟨_, z⟩ := z; cases z⟩
  | .dict ps, _, _, h, r => by
    cases h with
    | dct e fk fv =>
      cases r
      obtain ⟨_, ns, vs, kv, o, es, ep, ho, hx, hd, _, hp, _⟩ := I.hok _ _ e
      obtain ⟨a, b⟩ := keys_rel hp kv
      refine ⟨_, .dict ho hx.1 hd (fk.reads a) (fv.reads b), fun _ z => ?_⟩
      have z' := List.mem_singleton.mp (by simpa using z)
      rw [← z'] at ns
      simp at ns
theorem Dt.readsAll (I : Inv X pins σ H s) : ∀ (ds : List PyData) (vs : List V) (us : List Value), DtAll X.K H vs ds → Vals vs us → ∃ as, ReadsAll s.heap us ds as
  | [], _, _, h, r => by
    cases h; cases r
    exact ⟨_, .nil⟩
  | d :: ds, _, _, h, r => by
    cases h with
    | cons h1 h2 =>
      cases r with
      | cons r1 r2 =>
        obtain ⟨as, q1, _⟩ := Dt.reads I d _ _ h1 r1
        obtain ⟨bs, q2⟩ := Dt.readsAll I ds _ _ h2 r2
        exact ⟨_, .cons q1 q2⟩
end
end
section
variable {X : Cx}
def rRepr (K : PySem.W.Frag) : List V → Hp → VK → Prop := fun xs H Q => ∃ v d, xs = [v] ∧ Dt K H v d ∧ d.showable = true ∧ DictTop d ∧ d.depth ≤ 20 ∧ ((∃ i, d = .int i) ∨ d.shown.length ≤ sizeLine) ∧ Q (.str d.shown) H
theorem notInt {d : PyData} {A : Prop} (h : (∃ i, d = .int i) ∨ A) (n : ∀ i, d ≠ .int i) : A := h.elim (fun z => let ⟨i, e⟩ := z; absurd e (n i)) id
theorem call_repr {k : Nat} (hr : Room k X.A) (hg : X.A.guards = some []) : CallR X (.builtin "repr") (rRepr X.K) := by
  intro pins s σ H xs us Q I r h
  obtain ⟨v, d, rfl, hd, hs, ht, hp, hz, q⟩ := h
  obtain ⟨u, rfl, ru⟩ := vals1 r
  obtain ⟨as, rd, nsm⟩ := Dt.reads I d v u hd ru
  have hu := hr.units
  have big : ∀ a, u = .ref a → d.shown.length ≤ sizeLine → wpAny (model X.prog X.w) X.A (call (.builtin "repr") [u]) (EP X pins σ Q) X.xe s := by
    rintro a rfl hz
    refine repr_of_reads' rd hs (fun hx => ?_) hg (by omega) (fun _ _ e => e) (fun h' t tk hk => ?_) hz
    · rcases ht with z | z
      · rw [z] at hx; cases hx
      · exact nsm z
    · exact ⟨.str _, H, I.kept hk, ⟨t, rfl⟩, q⟩
  cases hd with
  | non => cases ru; exact PySem.P.repr_of_none ⟨.str _, H, I.tok _, ⟨_, rfl⟩, q⟩
  | bl b => cases ru; exact PySem.P.repr_of_bool ⟨.str _, H, I.tok _, ⟨_, rfl⟩, q⟩
  | int i =>
    obtain ⟨t, rfl⟩ := ru
    exact PySem.P.repr_of_int (by simpa [PyData.showable] using hs) ⟨.str _, H, I.tok _, ⟨_, rfl⟩, by simpa [PyData.shown] using q⟩
  | str x =>
    obtain ⟨t, rfl⟩ := ru
    exact PySem.P.repr_of_str ⟨.str _, H, I.tok _, ⟨_, rfl⟩, by simpa [PyData.shown] using q⟩ (by simpa [PyData.shown] using notInt hz (fun _ z => nomatch z))
  | lst _ _ => exact big _ ru (notInt hz fun _ z => nomatch z)
  | tup _ _ => exact big _ ru (notInt hz fun _ z => nomatch z)
  | dct _ _ _ => exact big _ ru (notInt hz fun _ z => nomatch z)
end

/-! ### the law's own call -/
section
open PySem.W
/-- the abstract heap at the law's entry: the script alone, locked, or nothing where it is the module's own -/
def entryH (K : Frag) (a : Addr) (o : Obj) (xs : List V) : Hp := fun b => if b = a ∧ K.lookup a = none then some (.frz o (.lst xs)) else none
theorem entryH_at {K : Frag} {a b : Addr} {o : Obj} {xs : List V} {u : HO} (h : entryH K a o xs b = some u) : b = a ∧ K.lookup a = none ∧ u = .frz o (.lst xs) := by
  unfold entryH at h
  split at h
  · rename_i c
    exact ⟨c.1, c.2, (Option.some.inj h).symm⟩
  · cases h
theorem law_callG {P : Program} {w : World} {K : Frag} {mg mb : Str → Option Value} {CX : CXT} {k : Nat} {fa a : Addr} {fd : FuncData}
    {x : Str} {sp : Sp} {s₁ : Shared} {vs : List Value} {ns : List Int}
    (KX : K.In s₁.heap) (hns : s₁.heap.Ns mainGlobals mg) (hb : s₁.heap.Ns builtinsNs mb)
    (hbb : ∀ x : Str, x ≠ "__name__" → mb x = bootBuiltins x) (hlim : s₁.heap.NoLimit) (hg : s₁.gens = #[])
    (ha : s₁.heap.get? a = some { cls := .type "list", data := .seq vs.toArray }) (hi : IntsAre vs ns)
    (hl : ns.length ≤ sizeLine) (hr : Room k callerA)
    (F : ∀ base : Heap, K.In base → base.Ns mainGlobals mg → FnG P w K mg base CX k fa fd [x] sp)
    (hbind : ∀ (s : Shared) (u : Value), BindsTo s fd ⟨[u], []⟩ [(x, u)])
    (hsp : ∀ H : Hp, Only H → SqL K H a (ns.map V.int) → sp [.ref a] H (fun v _ => v = .bl true) fun _ _ _ => False)
    (hCX : ∀ H e s', CX [] H s₁ (fun _ _ _ => False) e s' → False) :
    codeAny (model P w) callerA (.call (.ref fa) ⟨[.ref a], []⟩)
      (fun r s' => r = .ok (.ret (.bool true)) ∧ OldK s₁.heap s'.heap ∧ s'.os = s₁.os ∧ AllBare s'.gens) s₁ := by
  have rv := vals_ints hi
  have lv := hi.length
  generalize hH : entryH K a { cls := .type "list", data := .seq vs.toArray } (ns.map V.int) = H
  have hat : ∀ {b : Addr} {u : HO}, H b = some u → b = a ∧ K.lookup a = none ∧ u = .frz { cls := .type "list", data := .seq vs.toArray } (.lst (ns.map V.int)) :=
    fun {b u} e => entryH_at (by rw [hH]; exact e)
  have only : Only H := fun b => by
    cases q : H b with
    | none => exact .inl rfl
    | some u =>
      obtain ⟨_, _, rfl⟩ := hat q
      exact .inr ⟨_, _, rfl⟩
  have sq : SqL K H a (ns.map V.int) := by
    cases hk : K.lookup a with
    | none =>
      refine .inl (.inr ⟨{ cls := .type "list", data := .seq vs.toArray }, ?_⟩)
      rw [← hH]
      exact if_pos ⟨rfl, hk⟩
    | some o =>
      have e := KX a o hk
      rw [ha] at e
      cases e
      exact .inr ⟨_, vs.toArray, _, hk, rfl, rfl, rfl, by rw [List.size_toArray, lv]; exact hl, by simpa using rv⟩
  have hok : HOk P w H s₁.heap := fun b u e => by
    obtain ⟨rfl, _, rfl⟩ := hat e
    exact ⟨ha, by rw [List.length_map]; exact hl, vs, _, rv, ha⟩
  have dictFree : ∀ {b : Addr} {o : Obj} {es : Array DictEntry} {ep : Nat}, s₁.heap.get? b = some o → o.data = .dict es ep → H b = none := fun {b o es ep} e d => by
    cases q : H b with
    | none => rfl
    | some u =>
      obtain ⟨rfl, _, _⟩ := hat q
      rw [ha] at e
      cases e
      cases d
  have nsK : ∀ {b : Addr} {m : Str → Option Value}, s₁.heap.Ns b m → (hidT s₁.heap H).Ns b m :=
    fun {b m} z => let ⟨o, es, ep, e, d, r⟩ := z; ⟨o, es, ep, hidT_get e (dictFree e d), d, r⟩
  have kb : K.In (hidT s₁.heap H) := fun b o e => hidT_get (KX b o e) (by
    cases q : H b with
    | none => rfl
    | some u =>
      obtain ⟨rfl, z, _⟩ := hat q
      rw [z] at e
      cases e)
  have md : Mod K mg (hidT s₁.heap H) := ⟨kb, nsK hns, ⟨mb, nsK hb, hbb⟩, let ⟨mc, h1, h2⟩ := hlim; ⟨mc, nsK h1, h2⟩⟩
  have e0 : Env0 P w K mg (hidT s₁.heap H) callerA [] s₁ H :=
    { frames := rfl, mod := md, bs := fun b o e => of_hidT e, bsz := Nat.le_of_eq (hidT_size _ _), funs := trivial, frf := fun b z => absurd (show b ∈ ([] : List Addr) from z) (by simp), hok := hok, bare := .of_eq hg }
  refine codeAny_mono ((F _ kb (nsK hns)).go callerA [] s₁ H ⟨[.ref a], []⟩ [.ref a] [.ref a] _ _ hr rfl e0 (hbind s₁ (.ref a)) (.cons rfl .nil) (hsp H only sq)) fun r s' h => ?_
  match r, h with
  | .error e, h => exact (hCX H e s' h).elim
  | .ok .next, h => exact h.elim
  | .ok .brk, h => exact h.elim
  | .ok .cont, h => exact h.elim
  | .ok (.ret u), h =>
    obtain ⟨v, H', os, bare, un, hok', r', q⟩ := h
    have q' : v = .bl true := q
    subst q'
    obtain rfl : u = Value.bool true := r'
    refine ⟨rfl, OldK.of_keep fun b o e => ?_, os, bare⟩
    cases z : H b with
    | none => exact un.keep b o e z (fun y => absurd (show b ∈ ([] : List Addr) from y) (by simp)) (by simp)
    | some u =>
      obtain ⟨rfl, _, rfl⟩ := hat z
      have z2 := un.frzs _ _ _ z
      have e2 := (hok' _ _ z2).1
      rw [ha] at e
      cases e
      exact e2
/-- as walk_of, no repr being under way -/
theorem walk_ofG {l : OpenLaw} {n k : Nat} {q : Program} {loose : List Str} {XP : (Str → Option Value) → Heap → Prop} {YP : World → Heap → Prop}
    {d : DefRec} {K : Params → Frag} {CX : World → CXT} {sp : World → Sp} {x : Str}
    (hn : l.most = some n) (hn2 : n ≤ sizeLine) (hdf : d.params.defaults = []) (hr : Room k callerA)
    (hY : ∀ (w : World) (h : Heap), YP w h → (K w.params).In h)
    (F : ∀ (w : World) (mg : Str → Option Value) (fa : Addr) (h : Heap), (K w.params).In h → h.Ns mainGlobals mg →
      mg d.name = some (.ref fa) → ∃ fd : FuncData, (∀ (s : Shared) (u : Value), BindsTo s fd ⟨[u], []⟩ [(x, u)]) ∧
        ∀ base : Heap, (K w.params).In base → base.Ns mainGlobals mg → FnG l.prog w (K w.params) mg base (CX w) k fa fd [x] (sp w))
    (hsp : ∀ (w : World) (H : Hp) (a : Addr) (ns : List Int), ns.length ≤ n → Only H → SqL (K w.params) H a (ns.map V.int) →
      sp w [.ref a] H (fun v _ => v = .bl true) fun _ _ _ => False)
    (hCX : ∀ (w : World) (H : Hp) (s : Shared) (e : Value) (s' : Shared), CX w [] H s (fun _ _ _ => False) e s' → False) :
    WalkO q loose XP YP l.row.toRowW d [] (fun f vs => PySem.call f vs) := by
  refine Att.attach_call hn hdf fun w s₀ s₁ mg mb fa o pm cd doc a vs ns G Y ho hd hcd hmg hobj hints hlen hg => ?_
  obtain ⟨fd, b1, b2⟩ := F w mg fa _ (hY w _ Y) G.T.g hmg
  exact law_callG (hY w _ Y) G.T.g G.T.b G.T.builtins G.T.nolimit hg hobj hints (Nat.le_trans hlen hn2) hr b2 b1
    (fun H hO hS => hsp w H a ns hlen hO hS) fun H e s' => hCX w H s₁ e s'
end
end Rc

set_option exponentiation.threshold 400
namespace Rc
open PySem PySem.Spec PyProof.Rows L2
/-! ### the mathematics -/
def abc : List Nat := (List.range 26).map (· + 97)
def nameT (z : Str) : Bool := decide (1 ≤ z.length) && decide (z.length ≤ 8) && z.cps.toList.all fun c => decide (c ∈ abc)
def nameD : PyData → Bool
  | .str z => nameT z
  | _ => false
def wholeD : PyData → Bool
  | .int _ => true
  | _ => false
def amountD : PyData → Bool
  | .int i => decide (1 ≤ i)
  | _ => false
def tyD : PyData → String
  | .none => "NoneType"
  | .bool _ => "bool"
  | .int _ => "int"
  | .str _ => "str"
  | .list _ => "list"
  | .tuple _ => "tuple"
  | .dict _ => "dict"
def strD : PyData → Bool
  | .str _ => true
  | _ => false
def boolD : PyData → Bool
  | .bool _ => true
  | _ => false
theorem Dt.ty {K : PySem.W.Frag} {H : Hp} {v : V} {d : PyData} (h : Dt K H v d) : TyX K H v (.type (tyD d)) := by
  cases h with
  | non => exact .base .non
  | bl b => exact .base (.bl b)
  | int i => exact .base (.int i)
  | str x => exact .base (.str x)
  | lst q _ =>
    rcases q with (q | ⟨o, q⟩) | ⟨o, its, n, hk, hc, _⟩
    · exact .base (.lst q)
    · exact .base (.frz q)
    · exact .kList hk hc
  | tup q _ =>
    rcases q with (q | ⟨o, q⟩) | ⟨o, its, n, hk, hc, _⟩
    · exact .base (.tup q)
    · exact .fTuple q
    · exact .kTuple hk hc
  | dct q _ _ => exact .base (.dK q)
theorem kit_str {K : PySem.W.Frag} (d : PyData) : PySem.W.kitOne K (.type (tyD d)) (.type "str") = some (strD d) :=
  match d with
  | PyData.none => kit_ty (a := "NoneType") (b := "str") (r := false) (by decide +kernel)
  | .bool _ => kit_ty (a := "bool") (b := "str") (r := false) (by decide +kernel)
  | .int _ => kit_ty (a := "int") (b := "str") (r := false) (by decide +kernel)
  | .str _ => kit_ty (a := "str") (b := "str") (r := true) (by decide +kernel)
  | .list _ => kit_ty (a := "list") (b := "str") (r := false) (by decide +kernel)
  | .tuple _ => kit_ty (a := "tuple") (b := "str") (r := false) (by decide +kernel)
  | .dict _ => kit_ty (a := "dict") (b := "str") (r := false) (by decide +kernel)
theorem kit_int {K : PySem.W.Frag} (d : PyData) : PySem.W.kitOne K (.type (tyD d)) (.type "int") = some (wholeD d || boolD d) :=
  match d with
  | PyData.none => kit_ty (a := "NoneType") (b := "int") (r := false) (by decide +kernel)
  | .bool _ => kit_ty (a := "bool") (b := "int") (r := true) (by decide +kernel)
  | .int _ => kit_ty (a := "int") (b := "int") (r := true) (by decide +kernel)
  | .str _ => kit_ty (a := "str") (b := "int") (r := false) (by decide +kernel)
  | .list _ => kit_ty (a := "list") (b := "int") (r := false) (by decide +kernel)
  | .tuple _ => kit_ty (a := "tuple") (b := "int") (r := false) (by decide +kernel)
  | .dict _ => kit_ty (a := "dict") (b := "int") (r := false) (by decide +kernel)
theorem kit_bool {K : PySem.W.Frag} (d : PyData) : PySem.W.kitOne K (.type (tyD d)) (.type "bool") = some (boolD d) :=
  match d with
  | PyData.none => kit_ty (a := "NoneType") (b := "bool") (r := false) (by decide +kernel)
  | .bool _ => kit_ty (a := "bool") (b := "bool") (r := true) (by decide +kernel)
  | .int _ => kit_ty (a := "int") (b := "bool") (r := false) (by decide +kernel)
  | .str _ => kit_ty (a := "str") (b := "bool") (r := false) (by decide +kernel)
  | .list _ => kit_ty (a := "list") (b := "bool") (r := false) (by decide +kernel)
  | .tuple _ => kit_ty (a := "tuple") (b := "bool") (r := false) (by decide +kernel)
  | .dict _ => kit_ty (a := "dict") (b := "bool") (r := false) (by decide +kernel)
theorem same_upd {H : Hp} {p : Addr} {o : HO} (h : H p = none) : Same H (upd H p o) := fun b x e => by
  rw [upd_ne (ne_of_none e h)]
  exact e
mutual
theorem Dt.same {K : PySem.W.Frag} {H H' : Hp} (e : Same H H') : ∀ {v : V} (d : PyData), Dt K H v d → Dt K H' v d
  | _, .none, h => by cases h; exact .non
  | _, .bool _, h => by cases h; exact .bl _
  | _, .int _, h => by cases h; exact .int _
  | _, .str _, h => by cases h; exact .str _
  | _, .list ds, h => by
    cases h with
    | lst q a => exact .lst (e.seq q) (DtAll.same e ds a)
  | _, .tuple ds, h => by
    cases h with
    | tup q a =>
      refine .tup ?_ (DtAll.same e ds a)
      rcases q with (q | ⟨o, q⟩) | q
      · exact .inl (.inl (e _ _ q))
      · exact .inl (.inr ⟨o, e _ _ q⟩)
      · exact .inr q
  | _, .dict ps, h => by
    cases h with
    | dct q a b => exact .dct (e _ _ q) a b
theorem DtAll.same {K : PySem.W.Frag} {H H' : Hp} (e : Same H H') : ∀ {vs : List V} (ds : List PyData), DtAll K H vs ds → DtAll K H' vs ds
  | _, [], h => by cases h; exact .nil
  | _, d :: ds, h => by
    cases h with
    | cons a b => exact .cons (Dt.same e d a) (DtAll.same e ds b)
end
theorem iteNot {b : Bool} {A B : Prop} (e : ¬ b = true) (h : B) : if b = true then A else B := by
  rw [if_neg e]
  exact h
theorem letters_abc : (("abcdefghijklmnopqrstuvwxyz" : String) : Str).cps.toList = abc := by decide +kernel
/-- a text that is short enough -/
def ShortD (d : PyData) : Prop := ∀ z, d = .str z → z.length ≤ 1000
theorem small_line {n : Nat} (h : n ≤ 1000) : n ≤ sizeLine := Nat.le_of_lt (small1000 h)
/-! ### written data -/
theorem PE.of {X : Cx} {e : Expr} {t t' : TE} (h : PE X e t) (i : ∀ σ H Q, t' σ H Q → t σ H Q) : PE X e t' :=
  ⟨fun pins s σ H Q I q => h.run pins s σ H Q I (i σ H Q q)⟩
theorem PA.of {X : Cx} {es : List Expr} {t t' : TA} (h : PA X es t) (i : ∀ σ H Q, t' σ H Q → t σ H Q) : PA X es t' :=
  ⟨fun pos pins s σ H Q I q => h.run pos pins s σ H Q I (i σ H Q q)⟩
/-- what stands in H' and did not in H -/
def minus (H' H : Hp) : Hp := fun b => if H b = none then H' b else none
theorem minus_some {H' H : Hp} {b : Addr} {o : HO} (h : minus H' H b = some o) : H b = none ∧ H' b = some o := by
  unfold minus at h
  split at h
  · rename_i c
    exact ⟨c, h⟩
  · cases h
theorem minus_mk {H' H : Hp} {b : Addr} {o : HO} (h : H b = none) (h' : H' b = some o) : minus H' H b = some o := by
  unfold minus
  rw [if_pos h]
  exact h'
theorem minus_sub {H' H : Hp} : Same (minus H' H) H' := fun _ _ e => (minus_some e).2
theorem minus_l {H H1 H2 : Hp} (s : Same H1 H2) : Same (minus H1 H) (minus H2 H) := fun b o e => minus_mk (minus_some e).1 (s b o (minus_some e).2)
theorem minus_r {H H1 H2 : Hp} (s : Same H H1) : Same (minus H2 H1) (minus H2 H) := fun b o e => minus_mk (s.free (minus_some e).1) (minus_some e).2
theorem minus_at {H H1 : Hp} {p : Addr} {o : HO} (s : Same H H1) (h : H1 p = none) : minus (upd H1 p o) H p = some o := minus_mk (s.free h) upd_same
/-- an expression that gives the datum d, of new objects alone, all else as it was -/
def tLit (K : PySem.W.Frag) (d : PyData) : TE := fun _ H Q => ∀ v H', Same H H' → Dt K (minus H' H) v d → Q v H'
def tLits (K : PySem.W.Frag) (ds : List PyData) : TA := fun _ H Q => ∀ vs H', Same H H' → DtAll K (minus H' H) vs ds → Q vs H'
theorem DtAll.len {K : PySem.W.Frag} {H : Hp} : ∀ {vs : List V} {ds : List PyData}, DtAll K H vs ds → vs.length = ds.length
  | _, _, .nil => rfl
  | _, _, .cons _ t => by rw [List.length_cons, List.length_cons, DtAll.len t]
section
variable {X : Cx} {pos : Pos} {j : Nat} {e : Expr} {es : List Expr} {d : PyData} {ds : List PyData}
theorem l_non {j} : PE X (.Constant .none j pos) (tLit X.K .none) := PE.of pe_non fun _ H _ q => q _ H (Same.refl _) .non
theorem l_bl {b j} : PE X (.Constant (.bool b) j pos) (tLit X.K (.bool b)) := PE.of pe_bl fun _ H _ q => q _ H (Same.refl _) (.bl _)
theorem l_int {i j} : PE X (.Constant (.int i) j pos) (tLit X.K (.int i)) := PE.of pe_int fun _ H _ q => q _ H (Same.refl _) (.int _)
theorem l_str {x j} : PE X (.Constant (.str x) j pos) (tLit X.K (.str x)) := PE.of pe_str fun _ H _ q => q _ H (Same.refl _) (.str _)
theorem l_neg {i j} {p : Pos} : PE X (.UnaryOp .USub (.Constant (.int i) j p) pos) (tLit X.K (.int (-i))) := PE.of (pe_un un_neg pe_int) fun _ H _ q => ⟨i, rfl, q _ H (Same.refl _) (.int _)⟩
theorem ls_nil : PA X [] (tLits X.K []) := PA.of pa_nil fun _ H _ q => q _ H (Same.refl _) .nil
theorem ls_cons (h : PE X e (tLit X.K d)) (hs : PA X es (tLits X.K ds)) (hx : starEach (e :: es) X.env = (false, eval e X.env) :: starEach es X.env := by rfl) : PA X (e :: es) (tLits X.K (d :: ds)) :=
  PA.of (pa_cons h hs hx) fun _ _ _ q v H1 s1 h1 vs H2 s2 h2 => q (v :: vs) H2 (s1.trans s2) (.cons (Dt.same (minus_l s2) _ h1) (DtAll.same (minus_r s1) _ h2))
theorem l_lst (hs : PA X es (tLits X.K ds)) (hz : ds.length ≤ 1000 := by decide) : PE X (.List es pos) (tLit X.K (.list ds)) :=
  PE.of (pe_lst hs) fun _ _ _ q vs H1 s1 h1 => ⟨by rw [h1.len]; exact small_line hz, fun p hp => q _ _ (s1.trans (same_upd hp)) (.lst (.inl (.inl (minus_at s1 hp))) (DtAll.same (minus_l (same_upd hp)) _ h1))⟩
theorem l_tup {k} (hs : PA X es (tLits X.K ds)) (hz : ds.length ≤ 1000 := by decide) : PE X (.Tuple es k pos) (tLit X.K (.tuple ds)) :=
  PE.of (pe_tup hs) fun _ _ _ q vs H1 s1 h1 => ⟨by rw [h1.len]; exact small_line hz, fun p hp => q _ _ (s1.trans (same_upd hp)) (.tup (.inl (.inl (minus_at s1 hp))) (DtAll.same (minus_l (same_upd hp)) _ h1))⟩
theorem l_dct0 : PE X (.Dict [] [] pos) (tLit X.K (.dict [])) :=
  PE.of pe_dnewK fun _ _ _ q p hp => q _ _ (same_upd hp) (.dct (minus_at (Same.refl _) hp) .nil .nil)
theorem l_dctS {z i j1 j2} {p1 p2 : Pos} : PE X (.Dict [some (.Constant (.str z) j1 p1)] [.Constant (.int i) j2 p2] pos) (tLit X.K (.dict [(.str z, .int i)])) :=
  PE.of (pe_disp (pps_cons pe_str pe_int pps_nil) (by rfl) (by rfl) (fun z => by cases z) (by show 1 ≤ 15; decide)) fun _ _ _ q p hp =>
    ⟨upd_same, [(.inr z, .int i)], rfl, by show 1 ≤ 15; decide, by
      rw [upd_upd]
      exact q _ _ (same_upd hp) (.dct (minus_at (Same.refl _) hp) (.cons (.str z) .nil) (.cons (.int i) .nil))⟩
theorem l_dctI {z i j1 j2} {p1 p2 : Pos} : PE X (.Dict [some (.Constant (.int i) j1 p1)] [.Constant (.str z) j2 p2] pos) (tLit X.K (.dict [(.int i, .str z)])) :=
  PE.of (pe_disp (pps_cons pe_int pe_str pps_nil) (by rfl) (by rfl) (fun z => by cases z) (by show 1 ≤ 15; decide)) fun _ _ _ q p hp =>
    ⟨upd_same, [(.inl i, .str z)], rfl, by show 1 ≤ 15; decide, by
      rw [upd_upd]
      exact q _ _ (same_upd hp) (.dct (minus_at (Same.refl _) hp) (.cons (.int i) .nil) (.cons (.str z) .nil))⟩
/-- a written list of data as a list -/
def tLitL (K : PySem.W.Frag) (ds : List PyData) : TE := fun _ H Q => ∀ l xs H', Same H H' → H l = none → H' l = some (.lst xs) → DtAll K (minus H' H) xs ds → Q (.ref l) H'
theorem l_list (hs : PA X es (tLits X.K ds)) (hz : ds.length ≤ 1000 := by decide) : PE X (.List es pos) (tLitL X.K ds) :=
  PE.of (pe_lst hs) fun _ _ _ q vs H1 s1 h1 => ⟨by rw [h1.len]; exact small_line hz, fun p hp => q p vs _ (s1.trans (same_upd hp)) (s1.free hp) upd_same (DtAll.same (minus_l (same_upd hp)) _ h1)⟩
end
theorem DtAll.append {K : PySem.W.Frag} {H : Hp} : ∀ {vs us : List V} {ds es : List PyData}, DtAll K H vs ds → DtAll K H us es → DtAll K H (vs ++ us) (ds ++ es)
  | _, _, _, _, .nil, h => h
  | _, _, _, _, .cons a t, h => .cons a (DtAll.append t h)
theorem DtAll.mem {K : PySem.W.Frag} {H : Hp} : ∀ {vs : List V} {ds : List PyData} {v : V}, DtAll K H vs ds → v ∈ vs → ∃ d, d ∈ ds ∧ Dt K H v d
  | _, _, _, .nil, h => by cases h
  | _, _, _, .cons a t, h => by
    rcases List.mem_cons.mp h with e | e
    · subst e
      exact ⟨_, List.mem_cons_self, a⟩
    · obtain ⟨d, h1, h2⟩ := DtAll.mem t e
      exact ⟨d, List.mem_cons_of_mem _ h1, h2⟩
/-- an item by a number in the bounds -/
theorem pick {α : Type} {xs : List α} {i : Int} (h0 : 0 ≤ i) (h1 : i < xs.length) : ∃ v, atI xs i = some v ∧ v ∈ xs := by
  obtain ⟨n, rfl⟩ := Int.eq_ofNat_of_zero_le h0
  have hn : n < xs.length := by omega
  exact ⟨xs[n], atI_nat (List.getElem?_eq_getElem hn), List.getElem_mem hn⟩
/-- a pot: two numbers -/
def Pot (H : Hp) (p : Addr) : Prop := ∃ x y : Int, H p = some (.lst [.int x, .int y]) ∧ 0 ≤ x ∧ 0 ≤ y ∧ y < 2147483648
/-- all but p as it was -/
def But (p : Addr) (H H' : Hp) : Prop := ∀ b o, b ≠ p → H b = some o → H' b = some o
theorem But.refl (p : Addr) (H : Hp) : But p H H := fun _ _ _ e => e
theorem But.trans {p : Addr} {H H1 H2 : Hp} (a : But p H H1) (b : But p H1 H2) : But p H H2 := fun c o n e => b c o n (a c o n e)
theorem But.new {p q : Addr} {H : Hp} {o : HO} (h : H q = none) : But p H (upd H q o) := fun b x _ e => same_upd h b x e
theorem But.at {p : Addr} {H : Hp} {o : HO} : But p H (upd H p o) := fun b x n e => by rw [upd_ne n]; exact e
theorem Pot.new {p q : Addr} {H : Hp} {o : HO} (h : H q = none) (P : Pot H p) : Pot (upd H q o) p := by
  obtain ⟨x, y, e, r⟩ := P
  exact ⟨x, y, same_upd h _ _ e, r⟩
theorem Pot.but {p q : Addr} {H H' : Hp} (P : Pot H p) (b : But q H H') (n : p ≠ q) : Pot H' p := by
  obtain ⟨x, y, e, r⟩ := P
  exact ⟨x, y, b _ _ n e, r⟩
def LitM (m : Int) : Prop := 0 < m ∧ m.natAbs.log2 < 9000
/-- all but p -/
def away (p : Addr) (H : Hp) : Hp := fun b => if b = p then none else H b
theorem away_some {p b : Addr} {H : Hp} {o : HO} (h : away p H b = some o) : b ≠ p ∧ H b = some o := by
  unfold away at h
  split at h
  · cases h
  · rename_i c
    exact ⟨c, h⟩
theorem away_mk {p b : Addr} {H : Hp} {o : HO} (n : b ≠ p) (h : H b = some o) : away p H b = some o := by
  unfold away
  rw [if_neg n]
  exact h
theorem But.away {p : Addr} {H H' : Hp} (b : But p H H') : Same (away p H) (away p H') := fun c o e => away_mk (away_some e).1 (b c o (away_some e).1 (away_some e).2)
theorem away_sub {p : Addr} {H : Hp} : Same (away p H) H := fun _ _ e => (away_some e).2
/-! ### texts that are drawn -/
def Tx (n : Nat) (z : Str) : Prop := z.length ≤ n ∧ ∀ c ∈ z.cps.toList, c < 128
theorem Tx.mono {n m : Nat} {z : Str} (h : Tx n z) (hn : n ≤ m) : Tx m z := ⟨Nat.le_trans h.1 hn, h.2⟩
theorem Tx.app {n m : Nat} {z y : Str} (h : Tx n z) (g : Tx m y) : Tx (n + m) (z ++ y) := by
  refine ⟨by rw [Str.length_append]; exact Nat.add_le_add h.1 g.1, fun c hc => ?_⟩
  rw [Str.cps_append, Array.toList_append, List.mem_append] at hc
  exact hc.elim (h.2 c) (g.2 c)
theorem Tx.cut {n : Nat} {z : Str} (h : Tx n z) (lo hi : Option Int) : Tx n (cutS z lo hi) :=
  ⟨Nat.le_trans (cutS_length z lo hi) h.1, fun c hc => h.2 c (List.mem_of_mem_drop (List.mem_of_mem_take hc))⟩
theorem joinL_ones : ∀ cs : List Nat, TL.joinL [] (cs.map fun c => [c]) = cs
  | [] => rfl
  | [_] => rfl
  | c :: d :: r => by
    show [c] ++ ([] ++ TL.joinL [] ((d :: r).map fun c => [c])) = c :: d :: r
    rw [joinL_ones (d :: r)]
    rfl
theorem join_ones (cs : List Nat) : (Txt.join "" (cs.map fun c => (⟨#[c]⟩ : Str))).cps.toList = cs := by
  rw [TL.join_eq]
  have h := TL.tl_join "" (cs.map fun c => (⟨#[c]⟩ : Str))
  have e : (cs.map fun c => (⟨#[c]⟩ : Str)).map TL.tl = cs.map fun c => [c] := by
    rw [List.map_map]
    rfl
  rw [e] at h
  exact h.trans (joinL_ones cs)
theorem Tx.join {cs : List Nat} {n : Nat} (hn : cs.length ≤ n) (h : ∀ c ∈ cs, c < 128) : Tx n (Txt.join "" (cs.map fun c => (⟨#[c]⟩ : Str))) := by
  have e := join_ones cs
  refine ⟨?_, fun c hc => h c (e ▸ hc)⟩
  show (Txt.join "" (cs.map fun c => (⟨#[c]⟩ : Str))).cps.size ≤ n
  rw [← Array.length_toList, e]
  exact hn
theorem lens_ones : ∀ cs : List Nat, ((cs.map fun c => (⟨#[c]⟩ : Str)).map (·.length)).sum = cs.length
  | [] => rfl
  | c :: r => by
    show 1 + ((r.map fun c => (⟨#[c]⟩ : Str)).map (·.length)).sum = r.length + 1
    rw [lens_ones r]
    omega
theorem litM (m : Int) (h : 0 < m) (h2 : m < 2 ^ 300) : LitM m := by
  refine ⟨h, ?_⟩
  have a : m.natAbs < 2 ^ 300 := by omega
  exact Nat.lt_trans (PySem.Flt.log2_lt_of (by decide) a) (by decide)
theorem same_but {p : Addr} {H H' : Hp} (s : Same H H') : But p H H' := fun b o _ e => s b o e
theorem Pot.same {p : Addr} {H H' : Hp} (h : Pot H p) (s : Same H H') : Pot H' p := by
  obtain ⟨x, y, e, r⟩ := h
  exact ⟨x, y, s _ _ e, r⟩
end Rc

namespace Rc
open PySem PySem.Spec PyProof.Rows L2
def topS (i : Nat) : Stmt := PySem.Challenge.pw_ringclear_k61_ends_of_vectors.main.body.getD i (.Pass ⟨0, 0, 0, 0⟩)
section
variable {P : Program} {w : World} {K : PySem.W.Frag} {mg : Str → Option Value} {base : Heap}
/-! ### is_name -/
abbrev sName : Stmt := topS 18
theorem scName : FnScope ["thing", "sign"] ["thing"] (defScope sName) := ⟨rfl, rfl, rfl, by decide +kernel, rfl, by decide +kernel, by decide +kernel⟩
def spBool (K : PySem.W.Frag) (f : PyData → Bool) : Sp := fun vs H Q _ => ∃ v d, vs = [v] ∧ Dt K H v d ∧ ShortD d ∧ ∀ H', Same H H' → Q (.bl (f d)) H'
structure Blt (mg : Str → Option Value) : Prop where
  isi : mg "isinstance" = none
  str : mg "str" = none
  int : mg "int" = none
  bool : mg "bool" = none
  len : mg "len" = none
  all : mg "all" = none
theorem ok_name {f : Addr} {fd : FuncData} {k : Nat} (F : Fun K "is_name" "is_name" sName f fd) (B : Blt mg)
    (gL : ∃ t, mg "LETTERS" = some (.str "abcdefghijklmnopqrstuvwxyz" t)) (gM : ∃ t, mg "LONGEST" = some (.int 8 t)) :
    FnOk P w K mg base CX0 (k + 1) f fd ["thing"] (spBool K nameD) := by
  obtain ⟨tL, gL⟩ := gL
  obtain ⟨tM, gM⟩ := gM
  refine F.ok scName (fun vs H Q E h => ?_) (fun cdv A outer s H vs Q E hr h => ?_)
  · obtain ⟨v, d, rfl, _⟩ := h
    rfl
  · obtain ⟨v, d, rfl, hd, hz, q⟩ := h
    refine ⟨_, pss_cons (ps_if (pt_not (pt_val (pe_callB call_isi (by rfl) B.isi (by decide +kernel) (pa_cons (pv 0) (pa_cons (pe_bltn (v := .ty "str") (by rfl) B.str (by decide +kernel) rfl) pa_nil)))))
        (pss_one (ps_ret pe_bl)) pss_nil)
      (pss_cons (ps_if (PW.pt (pw_or (pt_cmpR op_lt (pe_callB call_len_str (by rfl) B.len PySem.boot_len (pa_cons (pv 0) pa_nil)) pe_int (nomark _))
          (pw_or1 (pt_cmpR op_gt (pe_callB call_len_str (by rfl) B.len PySem.boot_len (pa_cons (pv 0) pa_nil)) (pe_glob (v := .int 8) (by rfl) gM ⟨_, rfl⟩) (nomark _)))))
        (pss_one (ps_ret pe_bl)) pss_nil)
      (pss_one (ps_ret (pe_callB (cr_all rfl) (by rfl) B.all (by decide +kernel) (pa_cons
        (pe_lc (own := [("sign", 1)]) (g := gName 1) (tt := tYes) rfl scName.nd (pi_str (pv 0)) (blkOk_by (N := ["thing", "sign"]) (sc := defScope sName) (own := [("sign", 1)]) (by decide +kernel))
          (fun _ _ _ _ _ => pg_name (i := 1) scName.nd rfl (.inl rfl)) (fun _ _ _ _ _ => pts_nil)
          (fun _ _ _ _ _ => pe_cmpR op_in_sign (pv 1) (pe_glob (v := .str "abcdefghijklmnopqrstuvwxyz") (by rfl) gL ⟨_, rfl⟩) (by rfl))) pa_nil))))), ?_⟩
    refine ⟨v, rfl, v, .ty "str", _, _, strD d, rfl, .ty "str", hd.ty, kit_str d, _, rfl, ?_⟩
    cases hd with
    | str z =>
      refine iteF ?_
      have hz1 := hz z rfl
      have hz2 := small_line hz1
      refine ⟨.str z, rfl, z, rfl, hz2, _, _, rfl, rfl, _, rfl, ite2 (fun e => ?_) (fun e => ?_)⟩
      · refine iteT ?_
        have e1 : (z.length : Int) < 1 := of_decide_eq_true e
        have en : nameD (.str z) = false := by
          show nameT z = false
          unfold nameT
          rw [decide_eq_false (show ¬ 1 ≤ z.length by omega)]
          rfl
        rw [en] at q
        exact q _ (Same.refl _)
      · have e1 : ¬ (z.length : Int) < 1 := fun c => e (decide_eq_true c)
        refine ⟨.str z, rfl, z, rfl, hz2, _, _, rfl, rfl, _, rfl, ite2 (fun e2 => ?_) (fun e2 => ?_)⟩
        · have e3 : (8 : Int) < z.length := of_decide_eq_true e2
          have en : nameD (.str z) = false := by
            show nameT z = false
            unfold nameT
            rw [decide_eq_false (show ¬ z.length ≤ 8 by omega), Bool.and_false]
            rfl
          rw [en] at q
          exact q _ (Same.refl _)
        · have e3 : ¬ (8 : Int) < z.length := fun c => e2 (decide_eq_true c)
          refine ⟨.str z, rfl, z, rfl, fun D hD => lc_it walk_str (fun i H' => Same H H' ∧ H' D = some (.lst ((z.cps.toList.take i).map fun c => .bl (decide (c ∈ abc)))))
            ⟨same_upd hD, upd_same⟩ (fun _ _ _ _ => trivial) (fun i x H1 H2 hi hP hY => ?_) (fun H1 hP => ?_)⟩
          · obtain ⟨rfl, c, hc, rfl⟩ := hY
            refine ⟨rfl, .str ⟨#[c]⟩, rfl, c, _, rfl, rfl, _, hP.2, ?_, ?_, ?_⟩
            · rw [List.length_map, List.length_take]
              exact Nat.lt_of_le_of_lt (Nat.min_le_left _ _) (small1000 (by have : z.cps.size = z.length := rfl; omega))
            · intro b o eb
              rw [upd_ne (ne_of_none eb hD)]
              exact hP.1 b o eb
            · rw [upd_same, List.take_add_one, List.map_append]
              have g : z.cps.toList[i]? = some c := by rw [Array.getElem?_toList]; exact hc
              rw [g, letters_abc]
              rfl
          · refine ⟨D, z.cps.toList.map fun c => decide (c ∈ abc), rfl, .inl (.inl ?_), ?_⟩
            · have ez : z.cps.size = z.cps.toList.length := rfl
              rw [hP.2, ez, List.take_length, List.map_map]
              rfl
            · have en : nameD (.str z) = (z.cps.toList.map fun c => decide (c ∈ abc)).all id := by
                show nameT z = _
                unfold nameT
                rw [decide_eq_true (show 1 ≤ z.length by omega), decide_eq_true (show z.length ≤ 8 by omega), List.all_map]
                rfl
              rw [← en]
              exact q _ hP.1
    | _ => exact iteT (q _ (Same.refl _))
/-! ### is_whole, is_amount -/
abbrev sWhole : Stmt := topS 19
theorem scWhole : FnScope ["thing"] ["thing"] (defScope sWhole) := ⟨rfl, rfl, rfl, by decide +kernel, rfl, by decide +kernel, by decide +kernel⟩
theorem whole_eq (d : PyData) : (if (wholeD d || boolD d) = true then !boolD d else false) = wholeD d := by cases d <;> rfl
theorem ok_whole {f : Addr} {fd : FuncData} {k : Nat} (F : Fun K "is_whole" "is_whole" sWhole f fd) (B : Blt mg) :
    FnOk P w K mg base CX0 (k + 1) f fd ["thing"] (spBool K wholeD) := by
  refine F.ok scWhole (fun vs H Q E h => ?_) (fun cdv A outer s H vs Q E hr h => ?_)
  · obtain ⟨v, d, rfl, _⟩ := h
    rfl
  · obtain ⟨v, d, rfl, hd, hz, q⟩ := h
    refine ⟨_, pss_one (ps_ret (pe_and (pe_callB call_isi (by rfl) B.isi (by decide +kernel) (pa_cons (pv 0) (pa_cons (pe_bltn (v := .ty "int") (by rfl) B.int (by decide +kernel) rfl) pa_nil)))
      (pe_one (pe_not (pe_callB call_isi (by rfl) B.isi (by decide +kernel) (pa_cons (pv 0) (pa_cons (pe_bltn (v := .ty "bool") (by rfl) B.bool (by decide +kernel) rfl) pa_nil))))))), ?_⟩
    refine ⟨v, rfl, v, .ty "int", _, _, _, rfl, .ty "int", hd.ty, kit_int d, _, rfl, ?_⟩
    have e := whole_eq d
    have q1 := q H (Same.refl _)
    cases c : (wholeD d || boolD d) with
    | true =>
      rw [c, if_pos rfl] at e
      exact iteT ⟨v, rfl, v, .ty "bool", _, _, _, rfl, .ty "bool", hd.ty, kit_bool d, _, rfl, by rw [e]; exact q1⟩
    | false =>
      rw [c, if_neg Bool.false_ne_true] at e
      exact iteF (by rw [e]; exact q1)
abbrev sAmount : Stmt := topS 20
theorem scAmount : FnScope ["thing"] ["thing"] (defScope sAmount) := ⟨rfl, rfl, rfl, by decide +kernel, rfl, by decide +kernel, by decide +kernel⟩
theorem ok_amount {f fW : Addr} {fd fdW : FuncData} {k : Nat} (F : Fun K "is_amount" "is_amount" sAmount f fd) (FW : Fun K "is_whole" "is_whole" sWhole fW fdW)
    (bW : Binds K fdW ["thing"] []) (gW : mg "is_whole" = some (.ref fW)) (B : Blt mg) :
    FnOk P w K mg base CX0 (k + 2) f fd ["thing"] (spBool K amountD) := by
  have GW : FnOk P w K mg base CX0 (k + 1) fW fdW ["thing"] (spBool K wholeD) := ok_whole FW B
  refine F.ok scAmount (fun vs H Q E h => ?_) (fun cdv A outer s H vs Q E hr h => ?_)
  · obtain ⟨v, d, rfl, _⟩ := h
    rfl
  · obtain ⟨v, d, rfl, hd, hz, q⟩ := h
    refine ⟨_, pss_one (ps_ret (pe_and (pe_call GW hr (by rfl) gW FW.kp bW .nil pass0 (pa_cons (pv 0) pa_nil)) (pe_one (pe_cmpR op_ge (pv 0) pe_int (nomark _))))), ?_⟩
    refine ⟨v, rfl, v, d, rfl, hd, hz, fun H' sm => ⟨_, rfl, ?_⟩⟩
    have q1 := q H' sm
    cases hd with
    | int i => exact iteT ⟨_, rfl, i, 1, rfl, rfl, q1⟩
    | _ => exact iteF q1
end
end Rc

namespace Rc
open PySem PySem.Spec PyProof.Rows L2
section
variable {P : Program} {w : World} {K : PySem.W.Frag} {mg : Str → Option Value} {base : Heap}
structure Blt2 (mg : Str → Option Value) : Prop where
  abs : mg "abs" = none
  max : mg "max" = none
  min : mg "min" = none
  divmod : mg "divmod" = none
  range : mg "range" = none
  repr : mg "repr" = none
/-! ### _law_pot -/
abbrev sPot : Stmt := topS 36
theorem scPot : FnScope ["_law_script", "_law_k", "_law_cell"] ["_law_script", "_law_k"] (defScope sPot) := ⟨rfl, rfl, rfl, by decide +kernel, rfl, by decide +kernel, by decide +kernel⟩
def spPot (K : PySem.W.Frag) : Sp := fun vs H Q _ => ∃ (a : Addr) (ns : List Int) (k : Int), vs = [.ref a, .int k] ∧ SqL K H a (ns.map V.int) ∧ 0 ≤ k ∧ k ≤ 1000 ∧
  ∀ p o, H p = none → Pot (upd H p o) p → Q (.ref p) (upd H p o)
theorem ok_pot {f : Addr} {fd : FuncData} {k : Nat} (F : Fun K "_law_pot" "_law_pot" sPot f fd) (B : Blt mg) (B2 : Blt2 mg) :
    FnOk P w K mg base CX0 (k + 1) f fd ["_law_script", "_law_k"] (spPot K) := by
  refine F.ok scPot (fun vs H Q E h => ?_) (fun cdv A outer s H vs Q E hr h => ?_)
  · obtain ⟨a, ns, k, rfl, _⟩ := h
    rfl
  · obtain ⟨a, ns, k, rfl, hS, k0, k1, q⟩ := h
    refine ⟨_, pss_cons (ps_set (i := 2) scPot.nd rfl (.inl rfl) pe_int)
      (pss_cons (ps_if (pt_cmpR op_lt (pv 1) (pe_callB call_len_seq (by rfl) B.len PySem.boot_len (pa_cons (pv 0) pa_nil)) (nomark _))
        (pss_one (ps_set (i := 2) scPot.nd rfl (.inl rfl) (pe_callB call_abs (by rfl) B2.abs (by decide +kernel) (pa_cons (pe_ix ix_list (pv 0) (pv 1) (fun _ _ => rfl)) pa_nil)))) pss_nil)
      (pss_one (ps_ret (pe_lst (pa_cons (pe_callB (call_max2 rfl) (by rfl) B2.max (by decide +kernel) (pa_cons pe_int (pa_cons (pe_op op_sub (pv 2) (pe_op op_pow pe_int pe_int)) pa_nil)))
        (pa_cons (pe_op op_add (pe_op op_mod (pe_op op_pow (pe_op op_add (pe_op op_add (pe_op op_mod (pv 2) pe_int) (pe_op op_mul pe_int (pv 1))) pe_int) pe_int) pe_int) pe_int) pa_nil)))))), ?_⟩
    have fin : ∀ c : Int, 0 ≤ c → ∃ v, ([some (.ref a), some (.int k), some (.int c)] : List (Option V))[2]? = some (some v) ∧ v = .int c := fun c _ => ⟨_, rfl, rfl⟩
    have three : ∀ c : Int, 0 ≤ c → 0 ≤ c % 2147483549 + 101 * k + 1 ∧ (c % 2147483549 + 101 * k + 1).natAbs < 2 ^ 64 := fun c h0 => by
      have a1 : 0 ≤ c % 2147483549 := Int.emod_nonneg _ (by decide)
      have a2 : c % 2147483549 < 2147483549 := Int.emod_lt_of_pos _ (by decide)
      omega
    refine ⟨_, rfl, .ref a, rfl, a, _, rfl, .inl hS, _, _, rfl, rfl, _, rfl, ite2 (fun e => ?_) (fun e => ?_)⟩
    · have e1 : k < (ns.map V.int).length := of_decide_eq_true e
      rw [List.length_map] at e1
      obtain ⟨n, rfl⟩ := Int.eq_ofNat_of_zero_le k0
      have hn : n < ns.length := by omega
      have g : (ns.map V.int)[n]? = some (.int ns[n]) := by
        rw [List.getElem?_map, List.getElem?_eq_getElem hn]
        rfl
      refine ⟨.ref a, rfl, .int n, rfl, a, _, _, _, rfl, rfl, hS, atI_nat g, _, rfl, ?_⟩
      have c0 : 0 ≤ (if ns[n] < 0 then -ns[n] else ns[n]) := by split <;> omega
      generalize (if ns[n] < 0 then -ns[n] else ns[n]) = c at c0
      obtain ⟨t1, t2⟩ := three c c0
      refine ⟨.int c, rfl, _, _, rfl, rfl, ⟨by decide, by decide, by decide⟩, _, _, rfl, rfl, _, _, rfl, .int c, rfl, _, _, rfl, rfl, (show (0 : Int) < 2147483549 by decide), .int n, rfl, _, _, rfl, rfl, .inl ⟨by decide, by decide⟩, _, _, rfl, rfl, _, _, rfl, rfl, _, _, rfl, rfl, ⟨by decide, by decide, t2⟩, _, _, rfl, rfl, (show (0 : Int) < 2147483543 by decide), _, _, rfl, rfl, by show 2 ≤ sizeLine; decide, fun p np => ?_⟩
      refine q p _ np ⟨_, _, upd_same, ?_, ?_, ?_⟩
      · split <;> omega
      · have := Int.emod_nonneg ((c % 2147483549 + 101 * n + 1) ^ (2 : Int).toNat) (show (2147483543 : Int) ≠ 0 by decide)
        omega
      · have := Int.emod_lt_of_pos ((c % 2147483549 + 101 * n + 1) ^ (2 : Int).toNat) (show (0 : Int) < 2147483543 by decide)
        omega
    · obtain ⟨t1, t2⟩ := three 0 (Int.le_refl _)
      refine ⟨.int 0, rfl, _, _, rfl, rfl, ⟨by decide, by decide, by decide⟩, _, _, rfl, rfl, _, _, rfl, .int 0, rfl, _, _, rfl, rfl, (show (0 : Int) < 2147483549 by decide), .int k, rfl, _, _, rfl, rfl, .inl ⟨by decide, by decide⟩, _, _, rfl, rfl, _, _, rfl, rfl, _, _, rfl, rfl, ⟨by decide, by decide, t2⟩, _, _, rfl, rfl, (show (0 : Int) < 2147483543 by decide), _, _, rfl, rfl, by show 2 ≤ sizeLine; decide, fun p np => ?_⟩
      refine q p _ np ⟨_, _, upd_same, ?_, ?_, ?_⟩
      · split <;> omega
      · have := Int.emod_nonneg (((0 : Int) % 2147483549 + 101 * k + 1) ^ (2 : Int).toNat) (show (2147483543 : Int) ≠ 0 by decide)
        omega
      · have := Int.emod_lt_of_pos (((0 : Int) % 2147483549 + 101 * k + 1) ^ (2 : Int).toNat) (show (0 : Int) < 2147483543 by decide)
        omega
/-! ### _law_take -/
abbrev sTake : Stmt := topS 37
theorem scTake : FnScope ["_law_pot_here", "_law_many", "_law_digit"] ["_law_pot_here", "_law_many"] (defScope sTake) := ⟨rfl, rfl, rfl, by decide +kernel, rfl, by decide +kernel, by decide +kernel⟩
def spTake : Sp := fun vs H Q _ => ∃ (p : Addr) (m : Int), vs = [.ref p, .int m] ∧ Pot H p ∧ LitM m ∧ ∀ d H', 0 ≤ d → d < m → Pot H' p → But p H H' → Q (.int d) H'
theorem ok_take {f : Addr} {fd : FuncData} {k : Nat} (F : Fun K "_law_take" "_law_take" sTake f fd) (B2 : Blt2 mg) :
    FnOk P w K mg base CX0 (k + 1) f fd ["_law_pot_here", "_law_many"] spTake := by
  refine F.ok scTake (fun vs H Q E h => ?_) (fun cdv A outer s H vs Q E hr h => ?_)
  · obtain ⟨a, m, rfl, _⟩ := h
    rfl
  · obtain ⟨p, m, rfl, ⟨x, y, hp, x0, y0, y1⟩, ⟨m0, m1⟩, q⟩ := h
    refine ⟨_, pss_cons (ps_if (pt_cmpR op_gt (pe_ix ix_list (pv 0) pe_int (fun _ _ => rfl)) pe_int (nomark _))
        (pss_cons (ps_asg (pe_callB call_divmodW (by rfl) B2.divmod (by decide +kernel) (pa_cons (pe_ix ix_list (pv 0) pe_int (fun _ _ => rfl)) (pa_cons (pv 1) pa_nil)))
            (pg_tup rfl (pgs_cons (pg_sub (pv 0) pe_int set_list) (pgs_cons (pg_name (i := 2) scTake.nd rfl (.inl rfl)) pgs_nil))))
          (pss_one (ps_ret (pv 2)))) pss_nil)
      (pss_cons (ps_asg (pe_op op_mod (pe_op op_add (pe_op op_mul (pe_ix ix_list (pv 0) pe_int (fun _ _ => rfl)) pe_int) pe_int) pe_int) (pg_sub (pv 0) pe_int set_list))
      (pss_one (ps_ret (pe_op op_mod (pe_op op_fdiv (pe_op op_mod (pe_op op_mul (pe_ix ix_list (pv 0) pe_int (fun _ _ => rfl)) (pe_ix ix_list (pv 0) pe_int (fun _ _ => rfl))) pe_int) pe_int) (pv 1))))), ?_⟩
    have sq : SqL K H p [.int x, .int y] := .inl (.inl hp)
    refine ⟨.ref p, rfl, p, _, 0, .int x, rfl, rfl, sq, rfl, _, _, rfl, rfl, _, rfl, ite2 (fun e => ?_) (fun e => ?_)⟩
    · have e1 : 0 < x := of_decide_eq_true e
      refine ⟨.ref p, rfl, p, _, 0, .int x, rfl, rfl, sq, rfl, .int m, rfl, x, m, rfl, ⟨m0, PyProof.noPylong_of_log2 m1⟩, fun T hT => ?_⟩
      refine ⟨T, _, rfl, .inl (.inl upd_same), rfl, _, _, rfl, .ref p, rfl, p, _, 0, 0, rfl, rfl, same_upd hT _ _ hp, rfl, _, _, rfl, rfl, ?_⟩
      refine ⟨_, rfl, q _ _ (Int.emod_nonneg _ (by omega)) (Int.emod_lt_of_pos _ m0) ⟨x / m, y, upd_same, Int.ediv_nonneg x0 (by omega), y0, y1⟩ ?_⟩
      exact (But.new hT).trans But.at
    · have c0 : 0 ≤ (y * 48271 + 10007) % 2147483587 := Int.emod_nonneg _ (by decide)
      have c1 : (y * 48271 + 10007) % 2147483587 < 2147483587 := Int.emod_lt_of_pos _ (by decide)
      refine ⟨.ref p, rfl, p, _, 1, .int y, rfl, rfl, sq, rfl, _, _, rfl, rfl, .inl ⟨by omega, by omega⟩, _, _, rfl, rfl, _, _, rfl, rfl, (show (0 : Int) < 2147483587 by decide), .ref p, rfl, p, _, 1, 1, rfl, rfl, hp, rfl, ?_⟩
      have sq2 : SqL K (upd H p (.lst ([V.int x, V.int y].set 1 (.int ((y * 48271 + 10007) % 2147483587))))) p [.int x, .int ((y * 48271 + 10007) % 2147483587)] := .inl (.inl upd_same)
      refine ⟨.ref p, rfl, p, _, 1, _, rfl, rfl, sq2, rfl, .ref p, rfl, p, _, 1, _, rfl, rfl, sq2, rfl, _, _, rfl, rfl, .inl ⟨by omega, by omega⟩, _, _, rfl, rfl, (show (0 : Int) < 2147483563 by decide), _, _, rfl, rfl, ⟨by decide, by decide⟩, .int m, rfl, _, _, rfl, rfl, m0, ?_⟩
      exact q _ _ (Int.emod_nonneg _ (by omega)) (Int.emod_lt_of_pos _ m0) ⟨x, _, upd_same, x0, c0, by omega⟩ But.at
/-- what the callers of _law_take have -/
structure HasTake (P : Program) (w : World) (K : PySem.W.Frag) (mg : Str → Option Value) (base : Heap) (f : Addr) (fd : FuncData) : Prop where
  ok : FnOk P w K mg base CX0 1 f fd ["_law_pot_here", "_law_many"] spTake
  g : mg "_law_take" = some (.ref f)
  kp : PySem.W.keepIn K (.ref f) = true
  b : Binds K fd ["_law_pot_here", "_law_many"] []
/-! ### _law_among -/
abbrev sAmong : Stmt := topS 40
theorem scAmong : FnScope ["_law_pot_here", "_law_some"] ["_law_pot_here", "_law_some"] (defScope sAmong) := ⟨rfl, rfl, rfl, by decide +kernel, rfl, by decide +kernel, by decide +kernel⟩
def spAmong : Sp := fun vs H Q _ => ∃ p v, vs = [.ref p, v] ∧ Pot H p ∧
  ((∃ z, v = .str z ∧ 0 < z.length ∧ z.length ≤ 1000 ∧ ∀ c H', c ∈ z.cps.toList → Pot H' p → But p H H' → Q (.str ⟨#[c]⟩) H') ∨
   (∃ a xs, v = .ref a ∧ a ≠ p ∧ H a = some (.lst xs) ∧ 0 < xs.length ∧ xs.length ≤ 1000 ∧ ∀ x H', x ∈ xs → Pot H' p → But p H H' → Q x H'))
theorem ok_among {f fT : Addr} {fd fdT : FuncData} (F : Fun K "_law_among" "_law_among" sAmong f fd) (B : Blt mg) (T : HasTake P w K mg base fT fdT) :
    FnOk P w K mg base CX0 2 f fd ["_law_pot_here", "_law_some"] spAmong := by
  refine F.ok scAmong (fun vs H Q E h => ?_) (fun cdv A outer s H vs Q E hr h => ?_)
  · obtain ⟨a, m, rfl, _⟩ := h
    rfl
  · obtain ⟨p, v, rfl, hp, h⟩ := h
    refine ⟨_, pss_one (ps_ret (pe_ix ix_seq (pv 1) (pe_call T.ok hr (by rfl) T.g T.kp T.b .nil pass0 (pa_cons (pv 0) (pa_cons (pe_callB call_len (by rfl) B.len PySem.boot_len (pa_cons (pv 1) pa_nil)) pa_nil))) (fun _ _ => rfl))), ?_⟩
    rcases h with ⟨z, rfl, z0, z1, q⟩ | ⟨a, xs, rfl, ne, ha, x0, x1, q⟩
    · have zl := small_line z1
      refine ⟨.str z, rfl, .ref p, rfl, .str z, rfl, .str z, z.length, rfl, ⟨zl, rfl⟩, p, z.length, rfl, hp, litM _ (by omega) (by omega), fun d H' d0 d1 hp' hb => ?_⟩
      have el : z.cps.toList.length = z.length := rfl
      obtain ⟨c, e1, e2⟩ := pick (xs := z.cps.toList) d0 (by rw [el]; exact d1)
      exact .inr (.inr ⟨z, d, c, rfl, rfl, zl, e1, q c H' e2 hp' hb⟩)
    · refine ⟨.ref a, rfl, .ref p, rfl, .ref a, rfl, .ref a, xs.length, rfl, .inl ⟨xs, .inl (.inl ha), rfl⟩, p, xs.length, rfl, hp, litM _ (by omega) (by omega), fun d H' d0 d1 hp' hb => ?_⟩
      obtain ⟨c, e1, e2⟩ := pick (xs := xs) d0 d1
      exact .inl ⟨a, xs, d, c, rfl, rfl, .inl (.inl (hb _ _ ne ha)), e1, q c H' e2 hp' hb⟩
structure HasAmong (P : Program) (w : World) (K : PySem.W.Frag) (mg : Str → Option Value) (base : Heap) (f : Addr) (fd : FuncData) : Prop where
  ok : FnOk P w K mg base CX0 2 f fd ["_law_pot_here", "_law_some"] spAmong
  g : mg "_law_among" = some (.ref f)
  kp : PySem.W.keepIn K (.ref f) = true
  b : Binds K fd ["_law_pot_here", "_law_some"] []
end
end Rc

namespace Rc
open PySem PySem.Spec PyProof.Rows L2
/-! ### what no list and no dict touches -/
def Fix : HO → Prop
  | .lst _ | .dK _ | .dT _ | .set _ _ => False
  | _ => True
/-- all but lists and dicts as it was -/
def Kp (H H' : Hp) : Prop := ∀ b o, H b = some o → Fix o → H' b = some o
theorem Kp.refl (H : Hp) : Kp H H := fun _ _ e _ => e
theorem Kp.trans {H H1 H2 : Hp} (a : Kp H H1) (b : Kp H1 H2) : Kp H H2 := fun c o e f => b c o (a c o e f) f
theorem Same.kp {H H' : Hp} (s : Same H H') : Kp H H' := fun b o e _ => s b o e
theorem But.kp {p : Addr} {H H' : Hp} {xs : List V} (s : But p H H') (h : H p = some (.lst xs)) : Kp H H' := fun b o e f => s b o (fun z => by
  rw [z, h] at e
  cases e
  exact f) e
/-- all tuples as they were -/
def TupO : HO → Prop
  | .tup _ | .frz _ _ => True
  | _ => False
def KT (H H' : Hp) : Prop := ∀ b o, H b = some o → TupO o → H' b = some o
theorem Kp.kt {H H' : Hp} (k : Kp H H') : KT H H' := fun b o e t => k b o e (by cases o <;> first | exact t.elim | exact trivial)
theorem kt_same {H H' : Hp} (s : Same H H') : KT H H' := fun b o e _ => s b o e
theorem KT.trans {H H1 H2 : Hp} (a : KT H H1) (b : KT H1 H2) : KT H H2 := fun c o e f => b c o (a c o e f) f
theorem kt_upd {H : Hp} {x : Addr} {o o' : HO} (h : H x = some o) (n : ¬ TupO o) : KT H (upd H x o') := fun b u e t => by
  have nb : b ≠ x := fun z => by
    rw [z, h] at e
    cases e
    exact n t
  rw [upd_ne nb]
  exact e
mutual
/-- no list, no dict in it -/
def tupD : PyData → Bool
  | .list _ | .dict _ => false
  | .tuple ds => tupDs ds
  | .none | .bool _ | .int _ | .str _ => true
def tupDs : List PyData → Bool
  | [] => true
  | d :: ds => tupD d && tupDs ds
end
mutual
theorem Dt.keepT {K : PySem.W.Frag} {H H' : Hp} (e : KT H H') : ∀ {v : V} (d : PyData), tupD d = true → Dt K H v d → Dt K H' v d
  | _, .none, _, h => by cases h; exact .non
  | _, .bool _, _, h => by cases h; exact .bl _
  | _, .int _, _, h => by cases h; exact .int _
  | _, .str _, _, h => by cases h; exact .str _
  | _, .list ds, t, h => by simp [tupD] at t
  | _, .dict ps, t, h => by simp [tupD] at t
  | _, .tuple ds, t, h => by
    cases h with
    | tup q a =>
      refine .tup ?_ (DtAll.keepT e ds (by simpa [tupD] using t) a)
      rcases q with (q | ⟨o, q⟩) | q
      · exact .inl (.inl (e _ _ q trivial))
      · exact .inl (.inr ⟨o, e _ _ q trivial⟩)
      · exact .inr q
theorem DtAll.keepT {K : PySem.W.Frag} {H H' : Hp} (e : KT H H') : ∀ {vs : List V} (ds : List PyData), tupDs ds = true → DtAll K H vs ds → DtAll K H' vs ds
  | _, [], _, h => by cases h; exact .nil
  | _, d :: ds, t, h => by
    cases h with
    | cons a b =>
      have t' : tupD d = true ∧ tupDs ds = true := by simpa [tupDs] using t
      exact .cons (Dt.keepT e d t'.1 a) (DtAll.keepT e ds t'.2 b)
end
theorem Dt.keep {K : PySem.W.Frag} {H H' : Hp} (e : Kp H H') {v : V} (d : PyData) (t : tupD d = true) (h : Dt K H v d) : Dt K H' v d := Dt.keepT e.kt d t h
theorem DtAll.keep {K : PySem.W.Frag} {H H' : Hp} (e : Kp H H') {vs : List V} (ds : List PyData) (t : tupDs ds = true) (h : DtAll K H vs ds) : DtAll K H' vs ds := DtAll.keepT e.kt ds t h
theorem tupDs_map {α : Type} {f : α → PyData} (h : ∀ x, tupD (f x) = true) : ∀ l : List α, tupDs (l.map f) = true
  | [] => rfl
  | x :: r => by
    rw [List.map_cons]
    simp only [tupDs, h x, tupDs_map h r, Bool.and_self]
theorem DtAll.drop {K : PySem.W.Frag} {H : Hp} : ∀ {vs : List V} {ds : List PyData} (n : Nat), DtAll K H vs ds → DtAll K H (vs.drop n) (ds.drop n)
  | _, _, 0, h => h
  | _, _, _ + 1, .nil => .nil
  | _, _, n + 1, .cons _ t => DtAll.drop n t
theorem DtAll.take {K : PySem.W.Frag} {H : Hp} : ∀ {vs : List V} {ds : List PyData} (n : Nat), DtAll K H vs ds → DtAll K H (vs.take n) (ds.take n)
  | _, _, 0, h => .nil
  | _, _, _ + 1, .nil => .nil
  | _, _, n + 1, .cons a t => .cons a (DtAll.take n t)
theorem DtAll.get {K : PySem.W.Frag} {H : Hp} : ∀ {vs : List V} {ds : List PyData} {n : Nat} {d : PyData}, DtAll K H vs ds → ds[n]? = some d → ∃ v, vs[n]? = some v ∧ Dt K H v d
  | _, _, _, _, .nil, e => by simp at e
  | _, _, 0, _, .cons a _, e => by
    simp at e
    subst e
    exact ⟨_, rfl, a⟩
  | _, _, n + 1, _, .cons _ t, e => by
    obtain ⟨v, h1, h2⟩ := DtAll.get (n := n) t (by simpa using e)
    exact ⟨v, by simpa using h1, h2⟩
theorem DtAll.rep {K : PySem.W.Frag} {H : Hp} {v : V} {d : PyData} (h : Dt K H v d) : ∀ n : Nat, DtAll K H (List.replicate n v) (List.replicate n d)
  | 0 => .nil
  | n + 1 => .cons h (DtAll.rep h n)
theorem DtAll.strs {K : PySem.W.Frag} {H : Hp} : ∀ zs : List Str, DtAll K H (zs.map V.str) (zs.map PyData.str)
  | [] => .nil
  | z :: r => .cons (.str z) (DtAll.strs r)
theorem DtAll.ints {K : PySem.W.Frag} {H : Hp} : ∀ zs : List Int, DtAll K H (zs.map V.int) (zs.map PyData.int)
  | [] => .nil
  | z :: r => .cons (.int z) (DtAll.ints r)
theorem DtAll.strs_eq {K : PySem.W.Frag} {H : Hp} : ∀ {vs : List V} {zs : List Str}, DtAll K H vs (zs.map PyData.str) → vs = zs.map V.str
  | _, [], h => by cases h; rfl
  | _, z :: r, h => by
    cases h with
    | cons a t =>
      cases a
      rw [DtAll.strs_eq t]
      rfl
theorem DtAll.ints_eq {K : PySem.W.Frag} {H : Hp} : ∀ {vs : List V} {zs : List Int}, DtAll K H vs (zs.map PyData.int) → vs = zs.map V.int
  | _, [], h => by cases h; rfl
  | _, z :: r, h => by
    cases h with
    | cons a t =>
      cases a
      rw [DtAll.ints_eq t]
      rfl
/-! ### rules by data -/
theorem Dt.tup_inv {K : PySem.W.Frag} {H : Hp} {v : V} {ds : List PyData} (h : Dt K H v (.tuple ds)) : ∃ a xs, v = .ref a ∧ SqT K H a xs ∧ DtAll K H xs ds := by
  cases h with
  | tup q a => exact ⟨_, _, rfl, q, a⟩
theorem Dt.lst_inv {K : PySem.W.Frag} {H : Hp} {v : V} {ds : List PyData} (h : Dt K H v (.list ds)) : ∃ a xs, v = .ref a ∧ SqL K H a xs ∧ DtAll K H xs ds := by
  cases h with
  | lst q a => exact ⟨_, _, rfl, q, a⟩
section
variable {X : Cx}
def rCatD (K : PySem.W.Frag) : R2 := fun x y H Q => ∃ ds es, Dt K H x (.tuple ds) ∧ Dt K H y (.tuple es) ∧ ds.length + es.length ≤ 1000 ∧ ∀ v H', Same H H' → Dt K H' v (.tuple (ds ++ es)) → Q v H'
theorem op_catD : OpR X (binaryOp .Add) (rCatD X.K) := by
  intro pins s σ H x y v u Q I rx ry h
  obtain ⟨ds, es, h1, h2, hz, q⟩ := h
  obtain ⟨a, xs, rfl, qa, da⟩ := h1.tup_inv
  obtain ⟨b, ys, rfl, qb, db⟩ := h2.tup_inv
  refine op_catA pins s σ H _ _ v u Q I rx ry ⟨a, b, xs, ys, rfl, rfl, qa, qb, small_line (by rw [da.len, db.len]; exact hz), fun e => ?_, fun _ e => ?_, fun _ _ p hp => ?_⟩
  · subst e
    cases da
    exact q _ H (Same.refl _) h2
  · subst e
    cases db
    rw [List.append_nil] at q
    exact q _ H (Same.refl _) h1
  · exact q _ _ (same_upd hp) (.tup (.inl (.inl upd_same)) ((DtAll.same (same_upd hp) _ da).append (DtAll.same (same_upd hp) _ db)))
/-- t[n], n from 0 on -/
def rIxD (K : PySem.W.Frag) : R2 := fun x y H Q => ∃ ds n d, Dt K H x (.tuple ds) ∧ y = .int (n : Nat) ∧ ds[n]? = some d ∧ ∀ v, Dt K H v d → Q v H
theorem ix_tupD : IxR X (rIxD X.K) := by
  intro value slice pins s σ H x y v u Q I rx ry h hs
  obtain ⟨ds, n, d, h1, rfl, e, q⟩ := h
  obtain ⟨a, xs, rfl, qa, da⟩ := h1.tup_inv
  obtain ⟨z, e1, e2⟩ := da.get e
  exact ix_tup value slice pins s σ H _ _ v u Q I rx ry ⟨a, xs, n, z, rfl, rfl, qa, atI_nat e1, q z e2⟩ hs
/-- t[:n], t[n:] -/
def rSlD (K : PySem.W.Frag) : V → Option Int → Option Int → Hp → VK → Prop := fun x lo hi H Q => ∃ ds, Dt K H x (.tuple ds) ∧
  ((∃ n : Nat, lo = none ∧ hi = some (n : Int) ∧ ∀ v H', Same H H' → Dt K H' v (.tuple (ds.take n)) → Q v H') ∨ (∃ n : Nat, lo = some (n : Int) ∧ hi = none ∧ ∀ v H', Same H H' → Dt K H' v (.tuple (ds.drop n)) → Q v H'))
theorem cut_take (xs : List V) (n : Nat) : cutV xs none (some (n : Int)) = xs.take n := by
  unfold cutV
  rw [HT.sIx_nat, HT.sIx_none]
  rw [List.drop_zero, Nat.sub_zero]
  by_cases h : n ≤ xs.length
  · rw [Nat.min_eq_left h]
  · rw [Nat.min_eq_right (by omega), List.take_length, List.take_of_length_le (by omega)]
theorem cut_drop (xs : List V) (n : Nat) : cutV xs (some (n : Int)) none = xs.drop n := by
  unfold cutV
  rw [HT.sIx_nat, HT.sIx_none]
  by_cases h : n ≤ xs.length
  · rw [Nat.min_eq_left h]
    exact List.take_of_length_le (by rw [List.length_drop]; omega)
  · rw [Nat.min_eq_right (by omega), List.drop_length, List.drop_of_length_le (by omega), List.take_nil]
theorem sl_tupD : SlR X (rSlD X.K) := by
  intro pins s σ H x v vl vu lo hi sl Q I rx hs pl pu h
  obtain ⟨ds, h1, h⟩ := h
  obtain ⟨a, xs, rfl, qa, da⟩ := h1.tup_inv
  rcases h with ⟨n, rfl, rfl, q⟩ | ⟨n, rfl, rfl, q⟩
  · refine sl_tupA pins s σ H _ v vl vu _ _ sl Q I rx hs pl pu ⟨a, xs, rfl, qa, fun e => ?_, fun _ p hp => ?_⟩
    · have e2 := e.2
      rw [HT.sIx_nat] at e2
      refine q _ H (Same.refl _) ?_
      rw [List.take_of_length_le (by rw [← da.len]; omega)]
      exact h1
    · rw [cut_take]
      exact q _ _ (same_upd hp) (.tup (.inl (.inl upd_same)) (DtAll.same (same_upd hp) _ (da.take n)))
  · refine sl_tupA pins s σ H _ v vl vu _ _ sl Q I rx hs pl pu ⟨a, xs, rfl, qa, fun e => ?_, fun _ p hp => ?_⟩
    · have e1 := e.1
      rw [HT.sIx_nat] at e1
      refine q _ H (Same.refl _) ?_
      rcases Nat.min_eq_zero_iff.mp e1 with z | z
      · rw [z]
        exact h1
      · have : ds = [] := List.eq_nil_of_length_eq_zero (by rw [← da.len]; exact z)
        subst this
        rw [List.drop_nil]
        exact h1
    · rw [cut_drop]
      exact q _ _ (same_upd hp) (.tup (.inl (.inl upd_same)) (DtAll.same (same_upd hp) _ (da.drop n)))
/-- list(t), tuple(l) of tuples and lists of data: a new list; a tuple -/
def rListD (K : PySem.W.Frag) : List V → Hp → VK → Prop := fun vs H Q => ∃ v ds, vs = [v] ∧ (Dt K H v (.tuple ds) ∨ Dt K H v (.list ds)) ∧ ∀ l xs, H l = none → DtAll K H xs ds → Q (.ref l) (upd H l (.lst xs))
theorem call_listD : CallR X (.type "list") (rListD X.K) := by
  intro pins s σ H xs us Q I r h
  obtain ⟨v, ds, rfl, h1, q⟩ := h
  rcases h1 with h1 | h1
  · obtain ⟨a, ys, rfl, qa, da⟩ := h1.tup_inv
    exact call_list_of pins s σ H _ us Q I r ⟨a, ys, rfl, .inr qa, fun l hl => q l ys hl da⟩
  · obtain ⟨a, ys, rfl, qa, da⟩ := h1.lst_inv
    exact call_list_of pins s σ H _ us Q I r ⟨a, ys, rfl, .inl qa, fun l hl => q l ys hl da⟩
def rTupD (K : PySem.W.Frag) : List V → Hp → VK → Prop := fun vs H Q => ∃ v ds, vs = [v] ∧ Dt K H v (.list ds) ∧ ∀ t H', Same H H' → Dt K H' t (.tuple ds) → Q t H'
theorem call_tupD : CallR X (.type "tuple") (rTupD X.K) := by
  intro pins s σ H xs us Q I r h
  obtain ⟨v, ds, rfl, h1, q⟩ := h
  obtain ⟨a, ys, rfl, qa, da⟩ := h1.lst_inv
  exact call_tuple_of pins s σ H _ us Q I r ⟨a, ys, rfl, .inl ⟨qa, fun l hl => q _ _ (same_upd hl) (.tup (.inl (.inl upd_same)) (DtAll.same (same_upd hl) _ da))⟩⟩
end
open AutoSeq1 (wpAny_loadPart') in
theorem tuple_mul1 (l : Addr) (items : Array Value) (n : Nat) (dd : Option Addr) (sl : Array (Option Value)) (u : Tok) :
    Meets (Builtin.«tuple.__mul__» ⟨[.ref l, .int 1 u], []⟩) (fun _ R s => s.heap.get? l = some { cls := .type "tuple", dict := dd, data := .seq items n, slots := sl } ∧ R (.ok (.ret (Value.ref l))) s) :=
  .of_wp fun prog w A R s h => by
    obtain ⟨hp, g, d, tk, os⟩ := s
    obtain ⟨hl, h⟩ := h
    have f1 := AutoSeq1.idx_int
    wp_walk using wpAny_loadPart' hl
    exact ⟨_, rfl, h⟩
section
variable {X : Cx}
/-- (d,) * k, k from 1 on -/
def rRepD (K : PySem.W.Frag) : R2 := fun x y H Q => ∃ (d : PyData) (k : Nat), Dt K H x (.tuple [d]) ∧ y = .int (k : Nat) ∧ 1 ≤ k ∧ k ≤ 1000 ∧ ∀ v H', Same H H' → Dt K H' v (.tuple (List.replicate k d)) → Q v H'
theorem rep_one {v : V} : ∀ k : Nat, (List.replicate k [v]).flatten = List.replicate k v
  | 0 => rfl
  | k + 1 => by
    rw [List.replicate_succ, List.flatten_cons, rep_one k]
    rfl
theorem op_repD : OpR X (binaryOp .Mult) (rRepD X.K) := by
  intro pins s σ H x y v u Q I rx ry h
  obtain ⟨d, k, h1, rfl, k1, k2, q⟩ := h
  obtain ⟨l, xs, rfl, qa, da⟩ := h1.tup_inv
  by_cases hk : k = 1
  · subst hk
    cases rx
    obtain ⟨t, rfl⟩ := ry
    obtain ⟨its, r, ⟨⟨cls, dd, data, sl⟩, ho, hc, n, hd⟩, hs⟩ := I.tuple qa
    simp only at hc hd
    subst hc hd
    refine wpAny_binaryOp_repeat_ref (T := "tuple") (U := "int") (by decide) ⟨_, ho, rfl⟩ (fun s' => typeIs_int s' _ t) noFill_tuple_mul F.fills_int_mul F.slot_int_rmul repeat_tuple F.slot_int_index.lookup
      (call_meets F.slot_int_rmul (typeIs_int s _ t) F.entry_int_rmul (F.args_int_rmul_2 _ _) (int_rmul_tuple _ t l its.toArray n dd sl)
        ⟨ho, rfl, ⟨_, ho, rfl⟩, call_meets F.slot_tuple_mul ⟨_, ho, rfl⟩ F.entry_tuple_mul (F.args_tuple_mul_2 _ _) (tuple_mul1 l its.toArray n dd sl t) ⟨ho, ?_⟩⟩)
    exact ⟨.ref l, H, I, rfl, q _ H (Same.refl _) h1⟩
  · cases da with
    | cons a b =>
      cases b
      refine op_repT pins s σ H _ _ v u Q I rx ry ⟨l, k, _, rfl, rfl, qa, by simp, by omega, by omega, by simp, fun p hp => ?_⟩
      rw [rep_one]
      exact q _ _ (same_upd hp) (.tup (.inl (.inl upd_same)) (DtAll.rep (Dt.same (same_upd hp) _ a) k))
end
/-! ### a book's data -/
structure Bk where
  names : List Str
  gifts : List Int
  stacks : List (List (Str × Int))
  drops : List Int
def noteD (n : Str × Int) : PyData := .tuple [.str n.1, .int n.2]
def notesD (l : List (Str × Int)) : List PyData := l.map noteD
def stackD (l : List (Str × Int)) : PyData := .tuple (notesD l)
theorem tup_note (n : Str × Int) : tupD (noteD n) = true := by simp [noteD, tupD, tupDs]
theorem tup_notes (l : List (Str × Int)) : tupDs (notesD l) = true := tupDs_map tup_note l
theorem tup_stack (l : List (Str × Int)) : tupD (stackD l) = true := by
  unfold stackD
  simpa [tupD] using tup_notes l
theorem tup_stacks (l : List (List (Str × Int))) : tupD (.tuple (l.map stackD)) = true := by simpa [tupD] using tupDs_map tup_stack l
theorem tup_strs (l : List Str) : tupD (.tuple (l.map PyData.str)) = true := by simpa [tupD] using tupDs_map (f := PyData.str) (fun _ => by simp [tupD]) l
theorem tup_ints (l : List Int) : tupD (.tuple (l.map PyData.int)) = true := by simpa [tupD] using tupDs_map (f := PyData.int) (fun _ => by simp [tupD]) l
def bf (a b c d : V) : List (Str × V) := [("names", a), ("gifts", b), ("stacks", c), ("drops", d)]
theorem lk_hit {f : Str} {v : V} {r : List (Str × V)} : List.lookup f ((f, v) :: r) = some v := by simp [List.lookup]
theorem lk_miss {f g : Str} {v : V} {r : List (Str × V)} (h : (f == g) = false) : List.lookup f ((g, v) :: r) = List.lookup f r := by simp [List.lookup, h]
theorem bf_names {a b c d : V} : (bf a b c d).lookup ("names" : Str) = some a := lk_hit
theorem bf_gifts {a b c d : V} : (bf a b c d).lookup ("gifts" : Str) = some b := (lk_miss (by decide +kernel)).trans lk_hit
theorem bf_stacks {a b c d : V} : (bf a b c d).lookup ("stacks" : Str) = some c := (lk_miss (by decide +kernel)).trans ((lk_miss (by decide +kernel)).trans lk_hit)
theorem bf_drops {a b c d : V} : (bf a b c d).lookup ("drops" : Str) = some d := (lk_miss (by decide +kernel)).trans ((lk_miss (by decide +kernel)).trans ((lk_miss (by decide +kernel)).trans lk_hit))
/-- a name that is no field -/
def NoF (m : Str) : Prop := (m == "names") = false ∧ (m == "gifts") = false ∧ (m == "stacks") = false ∧ (m == "drops") = false
theorem bf_no {a b c d : V} {m : Str} (h : NoF m) : (bf a b c d).lookup m = none := (lk_miss h.1).trans ((lk_miss h.2.1).trans ((lk_miss h.2.2.1).trans ((lk_miss h.2.2.2).trans rfl)))
structure BookAt (K : PySem.W.Frag) (C : Addr) (H : Hp) (b : Addr) (M : Bk) : Prop where
  ex : ∃ dx tn on vg vs vd, H b = some (.ins C dx (bf (.ref tn) vg vs vd)) ∧ H tn = some (.frz on (.tup (M.names.map V.str))) ∧ on.dict = none ∧ Dt K H vg (.tuple (M.gifts.map .int)) ∧ Dt K H vs (.tuple (M.stacks.map stackD)) ∧ Dt K H vd (.tuple (M.drops.map .int))
theorem BookAt.keep {K : PySem.W.Frag} {C : Addr} {H H' : Hp} {b : Addr} {M : Bk} (h : BookAt K C H b M) (k : Kp H H') : BookAt K C H' b M := by
  obtain ⟨dx, tn, on, vg, vs, vd, e, h1, hn, h2, h3, h4⟩ := h.ex
  exact ⟨dx, tn, on, vg, vs, vd, k _ _ e trivial, k _ _ h1 trivial, hn, Dt.keep k _ (tup_ints _) h2, Dt.keep k _ (tup_stacks _) h3, Dt.keep k _ (tup_ints _) h4⟩
/-- a book that may be -/
structure Bk.Ok (M : Bk) : Prop where
  n0 : 1 ≤ M.names.length
  n1 : M.names.length ≤ 12
  nd : M.names.Nodup
  nm : ∀ z ∈ M.names, nameT z = true
  lg : M.gifts.length = M.names.length
  ls : M.stacks.length = M.names.length
  ld : M.drops.length = M.names.length
  many : (M.stacks.map List.length).sum ≤ 60
end Rc

namespace Rc
open PySem PySem.Spec PyProof.Rows L2
section
variable {X : Cx}
/-- tuple(l), the tuple known to the object -/
def rTupF (K : PySem.W.Frag) : List V → Hp → VK → Prop := fun vs H Q => ∃ p ys, vs = [.ref p] ∧ SqL K H p ys ∧ ∀ l o, H l = none → o.dict = none → Q (.ref l) (upd H l (.frz o (.tup ys)))
theorem call_tupF : CallR X (.type "tuple") (rTupF X.K) := by
  intro pins s σ H xs us Q I r h
  obtain ⟨p, ys, rfl, hq, q⟩ := h
  obtain ⟨u, rfl, rx⟩ := vals1 r
  cases rx
  obtain ⟨its, r', pl, hz⟩ := I.list hq
  have hlen := r'.length
  refine call_tuple_list pl.isList (fun h' kp => ?_) (by simp only [List.size_toArray] <;> omega)
  have I1 : L2.Inv X pins σ H { s with heap := h' } := I.kept (t' := s.toks) kp
  have e0 : (h'.push { cls := .type "tuple", data := .seq its.toArray }).get? h'.objs.size = some { cls := .type "tuple", data := .seq its.toArray } := Heap.get?_push_size _ rfl
  have I2 := I1.laid (a := h'.objs.size) (o := .frz { cls := .type "tuple", data := .seq its.toArray } (.tup ys)) (t' := s.toks) (h' := h'.push { cls := .type "tuple", data := .seq its.toArray })
    (fun b o e => Heap.get?_push_of_some _ e) (Nat.le_refl _) ⟨e0, hz, its, r', IsTup.new _ _⟩
  exact ⟨.ref h'.objs.size, _, I2, rfl, q _ _ (I1.hok.fresh (Nat.le_refl _)) rfl⟩
/-- t.m(e), t such a tuple -/
def tBMF (r : V → List V → Hp → VK → Prop) (to : TE) (t : TA) : TE := fun σ H Q => to σ H fun x H1 => ∃ p o xs, x = .ref p ∧ H1 p = some (.frz o (.tup xs)) ∧ o.dict = none ∧ t σ H1 fun vs H2 => r x vs H2 Q
theorem pe_bmF {o e : Expr} {es : List Expr} {to : TE} {t : TA} {name : Str} {apos cpos : Pos} {id : String} {r : V → List V → Hp → VK → Prop} (slot : Slot "tuple" name id) (hty : typeOf (.builtin id) = pure (.type "method_descriptor")) (hm : MtR X id r)
    (ho : PE X o to) (ha : PA X (e :: es) t) (hbase : attributeBase o name X.env (eval o X.env) = eval o X.env := by rfl)
    (hfew : ((backTo cpos (starEach (e :: es) X.env)).all (fun x => !x.1) && (backToKw cpos (keywordEach [] X.env)).all (fun x => x.1.isSome) &&
      decide ((e :: es).length + ([] : List Keyword).length + (if ([] : List Keyword).isEmpty then 0 else 1) < 30)) = true := by rfl)
    (hline : (apos.endLine == cpos.line) = true := by rfl) (hs : starEach (e :: es) X.env = (false, eval e X.env) :: starEach es X.env := by rfl)
    (hplain : (backTo cpos (starEach es X.env)).any (·.1) = false := by rfl) : PE X (.Call (.Attribute o name apos) (e :: es) [] cpos) (tBMF r to t) := by
  refine ⟨fun pins s σ H Q I h => wpAny_Call_method_late hbase hfew hline rfl (thn (ho.run pins s σ H _ I h) fun v s1 z => ?_)⟩
  obtain ⟨x, H1, I1, r1, p, ob, xs, rfl, hp, hd, q1⟩ := z
  cases r1
  obtain ⟨g1, _, its, rv, hT⟩ := I1.hok p _ hp
  obtain ⟨o2, g2, c2, _⟩ := hT
  rw [g1] at g2
  cases g2
  refine ⟨"tuple", id, PySem.F.plainAttrs_tuple, slot, hty, ⟨ob, g1, c2⟩, fun a e => ?_, ?_⟩
  · cases e
    exact ⟨ob, g1, hd⟩
  have hA := ha.run cpos pins s1 σ H1 _ I1 q1
  rw [hs] at hA ⊢
  refine Calls.callWith_builtin (by show (false || (backTo cpos (starEach es X.env)).any (·.1)) = false; rw [hplain] <;> rfl) (Calls.evalArgs_plain (thn hA fun us s2 z => ?_))
  obtain ⟨vs, H2, I2, r2, q2⟩ := z
  exact hm pins s2 σ H2 (.ref p) vs _ us Q I2 rfl r2 q2
/-- one of two readings of what is walked -/
theorem PI.or {tg e : Expr} {t1 t2 : TI} (h1 : PI X tg e t1) (h2 : PI X tg e t2) : PI X tg e (fun σ H R => t1 σ H R ∨ t2 σ H R) :=
  ⟨fun pins s σ H R I q => q.elim (h1.run pins s σ H R I) (h2.run pins s σ H R I)⟩
end
theorem inV_strs (z : Str) (zs : List Str) : inV (.str z) (zs.map V.str) = decide (z ∈ zs) := by
  unfold inV
  rw [List.any_map]
  induction zs with
  | nil => rfl
  | cons y r ih =>
    rw [List.any_cons, ih]
    show ((y == z) || decide (z ∈ r)) = decide (z ∈ y :: r)
    by_cases h : y = z
    · subst h
      simp
    · have h' : ¬ z = y := fun e => h e.symm
      rw [beq_eq_false_iff_ne.mpr h]
      simp [h']
end Rc

namespace Rc
open PySem PySem.Spec PyProof.Rows L2
/-- a def that is called -/
structure Has (P : Program) (w : World) (K : PySem.W.Frag) (mg : Str → Option Value) (base : Heap) (k : Nat) (nm : Str) (ps : List Str) (sp : Sp) (f : Addr) (fd : FuncData) : Prop where
  ok : FnOk P w K mg base CX0 k f fd ps sp
  g : mg nm = some (.ref f)
  kp : PySem.W.keepIn K (.ref f) = true
  b : Binds K fd ps []
/-- a method that is called -/
structure HasM (P : Program) (w : World) (K : PySem.W.Frag) (mg : Str → Option Value) (base : Heap) (C : Addr) (k : Nat) (nm : Str) (ps : List Str) (sp : Sp) (f : Addr) (fd : FuncData) : Prop where
  ok : FnOk P w K mg base CX0 k f fd ps sp
  m : Meth K C nm f
  b : Binds K fd ps []
structure Blt3 (mg : Str → Option Value) : Prop where
  list : mg "list" = none
  tuple : mg "tuple" = none
  enumerate : mg "enumerate" = none
  zip : mg "zip" = none
  sum : mg "sum" = none
  dict : mg "dict" = none
structure ClsF (K : PySem.W.Frag) (C : Addr) : Prop where
  cl : Cls K C
  n1 : NoAttr K C "names"
  n2 : NoAttr K C "gifts"
  n3 : NoAttr K C "stacks"
  n4 : NoAttr K C "drops"
section
variable {P : Program} {w : World} {K : PySem.W.Frag} {mg : Str → Option Value} {base : Heap}
/-! ### check_persons -/
abbrev sCheckP : Stmt := topS 24
theorem scCheckP : FnScope ["persons", "place", "name"] ["persons"] (defScope sCheckP) := ⟨rfl, rfl, rfl, by decide +kernel, rfl, by decide +kernel, by decide +kernel⟩
/-- names of which a book may be made -/
structure NamesOk (zs : List Str) : Prop where
  n0 : 1 ≤ zs.length
  n1 : zs.length ≤ 12
  nd : zs.Nodup
  nm : ∀ z ∈ zs, nameT z = true
theorem nameT_len {z : Str} (h : nameT z = true) : 1 ≤ z.length ∧ z.length ≤ 8 := by
  unfold nameT at h
  simp only [Bool.and_eq_true, decide_eq_true_eq] at h
  exact h.1
def spCheckP (K : PySem.W.Frag) : Sp := fun vs H Q _ => ∃ a zs, vs = [.ref a] ∧ H a = some (.lst (zs.map V.str)) ∧ NamesOk zs ∧ ∀ H', Same H H' → Q .non H'
theorem ok_checkP {f fN : Addr} {fd fdN : FuncData} (F : Fun K "check_persons" "check_persons" sCheckP f fd) (B : Blt mg) (B3 : Blt3 mg) (gM : ∃ t, mg "MOST_PERSONS" = some (.int 12 t))
    (N : Has P w K mg base 1 "is_name" ["thing"] (spBool K nameD) fN fdN) : FnOk P w K mg base CX0 2 f fd ["persons"] (spCheckP K) := by
  obtain ⟨tM, gM⟩ := gM
  refine F.ok scCheckP (fun vs H Q E h => ?_) (fun cdv A outer s H vs Q E hr h => ?_)
  · obtain ⟨a, zs, rfl, _⟩ := h
    rfl
  · obtain ⟨a, zs, rfl, ha, ok, q⟩ := h
    refine ⟨_, pss_cons (ps_if (PW.pt (pw_or (pt_not (pt_val (pe_callB call_isi (by rfl) B.isi (by decide +kernel) (pa_cons (pv 0) (pa_cons (pe_bltn (v := .ty "list") (by rfl) B3.list (by decide +kernel) rfl) pa_nil)))))
        (pw_or (pt_cmpR op_lt (pe_callB call_len_seq (by rfl) B.len PySem.boot_len (pa_cons (pv 0) pa_nil)) pe_int (nomark _))
        (pw_or1 (pt_cmpR op_gt (pe_callB call_len_seq (by rfl) B.len PySem.boot_len (pa_cons (pv 0) pa_nil)) (pe_glob (v := .int 12) (by rfl) gM ⟨_, rfl⟩) (nomark _)))))) pss_never pss_nil)
      (pss_one (ps_for PassesOwn.never rfl (pi_enum (by rfl) B3.enumerate (pa_cons (pv 0) pa_nil)) (pg_tup rfl (pgs_cons (pg_name (i := 1) scCheckP.nd rfl (.inl rfl)) (pgs_cons (pg_name (i := 2) scCheckP.nd rfl (.inl rfl)) pgs_nil)))
        (pss_cons (ps_if (pt_not (pt_val (pe_call N.ok hr (by rfl) N.g N.kp N.b .nil pass0 (pa_cons (pv 2) pa_nil)))) pss_never pss_nil)
        (pss_one (ps_if (pt_cmpR op_in_seq (pv 2) (pe_slice sl_list (pv 0) po_none (po_some (pv 1))) (by rfl)) pss_never pss_nil))))), ?_⟩
    have sq : SqL K H a (zs.map V.str) := .inl (.inl ha)
    refine ⟨.ref a, rfl, _, .ty "list", _, _, true, rfl, .ty "list", .base (.lst ha), kit_ty (by decide +kernel), _, rfl, iteF ?_⟩
    refine ⟨.ref a, rfl, a, _, rfl, .inl sq, _, _, rfl, rfl, _, rfl, ?_⟩
    have l0 := ok.n0
    have l1 := ok.n1
    rw [show decide (((zs.map V.str).length : Int) < 1) = false from decide_eq_false (by rw [List.length_map]; omega)]
    refine iteF ⟨.ref a, rfl, a, _, rfl, .inl sq, _, _, rfl, rfl, _, rfl, ?_⟩
    rw [show decide ((12 : Int) < ((zs.map V.str).length : Int)) = false from decide_eq_false (by rw [List.length_map]; omega)]
    refine iteF ⟨.ref a, rfl, a, _, rfl, sq, ?_⟩
    refine for_it (walk_enum (xs := zs.map V.str)) (fun i σ H' => ∃ y1 y2, σ = [some (.ref a), y1, y2] ∧ Same H H') ⟨_, _, rfl, Same.refl _⟩ (fun i σ H' _ hP => ?_) (fun i x σ H1' H1 hi hP hY => ?_) (fun σ H' hP => ?_)
    · obtain ⟨_, _, _, s⟩ := hP
      exact s.seq sq
    · obtain ⟨T, x1, x2, rfl, nT, rfl, e1, e2⟩ := hY
      obtain ⟨y1, y2, rfl, s1⟩ := hP
      cases e1
      have s2 := s1.trans (same_upd (o := .tup [V.int (i : Nat), x2]) nT)
      rw [List.length_map] at hi
      have ex : x2 = .str zs[i] := by
        have e2' : (zs.map V.str)[i]? = some x2 := e2
        rw [List.getElem?_map, List.getElem?_eq_getElem hi] at e2'
        exact (Option.some.inj e2').symm
      subst ex
      have hm : zs[i] ∈ zs := List.getElem_mem hi
      have nm := ok.nm _ hm
      refine ⟨T, _, rfl, .inl (.inl upd_same), rfl, _, _, rfl, _, _, rfl, rfl, ?_⟩
      refine ⟨.str zs[i], rfl, .str zs[i], .str zs[i], rfl, .str _, fun z e => by cases e; have := (nameT_len nm).2; omega, fun H2 sm => ⟨_, rfl, ?_⟩⟩
      have e3 : nameD (.str zs[i]) = true := nm
      rw [e3]
      refine iteF ⟨.str zs[i], rfl, .ref a, rfl, .int (i : Nat), rfl, _, rfl, a, _, rfl, sm.seq (s2.seq sq), fun p np => ?_⟩
      rw [cut_take, ← List.map_take]
      refine ⟨p, _, rfl, .inl (.inl (.inl upd_same)), rfl, flat_strs _, _, rfl, ?_⟩
      have no : ¬ zs[i] ∈ zs.take i := fun z => by
        obtain ⟨j, hj, e⟩ := List.getElem_of_mem z
        rw [List.length_take] at hj
        rw [List.getElem_take] at e
        have := (List.getElem_inj ok.nd).mp e
        omega
      show if inV (.str zs[i]) ((zs.take i).map V.str) = true then _ else _
      rw [inV_strs, decide_eq_false no]
      exact iteF ⟨_, _, rfl, s2.trans (sm.trans (same_upd np))⟩
    · obtain ⟨_, _, rfl, s⟩ := hP
      exact q _ s
/-! ### check_amount -/
abbrev sCheckA : Stmt := topS 25
theorem scCheckA : FnScope ["amount"] ["amount"] (defScope sCheckA) := ⟨rfl, rfl, rfl, by decide +kernel, rfl, by decide +kernel, by decide +kernel⟩
def spCheckA (K : PySem.W.Frag) : Sp := fun vs H Q _ => ∃ n : Int, vs = [.int n] ∧ 1 ≤ n ∧ ∀ H', Same H H' → Q .non H'
theorem ok_checkA {f fN : Addr} {fd fdN : FuncData} (F : Fun K "check_amount" "check_amount" sCheckA f fd)
    (N : Has P w K mg base 2 "is_amount" ["thing"] (spBool K amountD) fN fdN) : FnOk P w K mg base CX0 3 f fd ["amount"] (spCheckA K) := by
  refine F.ok scCheckA (fun vs H Q E h => ?_) (fun cdv A outer s H vs Q E hr h => ?_)
  · obtain ⟨a, rfl, _⟩ := h
    rfl
  · obtain ⟨n, rfl, n1, q⟩ := h
    refine ⟨_, pss_one (ps_if (pt_not (pt_val (pe_call N.ok hr (by rfl) N.g N.kp N.b .nil pass0 (pa_cons (pv 0) pa_nil)))) pss_never pss_nil), ?_⟩
    refine ⟨_, rfl, _, .int n, rfl, .int n, (fun z e => by cases e), fun H' sm => ⟨_, rfl, ?_⟩⟩
    have e : amountD (.int n) = true := decide_eq_true n1
    rw [e]
    exact iteF (q _ sm)
/-! ### with_changed -/
abbrev sChg : Stmt := topS 27
theorem scChg : FnScope ["row", "place", "thing"] ["row", "place", "thing"] (defScope sChg) := ⟨rfl, rfl, rfl, by decide +kernel, rfl, by decide +kernel, by decide +kernel⟩
def spChg (K : PySem.W.Frag) : Sp := fun vs H Q _ => ∃ v ds n t d, vs = [v, .int (n : Nat), t] ∧ Dt K H v (.tuple ds) ∧ Dt K H t d ∧ n < ds.length ∧ ds.length ≤ 100 ∧ ∀ v' H', Same H H' → Dt K H' v' (.tuple (ds.set n d)) → Q v' H'
theorem set_parts {α : Type} (ds : List α) (n : Nat) (d : α) (h : n < ds.length) : ds.take n ++ [d] ++ ds.drop (n + 1) = ds.set n d := by
  rw [List.set_eq_take_append_cons_drop, if_pos h, List.append_assoc]
  rfl
theorem ok_chg {f : Addr} {fd : FuncData} (F : Fun K "with_changed" "with_changed" sChg f fd) : FnOk P w K mg base CX0 1 f fd ["row", "place", "thing"] (spChg K) := by
  refine F.ok scChg (fun vs H Q E h => ?_) (fun cdv A outer s H vs Q E hr h => ?_)
  · obtain ⟨_, _, _, _, _, rfl, _⟩ := h
    rfl
  · obtain ⟨v, ds, n, t, d, rfl, hv, ht, hn, hz, q⟩ := h
    refine ⟨_, pss_one (ps_ret (pe_op op_catD (pe_op op_catD (pe_slice sl_tupD (pv 0) po_none (po_some (pv 1))) (pe_tup (pa_cons (pv 2) pa_nil))) (pe_slice sl_tupD (pv 0) (po_some (pe_op op_add (pv 1) pe_int)) po_none))), ?_⟩
    refine ⟨v, rfl, .int (n : Nat), rfl, (n : Nat), rfl, ds, hv, .inl ⟨n, rfl, rfl, fun v1 H1 s1 d1 => ?_⟩⟩
    refine ⟨t, rfl, by show 1 ≤ sizeLine; decide, fun p np => ⟨ds.take n, [d], Dt.same (same_upd np) _ d1, .tup (.inl (.inl upd_same)) (.cons (Dt.same (s1.trans (same_upd np)) _ ht) .nil), ?_, fun v2 H2 s2 d2 => ?_⟩⟩
    · rw [List.length_take, List.length_singleton]
      omega
    have s02 := s1.trans ((same_upd np).trans s2)
    refine ⟨v, rfl, .int (n : Nat), rfl, _, _, rfl, rfl, _, rfl, ds, Dt.same s02 _ hv, .inr ⟨n + 1, rfl, rfl, fun v3 H3 s3 d3 => ⟨_, _, Dt.same s3 _ d2, d3, ?_, fun v4 H4 s4 d4 => ?_⟩⟩⟩
    · rw [List.length_append, List.length_take, List.length_drop, List.length_singleton]
      omega
    · rw [set_parts ds n d hn] at d4
      exact q _ _ (s02.trans (s3.trans s4)) d4
end
end Rc

namespace Rc
open PySem PySem.Spec PyProof.Rows L2
/-- a list (k) or a tuple -/
def Sq (K : PySem.W.Frag) (k : Bool) (H : Hp) (a : Addr) (xs : List V) : Prop := if k = true then SqL K H a xs else SqT K H a xs
theorem same_seqT {K : PySem.W.Frag} {H H' : Hp} {a : Addr} {xs : List V} (e : Same H H') (h : SqT K H a xs) : SqT K H' a xs := by
  rcases h with (h | ⟨o, h⟩) | h
  · exact .inl (.inl (e _ _ h))
  · exact .inl (.inr ⟨o, e _ _ h⟩)
  · exact .inr h
theorem Sq.same {K : PySem.W.Frag} {k : Bool} {H H' : Hp} {a : Addr} {xs : List V} (h : Sq K k H a xs) (e : Same H H') : Sq K k H' a xs := by
  cases k with
  | true => exact e.seq h
  | false => exact same_seqT e h
/-- a list or a tuple that stands in slot i -/
def iSeqV (K : PySem.W.Frag) (i : Nat) : TI := fun σ H R => ∃ a xs k, σ[i]? = some (some (.ref a)) ∧ Sq K k H a xs ∧ ∀ J G, Walk J xs.length G (YAt xs) → (∀ H', Sq K k H' a xs → G H') → R J H
theorem pi_seqV {X : Cx} {tg : Expr} (i : Nat) {x : Str} {pos : Pos} (h : PE X (.Name x pos) (tVar i)) : PI X tg (.Name x pos) (iSeqV X.K i) := by
  refine ⟨fun pins s σ H R I q => ?_⟩
  obtain ⟨a, xs, k, e, hq, q⟩ := q
  cases k with
  | true => exact (pi_list h).run pins s σ H R I ⟨_, e, a, rfl, ⟨xs, hq⟩, q _ _ walk_list fun H' z => z⟩
  | false => exact (pi_tup h).run pins s σ H R I ⟨_, e, a, rfl, ⟨xs, hq⟩, q _ _ walk_tup fun H' z => z⟩
/-! ### notes that fall from above -/
def partOf (a f : Int) : Int := if f < a then f else a
def goneN : List (Str × Int) → Int → List (Str × Int)
  | [], _ => []
  | (t, a) :: r, f => (if 0 < partOf a f then [(t, partOf a f)] else []) ++ goneN r (f - partOf a f)
def leftN : List (Str × Int) → Int → List (Str × Int)
  | [], _ => []
  | (t, a) :: r, f => (if partOf a f < a then [(t, a - partOf a f)] else []) ++ leftN r (f - partOf a f)
theorem goneN_nil (f : Int) : goneN [] f = [] := rfl
theorem leftN_nil (f : Int) : leftN [] f = [] := rfl
theorem goneN_cons (t : Str) (a f : Int) (r : List (Str × Int)) : goneN ((t, a) :: r) f = (if 0 < partOf a f then [(t, partOf a f)] else []) ++ goneN r (f - partOf a f) := rfl
theorem leftN_cons (t : Str) (a f : Int) (r : List (Str × Int)) : leftN ((t, a) :: r) f = (if partOf a f < a then [(t, a - partOf a f)] else []) ++ leftN r (f - partOf a f) := rfl
theorem goneN_len : ∀ (l : List (Str × Int)) (f : Int), (goneN l f).length ≤ l.length
  | [], _ => Nat.le_refl _
  | (t, a) :: r, f => by
    have := goneN_len r (f - partOf a f)
    unfold goneN
    rw [List.length_append, List.length_cons]
    split <;> simp <;> omega
theorem leftN_len : ∀ (l : List (Str × Int)) (f : Int), (leftN l f).length ≤ l.length
  | [], _ => Nat.le_refl _
  | (t, a) :: r, f => by
    have := leftN_len r (f - partOf a f)
    unfold leftN
    rw [List.length_append, List.length_cons]
    split <;> simp <;> omega
theorem DtAll.notes_get {K : PySem.W.Frag} {H : Hp} {xs : List V} {l : List (Str × Int)} {i : Nat} {x : V} (h : DtAll K H xs (notesD l)) (e : xs[i]? = some x) : ∃ (hi : i < l.length), Dt K H x (noteD l[i]) := by
  have hl := h.len
  have hi : i < xs.length := (List.getElem?_eq_some_iff.mp e).1
  have hi' : i < l.length := by
    unfold notesD at hl
    rw [List.length_map] at hl
    omega
  refine ⟨hi', ?_⟩
  have g : (notesD l)[i]? = some (noteD l[i]) := by
    unfold notesD
    rw [List.getElem?_map, List.getElem?_eq_getElem hi']
    rfl
  obtain ⟨v, e1, e2⟩ := h.get g
  rw [e] at e1
  cases e1
  exact e2
theorem note_inv {K : PySem.W.Frag} {H : Hp} {v : V} {n : Str × Int} (h : Dt K H v (noteD n)) : ∃ a, v = .ref a ∧ SqT K H a [.str n.1, .int n.2] := by
  obtain ⟨a, xs, rfl, q, d⟩ := h.tup_inv
  cases d with
  | cons d1 d2 =>
    cases d1
    cases d2 with
    | cons d3 d4 =>
      cases d3
      cases d4
      exact ⟨a, rfl, q⟩
section
variable {P : Program} {w : World} {K : PySem.W.Frag} {mg : Str → Option Value} {base : Heap}
abbrev sSplit : Stmt := topS 26
abbrev nSplit : List Str := ["notes", "fallen", "gone", "left", "to", "amount", "part"]
theorem scSplit : FnScope nSplit ["notes", "fallen"] (defScope sSplit) := ⟨rfl, rfl, rfl, by decide +kernel, rfl, by decide +kernel, by decide +kernel⟩
def spSplit (K : PySem.W.Frag) : Sp := fun vs H Q _ => ∃ a xs kd l f, vs = [.ref a, .int f] ∧ Sq K kd H a xs ∧ DtAll K H xs (notesD l) ∧ l.length ≤ 100 ∧
  ∀ t g m gx mx H', Same H H' → H' t = some (.tup [.ref g, .ref m]) → H g = none → H m = none → g ≠ m → H' g = some (.lst gx) → H' m = some (.lst mx) → DtAll K H' gx (notesD (goneN l f)) → DtAll K H' mx (notesD (leftN l f)) → Q (.ref t) H'
theorem ok_split {f : Addr} {fd : FuncData} (F : Fun K "split_notes" "split_notes" sSplit f fd) (B2 : Blt2 mg) : FnOk P w K mg base CX0 1 f fd ["notes", "fallen"] (spSplit K) := by
  refine F.ok scSplit (fun vs H Q E h => ?_) (fun cdv A outer s H vs Q E hr h => ?_)
  · obtain ⟨_, _, _, _, _, rfl, _⟩ := h
    rfl
  · obtain ⟨a, xs, kd, l, f, rfl, hq, hd, hz, q⟩ := h
    refine ⟨_, pss_cons (ps_set (i := 2) scSplit.nd rfl (.inl rfl) (pe_lst pa_nil)) (pss_cons (ps_set (i := 3) scSplit.nd rfl (.inl rfl) (pe_lst pa_nil))
      (pss_cons (ps_for PassesOwn.never rfl (pi_seqV 0 (pv 0)) (pg_tup rfl (pgs_cons (pg_name (i := 4) scSplit.nd rfl (.inl rfl)) (pgs_cons (pg_name (i := 5) scSplit.nd rfl (.inl rfl)) pgs_nil)))
        (pss_cons (ps_set (i := 6) scSplit.nd rfl (.inl rfl) (pe_callB (call_min2 rfl) (by rfl) B2.min (by decide +kernel) (pa_cons (pv 5) (pa_cons (pv 1) pa_nil))))
        (pss_cons (ps_aug (i := 1) scSplit.nd rfl (.inl rfl) (pv 6) ip_sub)
        (C8.pss_cut (ps_if (pt_cmpR op_gt (pv 6) pe_int (nomark _)) (pss_one (ps_expr (pe_bm PySem.F.plainAttrs_list PySem.F.slot_list_append PySem.F.type_list_append mt_append (pv 2) (pa_cons (pe_tup (pa_cons (pv 4) (pa_cons (pv 6) pa_nil))) pa_nil)))) pss_nil)
        (pss_one (ps_if (pt_cmpR op_lt (pv 6) (pv 5) (nomark _)) (pss_one (ps_expr (pe_bm PySem.F.plainAttrs_list PySem.F.slot_list_append PySem.F.type_list_append mt_append (pv 3) (pa_cons (pe_tup (pa_cons (pv 4) (pa_cons (pe_op op_sub (pv 5) (pv 6)) pa_nil))) pa_nil)))) pss_nil))))))
      (pss_one (ps_ret (pe_tup (pa_cons (pv 2) (pa_cons (pv 3) pa_nil))))))), ?_⟩
    refine ⟨Nat.zero_le _, fun g ng => ⟨Nat.zero_le _, fun m nm => ?_⟩⟩
    have gm : g ≠ m := fun z => by
      rw [← z, upd_same] at nm
      cases nm
    have nmH : H m = none := by
      rw [upd_ne gm.symm] at nm
      exact nm
    have s0 : Same H (upd (upd H g (.lst [])) m (.lst [])) := (same_upd ng).trans (same_upd nm)
    refine ⟨a, xs, kd, rfl, hq.same s0, fun J G wk hG => ?_⟩
    have fresh : ∀ b o, H b = some o → b ≠ g ∧ b ≠ m := fun b o e => ⟨ne_of_none e ng, ne_of_none e nmH⟩
    refine for_it wk (fun i σ H' => ∃ y4 y5 y6 fi gx mx Gs Ms, σ = [some (.ref a), some (.int fi), some (.ref g), some (.ref m), y4, y5, y6] ∧ Same H H' ∧ H' g = some (.lst gx) ∧ H' m = some (.lst mx) ∧
        DtAll K H' gx (notesD Gs) ∧ DtAll K H' mx (notesD Ms) ∧ Gs.length ≤ i ∧ Ms.length ≤ i ∧ Gs ++ goneN (l.drop i) fi = goneN l f ∧ Ms ++ leftN (l.drop i) fi = leftN l f)
      ⟨_, _, _, f, [], [], [], [], rfl, s0, by rw [upd_ne gm, upd_same], upd_same, .nil, .nil, Nat.le_refl _, Nat.le_refl _, rfl, rfl⟩ (fun i σ H' _ hP => ?_) (fun i x σ H1' H1 hi hP hY => ?_) (fun σ H' hP => ?_)
    · obtain ⟨_, _, _, _, _, _, _, _, _, s1, _⟩ := hP
      exact hG _ (hq.same s1)
    · obtain ⟨rfl, ex⟩ := hY
      obtain ⟨y4, y5, y6, fi, gx, mx, Gs, Ms, rfl, s1, hg, hm, dg, dm, lg, lm, eg, em⟩ := hP
      obtain ⟨hil, dn⟩ := (DtAll.same s1 _ hd).notes_get ex
      obtain ⟨ta, rfl, qt⟩ := note_inv dn
      have ed : l.drop i = l[i] :: l.drop (i + 1) := List.drop_eq_getElem_cons hil
      rw [ed] at eg em
      obtain ⟨t, am, el⟩ : ∃ t am, l[i] = (t, am) := ⟨_, _, rfl⟩
      rw [el] at eg em qt
      rw [goneN_cons] at eg
      rw [leftN_cons] at em
      have dgl := dg.len
      have dml := dm.len
      unfold notesD at dgl dml
      rw [List.length_map] at dgl dml
      refine ⟨ta, _, rfl, qt, rfl, _, _, rfl, _, _, rfl, rfl, ?_⟩
      refine ⟨.int am, rfl, .int fi, rfl, _, _, rfl, ?_⟩
      have ep : (if fi < am then fi else am) = partOf am fi := rfl
      rw [ep]
      generalize partOf am fi = pt at eg em
      refine ⟨_, rfl, _, rfl, _, _, rfl, rfl, ?_⟩
      refine ⟨fun σ2 H2 => ∃ gx2 Gs2, σ2 = [some (V.ref a), some (V.int (fi - pt)), some (V.ref g), some (V.ref m), some (V.str t), some (V.int am), some (V.int pt)] ∧ Same H H2 ∧ H2 g = some (.lst gx2) ∧ H2 m = some (.lst mx) ∧ DtAll K H2 gx2 (notesD Gs2) ∧ DtAll K H2 mx (notesD Ms) ∧
        Gs2.length ≤ i + 1 ∧ Gs2 ++ goneN (l.drop (i + 1)) (fi - pt) = goneN l f, ?_, ?_⟩
      · refine ⟨.int pt, rfl, _, _, rfl, rfl, _, rfl, ite2 (fun e => ?_) (fun e => ?_)⟩
        · have e' := of_decide_eq_true e
          rw [if_pos e'] at eg
          refine ⟨.ref g, rfl, .inl ⟨rfl, _, .inl (.inl hg)⟩, .str t, rfl, .int pt, rfl, by show 2 ≤ sizeLine; decide, fun p np => ⟨g, gx, _, rfl, rfl, ?_, small1000 (by omega), ?_⟩⟩
          · rw [upd_ne (ne_of_none hg np)]
            exact hg
          have pm : p ≠ m := (ne_of_none hm np).symm
          have pg : p ≠ g := (ne_of_none hg np).symm
          have kp : Kp H1 (upd (upd H1 p (.tup [.str t, .int pt])) g (.lst (gx ++ [.ref p]))) := fun b o e fx => by
            have nb : b ≠ g := fun z => by
              rw [z, hg] at e
              cases e
              exact fx
            rw [upd_ne nb, upd_ne (ne_of_none e np)]
            exact e
          refine ⟨gx ++ [.ref p], Gs ++ [(t, pt)], rfl, fun b o e => ?_, upd_same, ?_, ?_, DtAll.keep kp _ (tup_notes _) dm, ?_, ?_⟩
          · rw [upd_ne (fresh b o e).1, upd_ne (ne_of_none (s1 b o e) np)]
            exact s1 b o e
          · rw [upd_ne gm.symm, upd_ne pm.symm]
            exact hm
          · unfold notesD
            rw [List.map_append]
            refine (DtAll.keep kp _ (tup_notes _) dg).append (.cons (.tup (.inl (.inl ?_)) (.cons (.str _) (.cons (.int _) .nil))) .nil)
            rw [upd_ne pg, upd_same]
          · rw [List.length_append]
            exact Nat.add_le_add_right lg 1
          · rw [List.append_assoc]
            exact eg
        · have e' : ¬ 0 < pt := fun c => e (decide_eq_true c)
          rw [if_neg e'] at eg
          exact ⟨gx, Gs, rfl, s1, hg, hm, dg, dm, Nat.le_succ_of_le lg, eg⟩
      · rintro σ2 H2 ⟨gx2, Gs2, rfl, s2, hg2, hm2, dg2, dm2, lg2, eg2⟩
        refine ⟨.int pt, rfl, .int am, rfl, _, _, rfl, rfl, _, rfl, ite2 (fun e => ?_) (fun e => ?_)⟩
        · have e' := of_decide_eq_true e
          rw [if_pos e'] at em
          refine ⟨.ref m, rfl, .inl ⟨rfl, _, .inl (.inl hm2)⟩, .str t, rfl, .int am, rfl, .int pt, rfl, _, _, rfl, rfl, by show 2 ≤ sizeLine; decide, fun p np => ⟨m, mx, _, rfl, rfl, ?_, small1000 (by omega), ?_⟩⟩
          · rw [upd_ne (ne_of_none hm2 np)]
            exact hm2
          have pm : p ≠ m := (ne_of_none hm2 np).symm
          have pg : p ≠ g := (ne_of_none hg2 np).symm
          have kp : Kp H2 (upd (upd H2 p (.tup [.str t, .int (am - pt)])) m (.lst (mx ++ [.ref p]))) := fun b o e fx => by
            have nb : b ≠ m := fun z => by
              rw [z, hm2] at e
              cases e
              exact fx
            rw [upd_ne nb, upd_ne (ne_of_none e np)]
            exact e
          refine ⟨_, _, _, fi - pt, gx2, mx ++ [.ref p], Gs2, Ms ++ [(t, am - pt)], rfl, fun b o e => ?_, ?_, upd_same, DtAll.keep kp _ (tup_notes _) dg2, ?_, lg2, ?_, eg2, ?_⟩
          · rw [upd_ne (fresh b o e).2, upd_ne (ne_of_none (s2 b o e) np)]
            exact s2 b o e
          · rw [upd_ne gm, upd_ne pg.symm]
            exact hg2
          · unfold notesD
            rw [List.map_append]
            refine (DtAll.keep kp _ (tup_notes _) dm2).append (.cons (.tup (.inl (.inl ?_)) (.cons (.str _) (.cons (.int _) .nil))) .nil)
            rw [upd_ne pm, upd_same]
          · rw [List.length_append]
            exact Nat.add_le_add_right lm 1
          · rw [List.append_assoc]
            exact em
        · have e' : ¬ pt < am := fun c => e (decide_eq_true c)
          rw [if_neg e'] at em
          exact ⟨_, _, _, fi - pt, gx2, mx, Gs2, Ms, rfl, s2, hg2, hm2, dg2, dm2, lg2, Nat.le_succ_of_le lm, eg2, em⟩
    · obtain ⟨y4, y5, y6, fi, gx, mx, Gs, Ms, rfl, s1, hg, hm, dg, dm, lg, lm, eg, em⟩ := hP
      have hx : l.drop xs.length = [] := List.drop_of_length_le (by
        have := hd.len
        unfold notesD at this
        rw [List.length_map] at this
        omega)
      rw [hx] at eg em
      rw [goneN_nil, List.append_nil] at eg
      rw [leftN_nil, List.append_nil] at em
      subst eg em
      refine ⟨.ref g, rfl, .ref m, rfl, by show 2 ≤ sizeLine; decide, fun t nt => ?_⟩
      have st := same_upd (o := .tup [.ref g, .ref m]) nt
      exact q t g m gx mx _ (s1.trans st) upd_same ng nmH gm (st _ _ hg) (st _ _ hm) (DtAll.same st _ dg) (DtAll.same st _ dm)
end
end Rc

namespace Rc
open PySem PySem.Spec PyProof.Rows L2
abbrev inBook (i : Nat) : Stmt := inClass (topS 28) i
theorem Bk.Ok.names {M : Bk} (h : M.Ok) : NamesOk M.names := ⟨h.n0, h.n1, h.nd, h.nm⟩
def newBk (zs : List Str) : Bk := ⟨zs, List.replicate zs.length 0, List.replicate zs.length [], List.replicate zs.length 0⟩
theorem putF_miss {f g : Str} {v x : V} {r : List (Str × V)} (h : ¬ g = f) : putF f v ((g, x) :: r) = (g, x) :: putF f v r := by
  show (if g = f then (g, v) :: r else (g, x) :: putF f v r) = _
  rw [if_neg h]
theorem putF_hit {f : Str} {v x : V} {r : List (Str × V)} : putF f v ((f, x) :: r) = (f, v) :: r := by
  show (if f = f then (f, v) :: r else (f, x) :: putF f v r) = _
  rw [if_pos rfl]
theorem put1 (a : V) : putF "names" a [] = ([("names", a)] : List (Str × V)) := rfl
theorem put2 (a b : V) : putF "gifts" b [("names", a)] = ([("names", a), ("gifts", b)] : List (Str × V)) := by
  rw [putF_miss (by decide +kernel)]
  rfl
theorem put3 (a b c : V) : putF "stacks" c [("names", a), ("gifts", b)] = ([("names", a), ("gifts", b), ("stacks", c)] : List (Str × V)) := by
  rw [putF_miss (by decide +kernel), putF_miss (by decide +kernel)]
  rfl
theorem put4 (a b c d : V) : putF "drops" d [("names", a), ("gifts", b), ("stacks", c)] = bf a b c d := by
  rw [putF_miss (by decide +kernel), putF_miss (by decide +kernel), putF_miss (by decide +kernel)]
  rfl
theorem putG (a b c d e : V) : putF "gifts" e (bf a b c d) = bf a e c d := by
  unfold bf
  rw [putF_miss (by decide +kernel), putF_hit]
theorem putS (a b c d e : V) : putF "stacks" e (bf a b c d) = bf a b e d := by
  unfold bf
  rw [putF_miss (by decide +kernel), putF_miss (by decide +kernel), putF_hit]
theorem putD (a b c d e : V) : putF "drops" e (bf a b c d) = bf a b c e := by
  unfold bf
  rw [putF_miss (by decide +kernel), putF_miss (by decide +kernel), putF_miss (by decide +kernel), putF_hit]
theorem bf_len (a b c d : V) : (bf a b c d).length < 1000 := by
  show 4 < 1000
  decide
section
variable {P : Program} {w : World} {K : PySem.W.Frag} {mg : Str → Option Value} {base : Heap}
/-! ### __init__ -/
abbrev sInit : Stmt := inBook 0
theorem scInit : FnScope ["self", "persons"] ["self", "persons"] (defScope sInit) := ⟨rfl, rfl, rfl, by decide +kernel, rfl, by decide +kernel, by decide +kernel⟩
def spInit (K : PySem.W.Frag) (C : Addr) : Sp := fun vs H Q _ => ∃ x dx a zs, vs = [.ref x, .ref a] ∧ H x = some (.ins C dx []) ∧ H a = some (.lst (zs.map V.str)) ∧ NamesOk zs ∧ ∀ H', But x H H' → BookAt K C H' x (newBk zs) → Q .non H'
theorem ok_init {f fc C : Addr} {fd fdc : FuncData} (F : Fun K "__init__" "Book.__init__" sInit f fd) (T : ClsF K C) (B : Blt mg) (B3 : Blt3 mg)
    (CP : Has P w K mg base 2 "check_persons" ["persons"] (spCheckP K) fc fdc) : FnOk P w K mg base CX0 3 f fd ["self", "persons"] (spInit K C) := by
  refine F.ok scInit (fun vs H Q E h => ?_) (fun cdv A outer s H vs Q E hr h => ?_)
  · obtain ⟨_, _, _, _, rfl, _⟩ := h
    rfl
  · obtain ⟨x, dx, a, zs, rfl, hx, ha, ok, q⟩ := h
    refine ⟨_, pss_cons (ps_expr (pe_call CP.ok hr (by rfl) CP.g CP.kp CP.b .nil pass0 (pa_cons (pv 1) pa_nil)))
      (pss_cons (ps_fld (pv 0) (pe_callTy call_tupF (by rfl) B3.tuple (by decide +kernel) (pa_cons (pv 1) pa_nil)) rfl)
      (pss_cons (ps_fld (pv 0) (pe_op op_repD (pe_tup (pa_cons pe_int pa_nil)) (pe_callB call_len_seq (by rfl) B.len PySem.boot_len (pa_cons (pv 1) pa_nil))) rfl)
      (pss_cons (ps_fld (pv 0) (pe_op op_repD (pe_tup (pa_cons (pe_tup pa_nil) pa_nil)) (pe_callB call_len_seq (by rfl) B.len PySem.boot_len (pa_cons (pv 1) pa_nil))) rfl)
      (pss_one (ps_fld (pv 0) (pe_op op_repD (pe_tup (pa_cons pe_int pa_nil)) (pe_callB call_len_seq (by rfl) B.len PySem.boot_len (pa_cons (pv 1) pa_nil))) rfl))))), ?_⟩
    have l0 := ok.n0
    have l1 := ok.n1
    have el : (zs.map V.str).length = zs.length := List.length_map ..
    have nxa : a ≠ x := ne_of ha hx (by intro z; cases z)
    refine ⟨.ref a, rfl, a, zs, rfl, ha, ok, fun H1 s1 => ?_⟩
    -- self.names = tuple(persons)
    refine ⟨.ref a, rfl, a, _, rfl, .inl (.inl (s1 _ _ ha)), fun tn on ntn don => ?_⟩
    have s2 : Same H1 (upd H1 tn (.frz on (.tup (zs.map V.str)))) := same_upd ntn
    have ntx : x ≠ tn := ne_of_none (s1 _ _ hx) ntn
    refine ⟨.ref x, rfl, x, C, dx, _, rfl, s2 _ _ (s1 _ _ hx), T.cl, T.n1, by show 0 < 1000; decide, ?_⟩
    rw [put1]
    generalize hH3 : upd (upd H1 tn (.frz on (.tup (zs.map V.str)))) x (.ins C dx [("names", V.ref tn)]) = H3
    have b3 : But x H H3 := by
      rw [← hH3]
      exact (same_but (s1.trans s2)).trans But.at
    have x3 : H3 x = some (.ins C dx [("names", V.ref tn)]) := by
      rw [← hH3, upd_same]
    have t3 : H3 tn = some (.frz on (.tup (zs.map V.str))) := by
      rw [← hH3, upd_ne ntx.symm, upd_same]
    -- self.gifts
    refine ⟨by show 1 ≤ sizeLine; decide, fun t1 nt1 => ?_⟩
    have s4 := same_upd (o := .tup [V.int 0]) nt1
    refine ⟨.ref a, rfl, a, _, rfl, .inl (.inl (.inl (s4 _ _ (b3 _ _ nxa ha)))), .int 0, zs.length, .tup (.inl (.inl upd_same)) (.cons (.int 0) .nil), by rw [el], l0, by omega, fun vg H5 s5 dg => ?_⟩
    have s35 := s4.trans s5
    refine ⟨.ref x, rfl, x, C, dx, _, rfl, s35 _ _ x3, T.cl, T.n2, by show 1 < 1000; decide, ?_⟩
    rw [put2]
    have k6 : KT H5 (upd H5 x (.ins C dx [("names", V.ref tn), ("gifts", vg)])) := kt_upd (s35 _ _ x3) (fun z => z)
    have b6 : But x H (upd H5 x (.ins C dx [("names", V.ref tn), ("gifts", vg)])) := b3.trans ((same_but s35).trans But.at)
    have k36 : KT H3 (upd H5 x (.ins C dx [("names", V.ref tn), ("gifts", vg)])) := (kt_same s35).trans k6
    generalize hH6 : upd H5 x (.ins C dx [("names", V.ref tn), ("gifts", vg)]) = H6 at k6 b6 k36
    have x6 : H6 x = some (.ins C dx [("names", V.ref tn), ("gifts", vg)]) := by
      rw [← hH6, upd_same]
    have dg6 := Dt.keepT k6 _ (by rw [← List.map_replicate]; exact tup_ints _) dg
    -- self.stacks
    refine ⟨by show 0 ≤ sizeLine; decide, fun t0 nt0 => ⟨by show 1 ≤ sizeLine; decide, fun t2 nt2 => ?_⟩⟩
    have s7 := (same_upd (o := .tup []) nt0).trans (same_upd (o := .tup [V.ref t0]) nt2)
    refine ⟨.ref a, rfl, a, _, rfl, .inl (.inl (.inl (s7 _ _ (b6 _ _ nxa ha)))), .tuple [], zs.length, .tup (.inl (.inl upd_same)) (.cons (.tup (.inl (.inl (same_upd nt2 _ _ upd_same))) .nil) .nil), by rw [el], l0, by omega, fun vs H8 s8 ds => ?_⟩
    have s68 := s7.trans s8
    refine ⟨.ref x, rfl, x, C, dx, _, rfl, s68 _ _ x6, T.cl, T.n3, by show 2 < 1000; decide, ?_⟩
    rw [put3]
    have k9 : KT H8 (upd H8 x (.ins C dx [("names", V.ref tn), ("gifts", vg), ("stacks", vs)])) := kt_upd (s68 _ _ x6) (fun z => z)
    have b9 : But x H (upd H8 x (.ins C dx [("names", V.ref tn), ("gifts", vg), ("stacks", vs)])) := b6.trans ((same_but s68).trans But.at)
    have k69 : KT H6 (upd H8 x (.ins C dx [("names", V.ref tn), ("gifts", vg), ("stacks", vs)])) := (kt_same s68).trans k9
    generalize hH9 : upd H8 x (.ins C dx [("names", V.ref tn), ("gifts", vg), ("stacks", vs)]) = H9 at k9 b9 k69
    have x9 : H9 x = some (.ins C dx [("names", V.ref tn), ("gifts", vg), ("stacks", vs)]) := by
      rw [← hH9, upd_same]
    have ts : tupD (.tuple (List.replicate zs.length (.tuple []))) = true := by
      have := tup_stacks (List.replicate zs.length [])
      rw [List.map_replicate] at this
      exact this
    have ds9 := Dt.keepT k9 _ ts ds
    -- self.drops
    refine ⟨by show 1 ≤ sizeLine; decide, fun t3' nt3 => ?_⟩
    have s10 := same_upd (o := .tup [V.int 0]) nt3
    refine ⟨.ref a, rfl, a, _, rfl, .inl (.inl (.inl (s10 _ _ (b9 _ _ nxa ha)))), .int 0, zs.length, .tup (.inl (.inl upd_same)) (.cons (.int 0) .nil), by rw [el], l0, by omega, fun vd H11 s11 dd => ?_⟩
    have s911 := s10.trans s11
    refine ⟨.ref x, rfl, x, C, dx, _, rfl, s911 _ _ x9, T.cl, T.n4, by show 3 < 1000; decide, ?_⟩
    rw [put4]
    have k12 : KT H11 (upd H11 x (.ins C dx (bf (.ref tn) vg vs vd))) := kt_upd (s911 _ _ x9) (fun z => z)
    have k912 : KT H9 (upd H11 x (.ins C dx (bf (.ref tn) vg vs vd))) := (kt_same s911).trans k12
    refine q _ (b9.trans ((same_but s911).trans But.at)) ⟨dx, tn, on, vg, vs, vd, upd_same, (k36.trans (k69.trans k912)) _ _ t3 trivial, don, ?_, ?_, ?_⟩
    · show Dt K _ vg (.tuple ((List.replicate zs.length (0 : Int)).map .int))
      rw [List.map_replicate]
      exact Dt.keepT (k69.trans k912) _ (by rw [← List.map_replicate]; exact tup_ints _) dg6
    · show Dt K _ vs (.tuple ((List.replicate zs.length []).map stackD))
      rw [List.map_replicate]
      exact Dt.keepT k912 _ ts ds9
    · show Dt K _ vd (.tuple ((List.replicate zs.length (0 : Int)).map .int))
      rw [List.map_replicate]
      exact Dt.keepT k12 _ (by rw [← List.map_replicate]; exact tup_ints _) dd
end
end Rc

namespace Rc
open PySem PySem.Spec PyProof.Rows L2
theorem book_same {K : PySem.W.Frag} {C : Addr} {H H' : Hp} {b : Addr} {M : Bk} (h : BookAt K C H b M) (s : Same H H') : BookAt K C H' b M := h.keep fun b o e _ => s b o e
theorem NoF.mk' {m : Str} (h : ((m == "names") || (m == "gifts") || (m == "stacks") || (m == "drops")) = false) : NoF m := by
  simp only [Bool.or_eq_false_iff] at h
  exact ⟨h.1.1.1, h.1.1.2, h.1.2, h.2⟩
section
variable {P : Program} {w : World} {K : PySem.W.Frag} {mg : Str → Option Value} {base : Heap}
/-! ### with_these -/
abbrev sWith : Stmt := inBook 1
theorem scWith : FnScope ["self", "gifts", "stacks", "drops", "other"] ["self", "gifts", "stacks", "drops"] (defScope sWith) := ⟨rfl, rfl, rfl, by decide +kernel, rfl, by decide +kernel, by decide +kernel⟩
def spWith (K : PySem.W.Frag) (C : Addr) : Sp := fun vs H Q _ => ∃ b M vg vs' vd gs ss ds, vs = [.ref b, vg, vs', vd] ∧ BookAt K C H b M ∧ NamesOk M.names ∧ Dt K H vg (.tuple (List.map PyData.int gs)) ∧ Dt K H vs' (.tuple (List.map stackD ss)) ∧ Dt K H vd (.tuple (List.map PyData.int ds)) ∧
  ∀ b' H', Same H H' → H b' = none → BookAt K C H' b' ⟨M.names, gs, ss, ds⟩ → Q (.ref b') H'
theorem ok_with {f fi C : Addr} {fd fdi : FuncData} (F : Fun K "with_these" "Book.with_these" sWith f fd) (T : ClsF K C) (B3 : Blt3 mg) (M : Mk K C fi) (gC : mg "Book" = some (.ref C))
    (GI : FnOk P w K mg base CX0 3 fi fdi ["self", "persons"] (spInit K C)) (bI : Binds K fdi ["self", "persons"] []) : FnOk P w K mg base CX0 5 f fd ["self", "gifts", "stacks", "drops"] (spWith K C) := by
  refine F.ok scWith (fun vs H Q E h => ?_) (fun cdv A outer s H vs Q E hr h => ?_)
  · obtain ⟨_, _, _, _, _, _, _, _, rfl, _⟩ := h
    rfl
  · obtain ⟨b, Mb, vg, vs', vd, gs, ss, ds, rfl, hb, ok, hg, hs, hd, q⟩ := h
    refine ⟨_, pss_cons (ps_set (i := 4) scWith.nd rfl (.inl rfl) (pe_make M GI hr (by rfl) gC bI .nil pass0 (pa_cons (pe_callTy call_list_of (by rfl) B3.list (by decide +kernel) (pa_cons (pe_fld (pv 0) rfl) pa_nil)) pa_nil)))
      (pss_cons (ps_fld (pv 4) (pv 1) rfl) (pss_cons (ps_fld (pv 4) (pv 2) rfl) (pss_cons (ps_fld (pv 4) (pv 3) rfl) (pss_one (ps_ret (pv 4)))))), ?_⟩
    obtain ⟨dx, tn, on, wg, ws, wd, e, h1, hn, h2, h3, h4⟩ := hb.ex
    refine ⟨.ref b, rfl, b, C, dx, _, _, rfl, e, T.cl, T.n1, bf_names, tn, _, rfl, .inr (.inl (.inr ⟨on, h1⟩)), fun l nl => ?_⟩
    intro x dy nx ndy nxy
    have s1 := same_upd (o := .lst (Mb.names.map V.str)) nl
    generalize hH1 : upd H l (.lst (Mb.names.map V.str)) = H1 at s1 nx ndy
    have hl : H1 l = some (.lst (Mb.names.map V.str)) := by
      rw [← hH1, upd_same]
    have nlx : l ≠ x := ne_of_none hl nx
    have nld : l ≠ dy := ne_of_none hl ndy
    have s2 : Same H1 (upd (upd H1 dy (.own x)) x (.ins C dy [])) := fun c o e => by
      rw [upd_ne (ne_of_none e nx), upd_ne (ne_of_none e ndy)]
      exact e
    refine ⟨x, dy, l, Mb.names, rfl, upd_same, s2 _ _ hl, ok, fun H2 b2 bk => ⟨rfl, ?_⟩⟩
    have nxH : H x = none := s1.free nx
    have s02 : Same H H2 := fun c o e => b2 c o (ne_of_none e nxH) (s2 c o (s1 c o e))
    obtain ⟨dx2, tn2, on2, ug, us, ud, e2, k1, kn, k2, k3, k4⟩ := bk.ex
    -- other.gifts = gifts; other.stacks = stacks; other.drops = drops
    refine ⟨vg, rfl, .ref x, rfl, x, C, dx2, _, rfl, e2, T.cl, T.n2, bf_len _ _ _ _, ?_⟩
    rw [putG]
    refine ⟨vs', rfl, .ref x, rfl, x, C, dx2, _, rfl, upd_same, T.cl, T.n3, bf_len _ _ _ _, ?_⟩
    rw [putS]
    refine ⟨vd, rfl, .ref x, rfl, x, C, dx2, _, rfl, upd_same, T.cl, T.n4, bf_len _ _ _ _, ?_⟩
    rw [putD, upd_upd, upd_upd]
    have kt : KT H2 (upd H2 x (.ins C dx2 (bf (.ref tn2) vg vs' vd))) := kt_upd e2 fun z => z
    have s03 : Same H (upd H2 x (.ins C dx2 (bf (.ref tn2) vg vs' vd))) := fun c o e => by
      rw [upd_ne (ne_of_none e nxH)]
      exact s02 c o e
    exact ⟨.ref x, rfl, q x _ s03 nxH ⟨dx2, tn2, on2, vg, vs', vd, upd_same, kt _ _ k1 trivial, kn, Dt.same s03 _ hg, Dt.same s03 _ hs, Dt.same s03 _ hd⟩⟩
/-! ### has, place_of, persons -/
abbrev sHas : Stmt := inBook 4
theorem scHas : FnScope ["self", "who"] ["self", "who"] (defScope sHas) := ⟨rfl, rfl, rfl, by decide +kernel, rfl, by decide +kernel, by decide +kernel⟩
def hasD (M : Bk) : PyData → Bool
  | .str z => decide (z ∈ M.names)
  | _ => false
def spHas (K : PySem.W.Frag) (C : Addr) : Sp := fun vs H Q _ => ∃ b M v d, vs = [.ref b, v] ∧ BookAt K C H b M ∧ NamesOk M.names ∧ Dt K H v d ∧ ShortD d ∧ ∀ H', Same H H' → Q (.bl (hasD M d)) H'
theorem ok_has {f fN C : Addr} {fd fdN : FuncData} (F : Fun K "has" "Book.has" sHas f fd) (T : ClsF K C) (N : Has P w K mg base 1 "is_name" ["thing"] (spBool K nameD) fN fdN) :
    FnOk P w K mg base CX0 2 f fd ["self", "who"] (spHas K C) := by
  refine F.ok scHas (fun vs H Q E h => ?_) (fun cdv A outer s H vs Q E hr h => ?_)
  · obtain ⟨_, _, _, _, rfl, _⟩ := h
    rfl
  · obtain ⟨b, M, v, d, rfl, hb, ok, hd, sd, q⟩ := h
    refine ⟨_, pss_one (ps_ret (pe_and (pe_call N.ok hr (by rfl) N.g N.kp N.b .nil pass0 (pa_cons (pv 1) pa_nil)) (pe_one (pe_cmpR op_in_seq (pv 1) (pe_fld (pv 0) rfl) (by rfl))))), ?_⟩
    refine ⟨v, rfl, v, d, rfl, hd, sd, fun H1 s1 => ⟨_, rfl, ?_⟩⟩
    obtain ⟨dx, tn, on, wg, ws, wd, e, h1, hn, h2, h3, h4⟩ := (book_same hb s1).ex
    have q1 := q H1 s1
    cases hd with
    | str z =>
      by_cases hm : z ∈ M.names
      · have en : nameD (.str z) = true := ok.nm z hm
        rw [en]
        refine iteT ⟨.str z, rfl, .ref b, rfl, b, C, dx, _, _, rfl, e, T.cl, T.n1, bf_names, tn, _, rfl, .inr (.inl (.inr ⟨on, h1⟩)), rfl, flat_strs _, ?_⟩
        show Q (.bl (inV (.str z) (M.names.map V.str))) H1
        rw [inV_strs]
        exact q1
      · have eh : hasD M (.str z) = false := decide_eq_false hm
        rw [eh] at q1
        cases en : nameD (.str z) with
        | false => exact iteF q1
        | true =>
          refine iteT ⟨.str z, rfl, .ref b, rfl, b, C, dx, _, _, rfl, e, T.cl, T.n1, bf_names, tn, _, rfl, .inr (.inl (.inr ⟨on, h1⟩)), rfl, flat_strs _, ?_⟩
          show Q (.bl (inV (.str z) (M.names.map V.str))) H1
          rw [inV_strs, decide_eq_false hm]
          exact q1
    | _ => exact iteF q1
abbrev sPlace : Stmt := inBook 2
theorem scPlace : FnScope ["self", "who"] ["self", "who"] (defScope sPlace) := ⟨rfl, rfl, rfl, by decide +kernel, rfl, by decide +kernel, by decide +kernel⟩
/-- the j-th person is called z -/
def spPlace (K : PySem.W.Frag) (C : Addr) : Sp := fun vs H Q _ => ∃ (b : Addr) (M : Bk) (z : Str) (j : Nat), vs = [.ref b, .str z] ∧ BookAt K C H b M ∧ NamesOk M.names ∧ M.names[j]? = some z ∧ ∀ H', Same H H' → Q (.int (j : Nat)) H'
theorem name_at {zs : List Str} (ok : NamesOk zs) {j : Nat} {z : Str} (e : zs[j]? = some z) : z ∈ zs ∧ (∀ m, m < j → zs[m]? ≠ some z) ∧ z.length ≤ 1000 := by
  have hm := List.mem_of_getElem? e
  refine ⟨hm, fun m hm' e' => ?_, by have := (nameT_len (ok.nm z hm)).2; omega⟩
  obtain ⟨h1, e1⟩ := List.getElem?_eq_some_iff.mp e
  obtain ⟨h2, e2⟩ := List.getElem?_eq_some_iff.mp e'
  have := (List.getElem_inj ok.nd).mp (e1.trans e2.symm)
  omega
theorem ok_place {f fh C : Addr} {fd fdh : FuncData} (F : Fun K "place_of" "Book.place_of" sPlace f fd) (T : ClsF K C) (HS : HasM P w K mg base C 2 "has" ["self", "who"] (spHas K C) fh fdh) :
    FnOk P w K mg base CX0 3 f fd ["self", "who"] (spPlace K C) := by
  refine F.ok scPlace (fun vs H Q E h => ?_) (fun cdv A outer s H vs Q E hr h => ?_)
  · obtain ⟨_, _, _, _, rfl, _⟩ := h
    rfl
  · obtain ⟨b, M, z, j, rfl, hb, ok, ej, q⟩ := h
    obtain ⟨hm, hf, hz⟩ := name_at ok ej
    refine ⟨_, pss_cons (ps_if (pt_not (pt_val (pe_meth (pv 0) T.cl HS.m HS.ok hr HS.b .nil pass0 (pa_cons (pv 1) pa_nil)))) pss_never pss_nil)
      (pss_one (ps_ret (pe_bmF PySem.F.slot_tuple_index PySem.F.type_tuple_index mt_tup_index (pe_fld (pv 0) rfl) (pa_cons (pv 1) pa_nil)))), ?_⟩
    obtain ⟨dx, tn, on, wg, ws, wd, e, h1, hn, h2, h3, h4⟩ := hb.ex
    refine ⟨.ref b, rfl, b, dx, _, rfl, e, bf_no (NoF.mk' (by decide +kernel)), .str z, rfl, b, M, .str z, .str z, rfl, hb, ok, .str z, (fun y ey => by cases ey; exact hz), fun H1 s1 => ⟨_, rfl, ?_⟩⟩
    have eh : hasD M (.str z) = true := decide_eq_true hm
    rw [eh]
    refine iteF ⟨.ref b, rfl, b, C, dx, _, _, rfl, s1 _ _ e, T.cl, T.n1, bf_names, tn, on, _, rfl, s1 _ _ h1, hn, .str z, rfl, tn, M.names, z, j, rfl, rfl, .inl (.inr ⟨on, s1 _ _ h1⟩), ej, hf, q H1 s1⟩
abbrev sPersons : Stmt := inBook 3
theorem scPersons : FnScope ["self"] ["self"] (defScope sPersons) := ⟨rfl, rfl, rfl, by decide +kernel, rfl, by decide +kernel, by decide +kernel⟩
def spPersons (K : PySem.W.Frag) (C : Addr) : Sp := fun vs H Q _ => ∃ b M, vs = [.ref b] ∧ BookAt K C H b M ∧ ∀ l, H l = none → Q (.ref l) (upd H l (.lst (M.names.map V.str)))
theorem ok_persons {f C : Addr} {fd : FuncData} (F : Fun K "persons" "Book.persons" sPersons f fd) (T : ClsF K C) (B3 : Blt3 mg) : FnOk P w K mg base CX0 1 f fd ["self"] (spPersons K C) := by
  refine F.ok scPersons (fun vs H Q E h => ?_) (fun cdv A outer s H vs Q E hr h => ?_)
  · obtain ⟨_, _, rfl, _⟩ := h
    rfl
  · obtain ⟨b, M, rfl, hb, q⟩ := h
    refine ⟨_, pss_one (ps_ret (pe_callTy call_list_of (by rfl) B3.list (by decide +kernel) (pa_cons (pe_fld (pv 0) rfl) pa_nil))), ?_⟩
    obtain ⟨dx, tn, on, wg, ws, wd, e, h1, hn, h2, h3, h4⟩ := hb.ex
    exact ⟨.ref b, rfl, b, C, dx, _, _, rfl, e, T.cl, T.n1, bf_names, tn, _, rfl, .inr (.inl (.inr ⟨on, h1⟩)), q⟩
/-! ### given, fallen, notes, pile -/
abbrev sGiven : Stmt := inBook 5
abbrev sFallen : Stmt := inBook 6
abbrev sNotes : Stmt := inBook 7
abbrev sPile : Stmt := inBook 8
theorem scGiven : FnScope ["self", "who"] ["self", "who"] (defScope sGiven) := ⟨rfl, rfl, rfl, by decide +kernel, rfl, by decide +kernel, by decide +kernel⟩
theorem scFallen : FnScope ["self", "who"] ["self", "who"] (defScope sFallen) := ⟨rfl, rfl, rfl, by decide +kernel, rfl, by decide +kernel, by decide +kernel⟩
theorem scNotes : FnScope ["self", "who"] ["self", "who"] (defScope sNotes) := ⟨rfl, rfl, rfl, by decide +kernel, rfl, by decide +kernel, by decide +kernel⟩
theorem scPile : FnScope ["self", "who", "gone", "left"] ["self", "who"] (defScope sPile) := ⟨rfl, rfl, rfl, by decide +kernel, rfl, by decide +kernel, by decide +kernel⟩
/-- a number of the j-th person -/
def spNum (K : PySem.W.Frag) (C : Addr) (g : Bk → List Int) : Sp := fun vs H Q _ => ∃ (b : Addr) (M : Bk) (z : Str) (j : Nat) (n : Int), vs = [.ref b, .str z] ∧ BookAt K C H b M ∧ NamesOk M.names ∧ M.names[j]? = some z ∧ (g M)[j]? = some n ∧ ∀ H', Same H H' → Q (.int n) H'
/-- a new list of notes of the j-th person -/
def spRow (K : PySem.W.Frag) (C : Addr) (g : List (Str × Int) → Int → List (Str × Int)) : Sp := fun vs H Q _ => ∃ (b : Addr) (M : Bk) (z : Str) (j : Nat) (l : List (Str × Int)) (n : Int), vs = [.ref b, .str z] ∧ BookAt K C H b M ∧ NamesOk M.names ∧ M.names[j]? = some z ∧
  M.stacks[j]? = some l ∧ M.drops[j]? = some n ∧ l.length ≤ 100 ∧ ∀ r xs H', Same H H' → H r = none → H' r = some (.lst xs) → DtAll K H' xs (notesD (g l n)) → Q (.ref r) H'
theorem map_get {α β : Type} {f : α → β} {l : List α} {j : Nat} {x : α} (h : l[j]? = some x) : (l.map f)[j]? = some (f x) := by
  rw [List.getElem?_map, h]
  rfl
theorem ok_given {f fp C : Addr} {fd fdp : FuncData} (F : Fun K "given" "Book.given" sGiven f fd) (T : ClsF K C) (PL : HasM P w K mg base C 3 "place_of" ["self", "who"] (spPlace K C) fp fdp) :
    FnOk P w K mg base CX0 4 f fd ["self", "who"] (spNum K C Bk.gifts) := by
  refine F.ok scGiven (fun vs H Q E h => ?_) (fun cdv A outer s H vs Q E hr h => ?_)
  · obtain ⟨_, _, _, _, _, rfl, _⟩ := h
    rfl
  · obtain ⟨b, M, z, j, n, rfl, hb, ok, ej, en, q⟩ := h
    refine ⟨_, pss_one (ps_ret (pe_ix ix_tupD (pe_fld (pv 0) rfl) (pe_meth (pv 0) T.cl PL.m PL.ok hr PL.b .nil pass0 (pa_cons (pv 1) pa_nil)) (fun _ _ => rfl))), ?_⟩
    obtain ⟨dx, tn, on, wg, ws, wd, e, h1, hn, h2, h3, h4⟩ := hb.ex
    refine ⟨.ref b, rfl, b, C, dx, _, _, rfl, e, T.cl, T.n2, bf_gifts, .ref b, rfl, b, dx, _, rfl, e, bf_no (NoF.mk' (by decide +kernel)), .str z, rfl, b, M, z, j, rfl, hb, ok, ej, fun H1 s1 => ?_⟩
    exact ⟨_, j, .int n, Dt.same s1 _ h2, rfl, map_get en, fun v dv => by cases dv; exact q H1 s1⟩
theorem ok_fallen {f fp C : Addr} {fd fdp : FuncData} (F : Fun K "fallen" "Book.fallen" sFallen f fd) (T : ClsF K C) (PL : HasM P w K mg base C 3 "place_of" ["self", "who"] (spPlace K C) fp fdp) :
    FnOk P w K mg base CX0 4 f fd ["self", "who"] (spNum K C Bk.drops) := by
  refine F.ok scFallen (fun vs H Q E h => ?_) (fun cdv A outer s H vs Q E hr h => ?_)
  · obtain ⟨_, _, _, _, _, rfl, _⟩ := h
    rfl
  · obtain ⟨b, M, z, j, n, rfl, hb, ok, ej, en, q⟩ := h
    refine ⟨_, pss_one (ps_ret (pe_ix ix_tupD (pe_fld (pv 0) rfl) (pe_meth (pv 0) T.cl PL.m PL.ok hr PL.b .nil pass0 (pa_cons (pv 1) pa_nil)) (fun _ _ => rfl))), ?_⟩
    obtain ⟨dx, tn, on, wg, ws, wd, e, h1, hn, h2, h3, h4⟩ := hb.ex
    refine ⟨.ref b, rfl, b, C, dx, _, _, rfl, e, T.cl, T.n4, bf_drops, .ref b, rfl, b, dx, _, rfl, e, bf_no (NoF.mk' (by decide +kernel)), .str z, rfl, b, M, z, j, rfl, hb, ok, ej, fun H1 s1 => ?_⟩
    exact ⟨_, j, .int n, Dt.same s1 _ h4, rfl, map_get en, fun v dv => by cases dv; exact q H1 s1⟩
theorem ok_notes {f fp C : Addr} {fd fdp : FuncData} (F : Fun K "notes" "Book.notes" sNotes f fd) (T : ClsF K C) (B3 : Blt3 mg) (PL : HasM P w K mg base C 3 "place_of" ["self", "who"] (spPlace K C) fp fdp) :
    FnOk P w K mg base CX0 4 f fd ["self", "who"] (spRow K C fun l _ => l) := by
  refine F.ok scNotes (fun vs H Q E h => ?_) (fun cdv A outer s H vs Q E hr h => ?_)
  · obtain ⟨_, _, _, _, _, _, rfl, _⟩ := h
    rfl
  · obtain ⟨b, M, z, j, l, n, rfl, hb, ok, ej, el, en, hl, q⟩ := h
    refine ⟨_, pss_one (ps_ret (pe_callTy call_listD (by rfl) B3.list (by decide +kernel) (pa_cons (pe_ix ix_tupD (pe_fld (pv 0) rfl) (pe_meth (pv 0) T.cl PL.m PL.ok hr PL.b .nil pass0 (pa_cons (pv 1) pa_nil)) (fun _ _ => rfl)) pa_nil))), ?_⟩
    obtain ⟨dx, tn, on, wg, ws, wd, e, h1, hn, h2, h3, h4⟩ := hb.ex
    refine ⟨.ref b, rfl, b, C, dx, _, _, rfl, e, T.cl, T.n3, bf_stacks, .ref b, rfl, b, dx, _, rfl, e, bf_no (NoF.mk' (by decide +kernel)), .str z, rfl, b, M, z, j, rfl, hb, ok, ej, fun H1 s1 => ?_⟩
    refine ⟨_, j, stackD l, Dt.same s1 _ h3, rfl, map_get el, fun v dv => ⟨v, _, rfl, .inl dv, fun r xs nr dx => ?_⟩⟩
    exact q r xs _ (s1.trans (same_upd nr)) (s1.free nr) upd_same (DtAll.same (same_upd nr) _ dx)
theorem ok_pile {f fs fn ff C : Addr} {fd fds fdn fdf : FuncData} (F : Fun K "pile" "Book.pile" sPile f fd) (T : ClsF K C) (SP : Has P w K mg base 1 "split_notes" ["notes", "fallen"] (spSplit K) fs fds)
    (NT : HasM P w K mg base C 4 "notes" ["self", "who"] (spRow K C fun l _ => l) fn fdn) (FL : HasM P w K mg base C 4 "fallen" ["self", "who"] (spNum K C Bk.drops) ff fdf) :
    FnOk P w K mg base CX0 5 f fd ["self", "who"] (spRow K C leftN) := by
  refine F.ok scPile (fun vs H Q E h => ?_) (fun cdv A outer s H vs Q E hr h => ?_)
  · obtain ⟨_, _, _, _, _, _, rfl, _⟩ := h
    rfl
  · obtain ⟨b, M, z, j, l, n, rfl, hb, ok, ej, el, en, hl, q⟩ := h
    refine ⟨_, pss_cons (ps_asg (pe_call SP.ok (hr.mono (by decide)) (by rfl) SP.g SP.kp SP.b .nil pass0 (pa_cons (pe_meth (pv 0) T.cl NT.m NT.ok hr NT.b .nil pass0 (pa_cons (pv 1) pa_nil))
        (pa_cons (pe_meth (pv 0) T.cl FL.m FL.ok hr FL.b .nil pass0 (pa_cons (pv 1) pa_nil)) pa_nil)))
        (pg_tup rfl (pgs_cons (pg_name (i := 2) scPile.nd rfl (.inl rfl)) (pgs_cons (pg_name (i := 3) scPile.nd rfl (.inl rfl)) pgs_nil))))
      (pss_one (ps_ret (pv 3))), ?_⟩
    obtain ⟨dx, tn, on, wg, ws, wd, e, h1, hn, h2, h3, h4⟩ := hb.ex
    refine ⟨.ref b, rfl, b, dx, _, rfl, e, bf_no (NoF.mk' (by decide +kernel)), .str z, rfl, b, M, z, j, l, n, rfl, hb, ok, ej, el, en, hl, fun r xs H1 s1 nr hr' dr => ?_⟩
    refine ⟨.ref b, rfl, b, dx, _, rfl, s1 _ _ e, bf_no (NoF.mk' (by decide +kernel)), .str z, rfl, b, M, z, j, n, rfl, book_same hb s1, ok, ej, en, fun H2 s2 => ?_⟩
    refine ⟨r, xs, true, l, n, rfl, .inl (.inl (s2 _ _ hr')), DtAll.same s2 _ dr, hl, fun t g m gx mx H3 s3 ht ng nm gm hg hm dg dm => ?_⟩
    refine ⟨t, _, rfl, .inl (.inl ht), rfl, _, _, rfl, _, _, rfl, rfl, .ref m, rfl, ?_⟩
    exact q m mx H3 (s1.trans (s2.trans s3)) ((s1.trans s2).free nm) hm dm
end
end Rc

namespace Rc
open PySem PySem.Spec PyProof.Rows L2 RZ
theorem walk_zipT {K : PySem.W.Frag} {a b : Addr} {xs ys : List V} {n : Nat} (hn : n = min xs.length ys.length) : Walk (ItzT K a b) n (fun H => SqT K H a xs ∧ SqT K H b ys) (YPair (fun i => xs[i]?) (fun i => ys[i]?)) := by
  subst hn
  refine ⟨fun i _ hi q => ?_, fun _ q => ⟨xs, ys, q.1, q.2, by omega⟩, fun i H v H' _ q y => ?_⟩
  · have h1 : i < xs.length := by omega
    have h2 : i < ys.length := by omega
    exact ⟨xs, ys, xs[i], ys[i], q.1, q.2, by simp [h1], by simp [h2]⟩
  · obtain ⟨T, x, z, g1, g2, g3, g4, g5⟩ := y
    exact ⟨T, x, z, g1, g2, g3, g4 xs q.1, g5 ys q.2⟩
def sumTo (z : Str) (l : List (Str × Int)) : Int := ((l.filter fun n => decide (n.1 = z)).map (·.2)).sum
def fallTo (M : Bk) (z : Str) : Int := ((M.stacks.zip M.drops).map fun p => sumTo z (goneN p.1 p.2)).sum
theorem len_le_sum : ∀ {l : List (List (Str × Int))} {x : List (Str × Int)}, x ∈ l → x.length ≤ (l.map List.length).sum
  | [], _, h => by cases h
  | y :: r, x, h => by
    rw [List.map_cons, List.sum_cons]
    rcases List.mem_cons.mp h with e | e
    · rw [e]
      exact Nat.le_add_right _ _
    · have := len_le_sum e
      omega
theorem Bk.Ok.row {M : Bk} (h : M.Ok) {l : List (Str × Int)} (hm : l ∈ M.stacks) : l.length ≤ 60 := Nat.le_trans (len_le_sum hm) h.many
theorem Bk.Ok.at_ {M : Bk} (h : M.Ok) {j : Nat} {z : Str} (e : M.names[j]? = some z) : ∃ g l d, M.gifts[j]? = some g ∧ M.stacks[j]? = some l ∧ M.drops[j]? = some d ∧ l.length ≤ 60 := by
  have hj : j < M.names.length := (List.getElem?_eq_some_iff.mp e).1
  have h1 : j < M.gifts.length := by rw [h.lg]; exact hj
  have h2 : j < M.stacks.length := by rw [h.ls]; exact hj
  have h3 : j < M.drops.length := by rw [h.ld]; exact hj
  exact ⟨_, _, _, List.getElem?_eq_getElem h1, List.getElem?_eq_getElem h2, List.getElem?_eq_getElem h3, h.row (List.getElem_mem h2)⟩
section
variable {P : Program} {w : World} {K : PySem.W.Frag} {mg : Str → Option Value} {base : Heap}
/-! ### fallen_to -/
abbrev sFallTo : Stmt := inBook 10
abbrev nFallTo : List Str := ["self", "who", "name", "total", "stack", "drop", "gone", "left", "to", "part"]
theorem scFallTo : FnScope nFallTo ["self", "who"] (defScope sFallTo) := ⟨rfl, rfl, rfl, by decide +kernel, rfl, by decide +kernel, by decide +kernel⟩
def spCalc (K : PySem.W.Frag) (C : Addr) (g : Bk → Nat → Str → Int) : Sp := fun vs H Q _ => ∃ (b : Addr) (M : Bk) (z : Str) (j : Nat), vs = [.ref b, .str z] ∧ BookAt K C H b M ∧ M.Ok ∧ M.names[j]? = some z ∧ ∀ H', Same H H' → Q (.int (g M j z)) H'
theorem ok_fallTo {f fp fs C : Addr} {fd fdp fds : FuncData} (F : Fun K "fallen_to" "Book.fallen_to" sFallTo f fd) (T : ClsF K C) (B3 : Blt3 mg) (PL : HasM P w K mg base C 3 "place_of" ["self", "who"] (spPlace K C) fp fdp)
    (SP : Has P w K mg base 1 "split_notes" ["notes", "fallen"] (spSplit K) fs fds) : FnOk P w K mg base CX0 4 f fd ["self", "who"] (spCalc K C fun M _ z => fallTo M z) := by
  refine F.ok scFallTo (fun vs H Q E h => ?_) (fun cdv A outer s H vs Q E hr h => ?_)
  · obtain ⟨_, _, _, _, rfl, _⟩ := h
    rfl
  · obtain ⟨b, M, z, j, rfl, hb, ok, ej, q⟩ := h
    refine ⟨_, pss_cons (ps_set (i := 2) scFallTo.nd rfl (.inr rfl) (pe_ix ix_tup (pe_fld (pv 0) rfl) (pe_meth (pv 0) T.cl PL.m PL.ok hr PL.b .nil pass0 (pa_cons (pv 1) pa_nil)) (fun _ _ => rfl)))
      (pss_cons (ps_set (i := 3) scFallTo.nd rfl (.inl rfl) pe_int)
      (pss_cons (ps_for PassesOwn.never rfl (pi_zipA (by rfl) B3.zip (pa_cons (pe_fld (pv 0) rfl) (pa_cons (pe_fld (pv 0) rfl) pa_nil))) (pg_tup rfl (pgs_cons (pg_name (i := 4) scFallTo.nd rfl (.inl rfl)) (pgs_cons (pg_name (i := 5) scFallTo.nd rfl (.inl rfl)) pgs_nil)))
        (pss_cons (ps_asg (pe_call SP.ok (hr.mono (by decide)) (by rfl) SP.g SP.kp SP.b .nil pass0 (pa_cons (pv 4) (pa_cons (pv 5) pa_nil))) (pg_tup rfl (pgs_cons (pg_name (i := 6) scFallTo.nd rfl (.inl rfl)) (pgs_cons (pg_name (i := 7) scFallTo.nd rfl (.inl rfl)) pgs_nil))))
        (pss_one (ps_aug (i := 3) scFallTo.nd rfl (.inl rfl) (pe_callB (cr_sum rfl) (by rfl) B3.sum (by decide +kernel) (pa_cons
          (pe_lc (own := [("to", 8), ("part", 9)]) (g := gTup K 2 (gCons (gName 8) (gCons (gName 9) gNil))) rfl scFallTo.nd (pi_list (pv 6)) (blkOk_by (N := nFallTo) (sc := defScope sFallTo) (own := [("to", 8), ("part", 9)]) (by decide +kernel))
            (fun _ _ _ _ _ => pg_tup rfl (pgs_cons (pg_name (i := 8) scFallTo.nd rfl (.inl rfl) (hf := .inr rfl)) (pgs_cons (pg_name (i := 9) scFallTo.nd rfl (.inl rfl) (hf := .inr rfl)) pgs_nil)))
            (fun _ _ _ _ _ => pts_one (pt_cmpR op_eq (pv 8) (pv 2) (nomark _))) (fun _ _ _ _ _ => pv 9)) pa_nil)) ip_add))))
      (pss_one (ps_ret (pv 3))))), ?_⟩
    obtain ⟨dx, tn, on, wg, ws, wd, e, h1, hn, h2, h3, h4⟩ := hb.ex
    refine ⟨.ref b, rfl, b, C, dx, _, _, rfl, e, T.cl, T.n1, bf_names, .ref b, rfl, b, dx, _, rfl, e, bf_no (NoF.mk' (by decide +kernel)), .str z, rfl, b, M, z, j, rfl, hb, ok.names, ej, fun H1 s1 => ?_⟩
    refine ⟨tn, _, _, .str z, rfl, rfl, .inl (.inr ⟨on, s1 _ _ h1⟩), atI_nat (map_get ej), ?_⟩
    have h3' := Dt.same s1 _ h3
    have h4' := Dt.same s1 _ h4
    obtain ⟨ta, xs, rfl, qa, da⟩ := h3'.tup_inv
    obtain ⟨tb, ys, rfl, qb, db⟩ := h4'.tup_inv
    have ey := db.ints_eq
    subst ey
    refine ⟨.ref b, rfl, b, C, dx, _, _, rfl, s1 _ _ e, T.cl, T.n3, bf_stacks, .ref b, rfl, b, C, dx, _, _, rfl, s1 _ _ e, T.cl, T.n4, bf_drops, ta, tb, xs, _, rfl, .inr ⟨qa, qb, ?_⟩⟩
    have lx : xs.length = M.names.length := by
      rw [da.len, List.length_map, ok.ls]
    have ly : (M.drops.map V.int).length = M.names.length := by
      rw [List.length_map, ok.ld]
    refine for_it (walk_zipT (xs := xs) (ys := M.drops.map V.int) (n := M.names.length) (by rw [lx, ly, Nat.min_self])) (fun i σ H' => ∃ y4 y5 y6 y7 y8 y9, σ = [some (.ref b), some (.str z), some (.str z), some (.int (((M.stacks.zip M.drops).take i).map fun p => sumTo z (goneN p.1 p.2)).sum), y4, y5, y6, y7, y8, y9] ∧ Same H1 H')
      ⟨_, _, _, _, _, _, rfl, Same.refl _⟩ (fun i σ H' _ hP => ?_) (fun i x σ H2' H2 hi hP hY => ?_) (fun σ H' hP => ?_)
    · obtain ⟨_, _, _, _, _, _, _, s2⟩ := hP
      exact ⟨same_seqT s2 qa, same_seqT s2 qb⟩
    · obtain ⟨y4, y5, y6, y7, y8, y9, rfl, s2⟩ := hP
      obtain ⟨Tt, x1, x2, rfl, nT, rfl, e1, e2⟩ := hY
      have e1' : xs[i]? = some x1 := e1
      have e2' : (M.drops.map V.int)[i]? = some x2 := e2
      have hs : i < M.stacks.length := by rw [ok.ls]; exact hi
      have hdr : i < M.drops.length := by rw [ok.ld]; exact hi
      rw [List.getElem?_map, List.getElem?_eq_getElem hdr] at e2'
      have ex2 : x2 = .int M.drops[i] := (Option.some.inj e2').symm
      subst ex2
      obtain ⟨v1, g1, d1⟩ := da.get (n := i) (d := stackD M.stacks[i]) (map_get (List.getElem?_eq_getElem hs))
      rw [e1'] at g1
      cases g1
      have s3 := s2.trans (same_upd (o := .tup [x1, V.int M.drops[i]]) nT)
      obtain ⟨sa, sx, rfl, sq, sd⟩ := (Dt.same s3 _ d1).tup_inv
      refine ⟨Tt, _, rfl, .inl (.inl upd_same), rfl, _, _, rfl, _, _, rfl, rfl, ?_⟩
      refine ⟨.ref sa, rfl, _, rfl, sa, sx, false, M.stacks[i], M.drops[i], rfl, sq, sd, by have := ok.row (List.getElem_mem hs); omega, fun t g m gx mx H4 s4 ht ng nm gm hg hm dg dm => ?_⟩
      refine ⟨t, _, rfl, .inl (.inl ht), rfl, _, _, rfl, _, _, rfl, rfl, ?_⟩
      refine ⟨_, rfl, .ref g, rfl, g, rfl, ⟨_, .inl (.inl hg)⟩, fun D nD => ?_⟩
      generalize hG : goneN M.stacks[i] M.drops[i] = G at dg
      have lg : gx.length = G.length := by
        rw [dg.len]
        unfold notesD
        rw [List.length_map]
      have lG : G.length ≤ 60 := by
        rw [← hG]
        exact Nat.le_trans (goneN_len _ _) (ok.row (List.getElem_mem hs))
      refine lc_it (walk_list (xs := gx)) (fun i' H' => Same H4 H' ∧ H' D = some (.lst (((G.take i').filter fun n => decide (n.1 = z)).map fun n => .int n.2))) ⟨same_upd nD, upd_same⟩ (fun i' H' _ hP => hP.1.seq (.inl (.inl hg)))
        (fun i' x' H5' H5 hi' hP hY => ?_) (fun H5 hP => ?_)
      · obtain ⟨rfl, hx⟩ := hY
        obtain ⟨hil, dn⟩ := (DtAll.same hP.1 _ dg).notes_get hx
        obtain ⟨na, rfl, qn⟩ := note_inv dn
        refine ⟨na, _, rfl, qn, rfl, _, _, rfl, _, _, rfl, rfl, rfl, _, rfl, _, rfl, rfl, _, rfl, ?_⟩
        have tk : G.take (i' + 1) = G.take i' ++ [G[i']] := by
          rw [List.take_add_one, List.getElem?_eq_getElem hil]
          rfl
        by_cases hz : G[i'].1 = z
        · rw [show decide (V.str G[i'].1 = V.str z) = true from decide_eq_true (by rw [hz])]
          refine iteT ⟨_, rfl, _, hP.2, ?_, fun c o ec => ?_, ?_⟩
          · rw [List.length_map]
            have := List.length_filter_le (fun n : Str × Int => decide (n.1 = z)) (G.take i')
            rw [List.length_take] at this
            exact small1000 (by omega)
          · rw [upd_ne (ne_of_none ec nD)]
            exact hP.1 c o ec
          · rw [upd_same, tk, List.filter_append, List.map_append]
            simp [hz]
        · rw [show decide (V.str G[i'].1 = V.str z) = false from decide_eq_false (fun c => hz (V.str.inj c))]
          refine iteF ⟨hP.1, ?_⟩
          rw [hP.2, tk, List.filter_append]
          simp [hz]
      · refine ⟨D, (G.filter fun n => decide (n.1 = z)).map (·.2), rfl, .inl (.inl ?_), _, _, rfl, rfl, ?_⟩
        · rw [hP.2, lg, List.take_length, List.map_map]
          rfl
        refine ⟨some (.ref sa), some (.int M.drops[i]), some (.ref g), some (.ref m), y8, y9, ?_, s3.trans (s4.trans hP.1)⟩
        have tk : (M.stacks.zip M.drops).take (i + 1) = (M.stacks.zip M.drops).take i ++ [(M.stacks[i], M.drops[i])] := by
          rw [List.take_add_one, List.getElem?_zip_eq_some (z := (M.stacks[i], M.drops[i])) |>.mpr ⟨List.getElem?_eq_getElem hs, List.getElem?_eq_getElem hdr⟩]
          rfl
        rw [tk, List.map_append, List.sum_append]
        simp only [List.map_cons, List.map_nil, List.sum_cons, List.sum_nil, Int.add_zero]
        rw [hG]
        rfl
    · obtain ⟨y4, y5, y6, y7, y8, y9, rfl, s2⟩ := hP
      refine ⟨_, rfl, ?_⟩
      rw [List.take_of_length_le (by rw [List.length_zip, ok.ls, ok.ld, Nat.min_self]; exact Nat.le_refl _)]
      exact q _ (s1.trans s2)
end
end Rc

namespace Rc
open PySem PySem.Spec PyProof.Rows L2 RZ
def cashM (M : Bk) (j : Nat) (z : Str) : Int := M.gifts.getD j 0 + fallTo M z - M.drops.getD j 0
def putM (M : Bk) (j : Nat) (y : Str) (n : Int) : Bk := { M with stacks := M.stacks.set j (M.stacks.getD j [] ++ [(y, n)]) }
def giveM (M : Bk) (j : Nat) (n : Int) : Bk := { M with gifts := M.gifts.set j (M.gifts.getD j 0 + n) }
theorem getD_of {α : Type} {l : List α} {j : Nat} {x d : α} (h : l[j]? = some x) : l.getD j d = x := by
  rw [List.getD_eq_getElem?_getD, h]
  rfl
def rLenS (K : PySem.W.Frag) : List V → Hp → VK → Prop := fun xs H Q => ∃ p ys, xs = [V.ref p] ∧ (SqL K H p ys ∨ SqT K H p ys) ∧ Q (V.int ys.length) H
theorem call_lenS {X : Cx} {K : PySem.W.Frag} (e : X.K = K) : CallR X (.builtin "len") (rLenS K) := by
  subst e
  exact call_len_seq
def manyM (M : Bk) : Nat := (M.stacks.map List.length).sum
section
variable {P : Program} {w : World} {K : PySem.W.Frag} {mg : Str → Option Value} {base : Heap}
/-! ### cash -/
abbrev sCash : Stmt := inBook 11
theorem scCash : FnScope ["self", "who"] ["self", "who"] (defScope sCash) := ⟨rfl, rfl, rfl, by decide +kernel, rfl, by decide +kernel, by decide +kernel⟩
theorem ok_cash {f f1 f2 f3 C : Addr} {fd fd1 fd2 fd3 : FuncData} (F : Fun K "cash" "Book.cash" sCash f fd) (T : ClsF K C) (GV : HasM P w K mg base C 4 "given" ["self", "who"] (spNum K C Bk.gifts) f1 fd1)
    (FT : HasM P w K mg base C 4 "fallen_to" ["self", "who"] (spCalc K C fun M _ z => fallTo M z) f2 fd2) (FL : HasM P w K mg base C 4 "fallen" ["self", "who"] (spNum K C Bk.drops) f3 fd3) :
    FnOk P w K mg base CX0 5 f fd ["self", "who"] (spCalc K C cashM) := by
  refine F.ok scCash (fun vs H Q E h => ?_) (fun cdv A outer s H vs Q E hr h => ?_)
  · obtain ⟨_, _, _, _, rfl, _⟩ := h
    rfl
  · obtain ⟨b, M, z, j, rfl, hb, ok, ej, q⟩ := h
    refine ⟨_, pss_one (ps_ret (pe_op op_sub (pe_op op_add (pe_meth (pv 0) T.cl GV.m GV.ok hr GV.b .nil pass0 (pa_cons (pv 1) pa_nil)) (pe_meth (pv 0) T.cl FT.m FT.ok hr FT.b .nil pass0 (pa_cons (pv 1) pa_nil))) (pe_meth (pv 0) T.cl FL.m FL.ok hr FL.b .nil pass0 (pa_cons (pv 1) pa_nil)))), ?_⟩
    obtain ⟨g, l, d, eg, el, ed, _⟩ := ok.at_ ej
    obtain ⟨dx, tn, on, wg, ws, wd, e, h1, hn, h2, h3, h4⟩ := hb.ex
    refine ⟨.ref b, rfl, b, dx, _, rfl, e, bf_no (NoF.mk' (by decide +kernel)), .str z, rfl, b, M, z, j, g, rfl, hb, ok.names, ej, eg, fun H1 s1 => ?_⟩
    refine ⟨.ref b, rfl, b, dx, _, rfl, s1 _ _ e, bf_no (NoF.mk' (by decide +kernel)), .str z, rfl, b, M, z, j, rfl, book_same hb s1, ok, ej, fun H2 s2 => ⟨_, _, rfl, rfl, ?_⟩⟩
    have s12 := s1.trans s2
    refine ⟨.ref b, rfl, b, dx, _, rfl, s12 _ _ e, bf_no (NoF.mk' (by decide +kernel)), .str z, rfl, b, M, z, j, d, rfl, book_same hb s12, ok.names, ej, ed, fun H3 s3 => ⟨_, _, rfl, rfl, ?_⟩⟩
    have ec : cashM M j z = g + fallTo M z - d := by
      unfold cashM
      rw [getD_of eg, getD_of ed]
    have qq := q _ (s12.trans s3)
    rw [ec] at qq
    exact qq
/-! ### put, give -/
abbrev sPut : Stmt := inBook 12
abbrev nPut : List Str := ["self", "who", "to", "amount", "place", "name", "stack"]
theorem scPut : FnScope nPut ["self", "who", "to", "amount"] (defScope sPut) := ⟨rfl, rfl, rfl, by decide +kernel, rfl, by decide +kernel, by decide +kernel⟩
def spPut (K : PySem.W.Frag) (C : Addr) : Sp := fun vs H Q _ => ∃ (b : Addr) (M : Bk) (z y : Str) (j k : Nat) (n : Int), vs = [.ref b, .str z, .str y, .int n] ∧ BookAt K C H b M ∧ M.Ok ∧ M.names[j]? = some z ∧ M.names[k]? = some y ∧ 1 ≤ n ∧ manyM M < 60 ∧
  ∀ b' H', Same H H' → H b' = none → BookAt K C H' b' (putM M j y n) → Q (.ref b') H'
theorem map_set {α β : Type} (f : α → β) (l : List α) (j : Nat) (x : α) : (l.map f).set j (f x) = (l.set j x).map f := by
  rw [List.map_set]
theorem ok_put {f f1 f2 f3 f4 C : Addr} {fd fd1 fd2 fd3 fd4 : FuncData} (F : Fun K "put" "Book.put" sPut f fd) (T : ClsF K C) (B : Blt mg) (B3 : Blt3 mg) (gM : ∃ t, mg "MOST" = some (.int 60 t))
    (PL : HasM P w K mg base C 3 "place_of" ["self", "who"] (spPlace K C) f1 fd1) (CA : Has P w K mg base 3 "check_amount" ["amount"] (spCheckA K) f2 fd2) (CH : Has P w K mg base 1 "with_changed" ["row", "place", "thing"] (spChg K) f3 fd3)
    (WT : HasM P w K mg base C 5 "with_these" ["self", "gifts", "stacks", "drops"] (spWith K C) f4 fd4) : FnOk P w K mg base CX0 6 f fd ["self", "who", "to", "amount"] (spPut K C) := by
  obtain ⟨tM, gM⟩ := gM
  refine F.ok scPut (fun vs H Q E h => ?_) (fun cdv A outer s H vs Q E hr h => ?_)
  · obtain ⟨_, _, _, _, _, _, _, rfl, _⟩ := h
    rfl
  · obtain ⟨b, M, z, y, j, k, n, rfl, hb, ok, ej, ek, n1, mm, q⟩ := h
    have hr3 := hr.mono (show 3 ≤ 5 by decide)
    have hr1 := hr.mono (show 1 ≤ 5 by decide)
    refine ⟨_, pss_cons (ps_set (i := 4) scPut.nd rfl (.inl rfl) (pe_meth (pv 0) T.cl PL.m PL.ok hr3 PL.b .nil pass0 (pa_cons (pv 1) pa_nil)))
      (pss_cons (ps_set (i := 5) scPut.nd rfl (.inl rfl) (pe_ix ix_tup (pe_fld (pv 0) rfl) (pe_meth (pv 0) T.cl PL.m PL.ok hr3 PL.b .nil pass0 (pa_cons (pv 2) pa_nil)) (fun _ _ => rfl)))
      (pss_cons (ps_expr (pe_call CA.ok hr3 (by rfl) CA.g CA.kp CA.b .nil pass0 (pa_cons (pv 3) pa_nil)))
      (pss_cons (ps_if (pt_cmpR op_ge (pe_callB (cr_sum rfl) (by rfl) B3.sum (by decide +kernel) (pa_cons
          (pe_lc (own := [("stack", 6)]) (g := gName 6) (tt := tYes) rfl scPut.nd (pi_tup (pe_fld (pv 0) rfl)) (blkOk_by (N := nPut) (sc := defScope sPut) (own := [("stack", 6)]) (by decide +kernel))
            (fun _ _ _ _ _ => pg_name (i := 6) scPut.nd rfl (.inl rfl) (hf := .inr rfl)) (fun _ _ _ _ _ => pts_nil)
            (fun _ _ _ _ _ => pe_callB (call_lenS (K := K) rfl) (by rfl) B.len PySem.boot_len (pa_cons (pv 6) pa_nil))) pa_nil)) (pe_glob (v := .int 60) (by rfl) gM ⟨_, rfl⟩) (nomark _)) pss_never pss_nil)
      (pss_cons (ps_set (i := 6) scPut.nd rfl (.inl rfl) (pe_op op_catD (pe_ix ix_tupD (pe_fld (pv 0) rfl) (pv 4) (fun _ _ => rfl)) (pe_tup (pa_cons (pe_tup (pa_cons (pv 5) (pa_cons (pv 3) pa_nil))) pa_nil))))
      (pss_one (ps_ret (pe_meth (pv 0) T.cl WT.m WT.ok hr WT.b .nil pass0 (pa_cons (pe_fld (pv 0) rfl) (pa_cons (pe_call CH.ok hr1 (by rfl) CH.g CH.kp CH.b .nil pass0 (pa_cons (pe_fld (pv 0) rfl) (pa_cons (pv 4) (pa_cons (pv 6) pa_nil))))
        (pa_cons (pe_fld (pv 0) rfl) pa_nil)))))))))), ?_⟩
    obtain ⟨g, l, d, eg, el, ed, ll⟩ := ok.at_ ej
    obtain ⟨dx, tn, on, wg, ws, wd, e, h1, hn, h2, h3, h4⟩ := hb.ex
    refine ⟨.ref b, rfl, b, dx, _, rfl, e, bf_no (NoF.mk' (by decide +kernel)), .str z, rfl, b, M, z, j, rfl, hb, ok.names, ej, fun H1 s1 => ?_⟩
    refine ⟨.ref b, rfl, b, C, dx, _, _, rfl, s1 _ _ e, T.cl, T.n1, bf_names, .ref b, rfl, b, dx, _, rfl, s1 _ _ e, bf_no (NoF.mk' (by decide +kernel)), .str y, rfl, b, M, y, k, rfl, book_same hb s1, ok.names, ek, fun H2 s2 => ?_⟩
    have s12 := s1.trans s2
    refine ⟨tn, _, _, .str y, rfl, rfl, .inl (.inr ⟨on, s12 _ _ h1⟩), atI_nat (map_get ek), ?_⟩
    refine ⟨.int n, rfl, n, rfl, n1, fun H3 s3 => ?_⟩
    have s13 := s12.trans s3
    obtain ⟨ta, xs, ews, qa, da⟩ := (Dt.same s13 _ h3).tup_inv
    subst ews
    refine ⟨.ref b, rfl, b, C, dx, _, _, rfl, s13 _ _ e, T.cl, T.n3, bf_stacks, ta, rfl, ⟨_, qa⟩, fun D nD => ?_⟩
    refine lc_it (walk_tup (xs := xs)) (fun i H' => Same H3 H' ∧ H' D = some (.lst ((M.stacks.take i).map fun l => .int (l.length : Nat)))) ⟨same_upd nD, upd_same⟩ (fun i H' _ hP => same_seqT hP.1 qa)
      (fun i x H4' H4 hi hP hY => ?_) (fun H4 hP => ?_)
    · obtain ⟨rfl, hx⟩ := hY
      have hs : i < M.stacks.length := by
        have := da.len
        rw [List.length_map] at this
        omega
      obtain ⟨v1, g1, d1⟩ := da.get (n := i) (d := stackD M.stacks[i]) (map_get (List.getElem?_eq_getElem hs))
      rw [hx] at g1
      cases g1
      obtain ⟨sa, sx, rfl, sq, sd⟩ := (Dt.same hP.1 _ d1).tup_inv
      have lsx : sx.length = M.stacks[i].length := by
        rw [sd.len]
        unfold notesD
        rw [List.length_map]
      refine ⟨rfl, .ref sa, rfl, sa, sx, rfl, .inr sq, _, hP.2, ?_, fun c o ec => ?_, ?_⟩
      · rw [List.length_map, List.length_take]
        have := ok.n1
        have := ok.ls
        exact small1000 (by omega)
      · rw [upd_ne (ne_of_none ec nD)]
        exact hP.1 c o ec
      · rw [upd_same, List.take_add_one, List.getElem?_eq_getElem hs, List.map_append, lsx]
        rfl
    · have lx : xs.length = M.stacks.length := by
        rw [da.len, List.length_map]
      refine ⟨D, M.stacks.map fun l => ((l.length : Nat) : Int), rfl, .inl (.inl ?_), _, _, rfl, rfl, _, rfl, ?_⟩
      · rw [hP.2, lx, List.take_length, List.map_map]
        rfl
      have esum : (M.stacks.map fun l => ((l.length : Nat) : Int)).sum = ((manyM M : Nat) : Int) := by
        unfold manyM
        generalize M.stacks = S
        induction S with
        | nil => rfl
        | cons a r ih =>
          rw [List.map_cons, List.sum_cons, ih, List.map_cons, List.sum_cons]
          omega
      rw [esum, show decide ((60 : Int) ≤ ((manyM M : Nat) : Int)) = false from decide_eq_false (by omega)]
      have s14 := s13.trans hP.1
      refine iteF ?_
      refine ⟨.ref b, rfl, b, C, dx, _, _, rfl, s14 _ _ e, T.cl, T.n3, bf_stacks, .int (j : Nat), rfl, _, j, stackD l, Dt.same s14 _ h3, rfl, map_get el, fun v dv => ?_⟩
      refine ⟨.str y, rfl, .int n, rfl, by show 2 ≤ sizeLine; decide, fun t1 nt1 => ⟨by show 1 ≤ sizeLine; decide, fun t2 nt2 => ?_⟩⟩
      have s5 := (same_upd (o := .tup [V.str y, V.int n]) nt1).trans (same_upd (o := .tup [V.ref t1]) nt2)
      refine ⟨notesD l, [noteD (y, n)], Dt.same s5 _ dv, .tup (.inl (.inl upd_same)) (.cons (.tup (.inl (.inl (same_upd nt2 _ _ upd_same))) (.cons (.str y) (.cons (.int n) .nil))) .nil), ?_, fun v6 H6 s6 d6 => ?_⟩
      · unfold notesD
        rw [List.length_map, List.length_singleton]
        omega
      have s16 := s14.trans (s5.trans s6)
      have en : notesD l ++ [noteD (y, n)] = notesD (l ++ [(y, n)]) := by
        unfold notesD
        rw [List.map_append]
        rfl
      rw [en] at d6
      -- self.with_these(self.gifts, with_changed(self.stacks, place, stack), self.drops)
      refine ⟨.ref b, rfl, b, dx, _, rfl, s16 _ _ e, bf_no (NoF.mk' (by decide +kernel)), .ref b, rfl, b, C, dx, _, _, rfl, s16 _ _ e, T.cl, T.n2, bf_gifts, .ref b, rfl, b, C, dx, _, _, rfl, s16 _ _ e, T.cl, T.n3, bf_stacks,
        .int (j : Nat), rfl, v6, rfl, _, _, j, v6, stackD (l ++ [(y, n)]), rfl, Dt.same s16 _ h3, d6, ?_, ?_, fun v7 H7 s7 d7 => ?_⟩
      · rw [List.length_map]
        exact (List.getElem?_eq_some_iff.mp el).1
      · rw [List.length_map, ok.ls]
        have := ok.n1
        omega
      have s17 := s16.trans s7
      rw [map_set] at d7
      refine ⟨.ref b, rfl, b, C, dx, _, _, rfl, s17 _ _ e, T.cl, T.n4, bf_drops, b, M, _, _, _, M.gifts, _, M.drops, rfl, book_same hb s17, ok.names, Dt.same s17 _ h2, d7, Dt.same s17 _ h4, fun b' H8 s8 nb hb' => ?_⟩
      refine q b' H8 (s17.trans s8) (s17.free nb) ?_
      have ep : putM M j y n = ⟨M.names, M.gifts, M.stacks.set j (l ++ [(y, n)]), M.drops⟩ := by
        unfold putM
        rw [getD_of el]
      rw [ep]
      exact hb'
abbrev sGive : Stmt := inBook 13
theorem scGive : FnScope ["self", "who", "amount", "place", "gift"] ["self", "who", "amount"] (defScope sGive) := ⟨rfl, rfl, rfl, by decide +kernel, rfl, by decide +kernel, by decide +kernel⟩
def spGive (K : PySem.W.Frag) (C : Addr) : Sp := fun vs H Q _ => ∃ (b : Addr) (M : Bk) (z : Str) (j : Nat) (n : Int), vs = [.ref b, .str z, .int n] ∧ BookAt K C H b M ∧ M.Ok ∧ M.names[j]? = some z ∧ 1 ≤ n ∧
  ∀ b' H', Same H H' → H b' = none → BookAt K C H' b' (giveM M j n) → Q (.ref b') H'
theorem ok_give {f f1 f2 f3 f4 C : Addr} {fd fd1 fd2 fd3 fd4 : FuncData} (F : Fun K "give" "Book.give" sGive f fd) (T : ClsF K C)
    (PL : HasM P w K mg base C 3 "place_of" ["self", "who"] (spPlace K C) f1 fd1) (CA : Has P w K mg base 3 "check_amount" ["amount"] (spCheckA K) f2 fd2) (CH : Has P w K mg base 1 "with_changed" ["row", "place", "thing"] (spChg K) f3 fd3)
    (WT : HasM P w K mg base C 5 "with_these" ["self", "gifts", "stacks", "drops"] (spWith K C) f4 fd4) : FnOk P w K mg base CX0 6 f fd ["self", "who", "amount"] (spGive K C) := by
  refine F.ok scGive (fun vs H Q E h => ?_) (fun cdv A outer s H vs Q E hr h => ?_)
  · obtain ⟨_, _, _, _, _, rfl, _⟩ := h
    rfl
  · obtain ⟨b, M, z, j, n, rfl, hb, ok, ej, n1, q⟩ := h
    have hr3 := hr.mono (show 3 ≤ 5 by decide)
    have hr1 := hr.mono (show 1 ≤ 5 by decide)
    refine ⟨_, pss_cons (ps_set (i := 3) scGive.nd rfl (.inl rfl) (pe_meth (pv 0) T.cl PL.m PL.ok hr3 PL.b .nil pass0 (pa_cons (pv 1) pa_nil)))
      (pss_cons (ps_expr (pe_call CA.ok hr3 (by rfl) CA.g CA.kp CA.b .nil pass0 (pa_cons (pv 2) pa_nil)))
      (pss_cons (ps_set (i := 4) scGive.nd rfl (.inl rfl) (pe_op op_add (pe_ix ix_tupD (pe_fld (pv 0) rfl) (pv 3) (fun _ _ => rfl)) (pv 2)))
      (pss_one (ps_ret (pe_meth (pv 0) T.cl WT.m WT.ok hr WT.b .nil pass0 (pa_cons (pe_call CH.ok hr1 (by rfl) CH.g CH.kp CH.b .nil pass0 (pa_cons (pe_fld (pv 0) rfl) (pa_cons (pv 3) (pa_cons (pv 4) pa_nil))))
        (pa_cons (pe_fld (pv 0) rfl) (pa_cons (pe_fld (pv 0) rfl) pa_nil)))))))), ?_⟩
    obtain ⟨g, l, d, eg, el, ed, ll⟩ := ok.at_ ej
    obtain ⟨dx, tn, on, wg, ws, wd, e, h1, hn, h2, h3, h4⟩ := hb.ex
    refine ⟨.ref b, rfl, b, dx, _, rfl, e, bf_no (NoF.mk' (by decide +kernel)), .str z, rfl, b, M, z, j, rfl, hb, ok.names, ej, fun H1 s1 => ?_⟩
    refine ⟨.int n, rfl, n, rfl, n1, fun H3 s3 => ?_⟩
    have s13 := s1.trans s3
    refine ⟨.ref b, rfl, b, C, dx, _, _, rfl, s13 _ _ e, T.cl, T.n2, bf_gifts, .int (j : Nat), rfl, _, j, .int g, Dt.same s13 _ h2, rfl, map_get eg, fun v dv => ?_⟩
    cases dv
    refine ⟨.int n, rfl, g, n, rfl, rfl, ?_⟩
    refine ⟨.ref b, rfl, b, dx, _, rfl, s13 _ _ e, bf_no (NoF.mk' (by decide +kernel)), .ref b, rfl, b, C, dx, _, _, rfl, s13 _ _ e, T.cl, T.n2, bf_gifts,
      .int (j : Nat), rfl, .int (g + n), rfl, _, _, j, _, .int (g + n), rfl, Dt.same s13 _ h2, .int _, ?_, ?_, fun v7 H7 s7 d7 => ?_⟩
    · rw [List.length_map]
      exact (List.getElem?_eq_some_iff.mp eg).1
    · rw [List.length_map, ok.lg]
      have := ok.n1
      omega
    have s17 := s13.trans s7
    rw [map_set] at d7
    refine ⟨.ref b, rfl, b, C, dx, _, _, rfl, s17 _ _ e, T.cl, T.n3, bf_stacks, .ref b, rfl, b, C, dx, _, _, rfl, s17 _ _ e, T.cl, T.n4, bf_drops, b, M, _, _, _, _, M.stacks, M.drops, rfl, book_same hb s17, ok.names, d7, Dt.same s17 _ h3, Dt.same s17 _ h4, fun b' H8 s8 nb hb' => ?_⟩
    refine q b' H8 (s17.trans s8) (s17.free nb) ?_
    have ep : giveM M j n = ⟨M.names, M.gifts.set j (g + n), M.stacks, M.drops⟩ := by
      unfold giveM
      rw [getD_of eg]
    rw [ep]
    exact hb'
/-! ### key -/
abbrev sKey : Stmt := inBook 16
theorem scKey : FnScope ["self"] ["self"] (defScope sKey) := ⟨rfl, rfl, rfl, by decide +kernel, rfl, by decide +kernel, by decide +kernel⟩
def keyD (M : Bk) : PyData := .tuple [.tuple (M.names.map .str), .tuple (M.gifts.map .int), .tuple (M.stacks.map stackD), .tuple (M.drops.map .int)]
def spKey (K : PySem.W.Frag) (C : Addr) : Sp := fun vs H Q _ => ∃ b M, vs = [.ref b] ∧ BookAt K C H b M ∧ ∀ v H', Same H H' → Dt K H' v (keyD M) → Q v H'
theorem ok_key {f C : Addr} {fd : FuncData} (F : Fun K "key" "Book.key" sKey f fd) (T : ClsF K C) : FnOk P w K mg base CX0 1 f fd ["self"] (spKey K C) := by
  refine F.ok scKey (fun vs H Q E h => ?_) (fun cdv A outer s H vs Q E hr h => ?_)
  · obtain ⟨_, _, rfl, _⟩ := h
    rfl
  · obtain ⟨b, M, rfl, hb, q⟩ := h
    refine ⟨_, pss_one (ps_ret (pe_tup (pa_cons (pe_fld (pv 0) rfl) (pa_cons (pe_fld (pv 0) rfl) (pa_cons (pe_fld (pv 0) rfl) (pa_cons (pe_fld (pv 0) rfl) pa_nil)))))), ?_⟩
    obtain ⟨dx, tn, on, wg, ws, wd, e, h1, hn, h2, h3, h4⟩ := hb.ex
    refine ⟨.ref b, rfl, b, C, dx, _, _, rfl, e, T.cl, T.n1, bf_names, .ref b, rfl, b, C, dx, _, _, rfl, e, T.cl, T.n2, bf_gifts, .ref b, rfl, b, C, dx, _, _, rfl, e, T.cl, T.n3, bf_stacks, .ref b, rfl, b, C, dx, _, _, rfl, e, T.cl, T.n4, bf_drops, by show 4 ≤ sizeLine; decide, fun t nt => ?_⟩
    have st := same_upd (o := .tup [V.ref tn, wg, ws, wd]) nt
    exact q _ _ st (.tup (.inl (.inl upd_same)) (.cons (.tup (.inl (.inr ⟨on, st _ _ h1⟩)) (DtAll.strs _)) (.cons (Dt.same st _ h2) (.cons (Dt.same st _ h3) (.cons (Dt.same st _ h4) .nil)))))
end
end Rc

namespace Rc
open PySem PySem.Spec PyProof.Rows L2 RZ
theorem out_it {J : It} {n : Nat} {G : Hp → Prop} {Y : Nat → Hp → V → Hp → Prop} (w : Walk J n G Y) {Body : V → Hp → (Hp → Prop) → Prop} {H0 : Hp} {Qd : Hp → Prop} (Pv : Nat → Hp → Prop) (h0 : Pv 0 H0) (hG : ∀ i H, i ≤ n → Pv i H → G H)
    (hs : ∀ i x H H', i < n → Pv i H → Y i H x H' → Body x H' (Pv (i + 1))) (hd : ∀ H, Pv n H → Qd H) :
    ∃ W : Nat → Nat → Hp → Prop, (∃ m, W 0 m H0) ∧ ∀ i m H, W i m H → (J.stop i H ∧ Qd H) ∨ (J.go i H ∧ ∃ Nx : Hp → Prop, (∀ H', Nx H' → ∃ m', m' < m ∧ W (i + 1) m' H') ∧ ∀ x H', J.yld i H x H' → Body x H' Nx) := by
  refine ⟨fun i m H => m = n - i ∧ i ≤ n ∧ Pv i H, ⟨n, by simp, Nat.zero_le _, h0⟩, ?_⟩
  rintro i m H ⟨rfl, hi, p⟩
  have g := hG i H hi p
  by_cases hlt : i < n
  · exact .inr ⟨w.goes i H hlt g, Pv (i + 1), fun H' p' => ⟨n - (i + 1), by omega, rfl, hlt, p'⟩, fun x H' y => hs i x H H' hlt p (w.yields i H x H' hlt g y)⟩
  · obtain rfl : i = n := by omega
    exact .inl ⟨w.stops H g, hd H p⟩
def leftM (M : Bk) (i : Nat) : List (Str × Int) := ((M.stacks.zip M.drops).take i).flatMap fun p => leftN p.1 p.2
theorem leftM_succ {M : Bk} {i : Nat} {l : List (Str × Int)} {d : Int} (h1 : M.stacks[i]? = some l) (h2 : M.drops[i]? = some d) : leftM M (i + 1) = leftM M i ++ leftN l d := by
  unfold leftM
  rw [List.take_add_one, List.getElem?_zip_eq_some (z := (l, d)) |>.mpr ⟨h1, h2⟩, List.flatMap_append]
  simp
theorem leftM_len (M : Bk) (ok : M.Ok) : ∀ i, (leftM M i).length ≤ ((M.stacks.take i).map List.length).sum
  | 0 => by simp [leftM]
  | i + 1 => by
    have ih := leftM_len M ok i
    by_cases h : i < M.stacks.length
    · have h2 : i < M.drops.length := by
        rw [ok.ld, ← ok.ls]
        exact h
      rw [leftM_succ (List.getElem?_eq_getElem h) (List.getElem?_eq_getElem h2), List.take_add_one, List.getElem?_eq_getElem h, List.map_append, List.sum_append, List.length_append]
      have := leftN_len M.stacks[i] M.drops[i]
      simp only [Option.toList_some, List.map_cons, List.map_nil, List.sum_cons, List.sum_nil]
      omega
    · have e1 : (M.stacks.zip M.drops).take (i + 1) = (M.stacks.zip M.drops).take i := by
        rw [List.take_of_length_le (by rw [List.length_zip]; omega), List.take_of_length_le (by rw [List.length_zip]; omega)]
      have e2 : M.stacks.take (i + 1) = M.stacks.take i := by
        rw [List.take_of_length_le (by omega), List.take_of_length_le (by omega)]
      unfold leftM at ih ⊢
      rw [e1, e2]
      exact ih
theorem sum_take_le : ∀ (l : List (List (Str × Int))) (i : Nat), ((l.take i).map List.length).sum ≤ (l.map List.length).sum
  | [], _ => by simp
  | _ :: _, 0 => by simp
  | a :: r, i + 1 => by
    have := sum_take_le r i
    simp only [List.take_succ_cons, List.map_cons, List.sum_cons]
    omega
section
variable {P : Program} {w : World} {K : PySem.W.Frag} {mg : Str → Option Value} {base : Heap}
abbrev sLefts : Stmt := inBook 17
abbrev nLefts : List Str := ["self", "who", "note"]
theorem scLefts : FnScope nLefts ["self"] (defScope sLefts) := ⟨rfl, rfl, rfl, by decide +kernel, rfl, by decide +kernel, by decide +kernel⟩
def spLefts (K : PySem.W.Frag) (C : Addr) : Sp := fun vs H Q _ => ∃ b M, vs = [.ref b] ∧ BookAt K C H b M ∧ M.Ok ∧ ∀ r xs H', Same H H' → H r = none → H' r = some (.lst xs) → xs.length = (leftM M M.names.length).length → Q (.ref r) H'
theorem ok_lefts {f fp C : Addr} {fd fdp : FuncData} (F : Fun K "notes_left" "Book.notes_left" sLefts f fd) (T : ClsF K C) (PI' : HasM P w K mg base C 5 "pile" ["self", "who"] (spRow K C leftN) fp fdp) :
    FnOk P w K mg base CX0 6 f fd ["self"] (spLefts K C) := by
  refine F.ok scLefts (fun vs H Q E h => ?_) (fun cdv A outer s H vs Q E hr h => ?_)
  · obtain ⟨_, _, rfl, _⟩ := h
    rfl
  · obtain ⟨b, M, rfl, hb, ok, q⟩ := h
    refine ⟨_, pss_one (ps_ret (pe_lc2 (own := [("who", 1), ("note", 2)]) (vs1 := [2]) (g := gName 1) (g1 := gName 2) (tt := tYes) (tt1 := tYes) (te := tVar 2) (wi1 := iList K (tMeth C "pile" (spRow K C leftN) [] E0 (tVar 0) (tCons (tVar 1) tNil))) rfl scLefts.nd (pi_tup (pe_fld (pv 0) rfl))
      (blkOk_by (N := nLefts) (sc := defScope sLefts) (own := [("who", 1), ("note", 2)]) (by decide +kernel)) (by decide) (fun _ _ _ _ _ => pg_name (i := 1) scLefts.nd rfl (.inl rfl) (hf := .inr rfl)) (fun _ _ _ _ _ => pts_nil)
      (fun _ _ _ _ _ => pi_list (pe_meth (pv 0) T.cl PI'.m PI'.ok hr PI'.b .nil pass0 (pa_cons (pv 1) pa_nil))) (fun _ _ _ _ _ => pg_name (i := 2) scLefts.nd rfl (.inl rfl) (hf := .inr rfl)) (fun _ _ _ _ _ => pts_nil) (fun _ _ _ _ _ => pv 2))), ?_⟩
    obtain ⟨dx, tn, on, wg, ws, wd, e, h1, hn, h2, h3, h4⟩ := hb.ex
    have qn : SqT K H tn (M.names.map V.str) := .inl (.inr ⟨on, h1⟩)
    refine ⟨.ref b, rfl, b, C, dx, _, _, rfl, e, T.cl, T.n1, bf_names, tn, rfl, ⟨_, qn⟩, fun D nD => ?_⟩
    have bound : ∀ i, (leftM M i).length ≤ 60 := fun i => Nat.le_trans (leftM_len M ok i) (Nat.le_trans (sum_take_le _ _) ok.many)
    refine out_it (walk_tup (K := K) (a := tn) (xs := M.names.map V.str)) (fun i H' => Same H H' ∧ ∃ acc, H' D = some (.lst acc) ∧ acc.length = (leftM M i).length) ⟨same_upd nD, [], upd_same, rfl⟩ (fun i H' _ hP => same_seqT hP.1 qn)
      (fun i x H1' H1 hi hP hY => ?_) (fun H1 hP => ?_)
    · obtain ⟨rfl, hx⟩ := hY
      rw [List.length_map] at hi
      obtain ⟨s1, acc, hD, ha⟩ := hP
      have ex : x = .str M.names[i] := by
        rw [List.getElem?_map, List.getElem?_eq_getElem hi] at hx
        exact (Option.some.inj hx).symm
      subst ex
      obtain ⟨g, l, d, eg, el, ed, ll⟩ := ok.at_ (List.getElem?_eq_getElem hi)
      refine ⟨rfl, ?_⟩
      refine ⟨.ref b, rfl, b, dx, _, rfl, s1 _ _ e, bf_no (NoF.mk' (by decide +kernel)), _, rfl, b, M, _, i, l, d, rfl, book_same hb s1, ok.names, List.getElem?_eq_getElem hi, el, ed, by omega, fun r xs H2 s2 nr hr2 dr => ?_⟩
      have lx : xs.length = (leftN l d).length := by
        rw [dr.len]
        unfold notesD
        rw [List.length_map]
      have rD : r ≠ D := (ne_of_none hD nr).symm
      refine ⟨r, rfl, ⟨_, .inl (.inl hr2)⟩, ?_⟩
      have es := leftM_succ el ed
      have b1 := bound (i + 1)
      rw [es, List.length_append] at b1
      refine out_it (walk_list (K := K) (a := r) (xs := xs)) (fun j H' => Same H H' ∧ H' r = some (.lst xs) ∧ ∃ acc', H' D = some (.lst acc') ∧ acc'.length = (leftM M i).length + j) ⟨s1.trans s2, hr2, acc, s2 _ _ hD, by omega⟩ (fun j H' _ hP => .inl (.inl hP.2.1))
        (fun j y H3' H3 hj hP hY => ?_) (fun H3 hP => ?_)
      · obtain ⟨rfl, hy⟩ := hY
        obtain ⟨s3, hr3, acc', hD3, ha3⟩ := hP
        refine ⟨rfl, y, rfl, acc', hD3, small1000 (by omega), fun c o ec => ?_, ?_, acc' ++ [y], upd_same, ?_⟩
        · rw [upd_ne (ne_of_none ec nD)]
          exact s3 c o ec
        · rw [upd_ne rD]
          exact hr3
        · rw [List.length_append, ha3]
          rfl
      · obtain ⟨s3, hr3, acc', hD3, ha3⟩ := hP
        exact ⟨s3, acc', hD3, by rw [es, List.length_append, ha3, lx]⟩
    · obtain ⟨s1, acc, hD, ha⟩ := hP
      rw [List.length_map] at ha
      exact q D acc H1 s1 nD hD ha
/-! ### len -/
abbrev sLenB : Stmt := inBook 19
theorem scLenB : FnScope ["self"] ["self"] (defScope sLenB) := ⟨rfl, rfl, rfl, by decide +kernel, rfl, by decide +kernel, by decide +kernel⟩
def lenM (M : Bk) : Nat := (leftM M M.names.length).length
def spLenB (K : PySem.W.Frag) (C : Addr) : Sp := fun vs H Q _ => ∃ b M, vs = [.ref b] ∧ BookAt K C H b M ∧ M.Ok ∧ ∀ H', Same H H' → Q (.int (lenM M : Nat)) H'
theorem ok_lenB {f fp C : Addr} {fd fdp : FuncData} (F : Fun K "__len__" "Book.__len__" sLenB f fd) (T : ClsF K C) (B : Blt mg) (LF : HasM P w K mg base C 6 "notes_left" ["self"] (spLefts K C) fp fdp) :
    FnOk P w K mg base CX0 7 f fd ["self"] (spLenB K C) := by
  refine F.ok scLenB (fun vs H Q E h => ?_) (fun cdv A outer s H vs Q E hr h => ?_)
  · obtain ⟨_, _, rfl, _⟩ := h
    rfl
  · obtain ⟨b, M, rfl, hb, ok, q⟩ := h
    refine ⟨_, pss_one (ps_ret (pe_callB call_len_seq (by rfl) B.len PySem.boot_len (pa_cons (pe_meth0 (pv 0) T.cl LF.m LF.ok hr LF.b .nil pass0) pa_nil))), ?_⟩
    obtain ⟨dx, tn, on, wg, ws, wd, e, h1, hn, h2, h3, h4⟩ := hb.ex
    refine ⟨.ref b, rfl, b, dx, _, rfl, e, bf_no (NoF.mk' (by decide +kernel)), b, M, rfl, hb, ok, fun r xs H' s' nr hr' hl => ?_⟩
    refine ⟨r, xs, rfl, .inl (.inl (.inl hr')), ?_⟩
    rw [hl]
    exact q H' s'
theorem lenM_le {M : Bk} (ok : M.Ok) : lenM M ≤ 60 := Nat.le_trans (leftM_len M ok _) (Nat.le_trans (sum_take_le _ _) ok.many)
/-- len(book) -/
def rLenB (K : PySem.W.Frag) (C : Addr) : List V → Hp → VK → Prop := fun xs H Q => ∃ b M, xs = [.ref b] ∧ BookAt K C H b M ∧ M.Ok ∧ ∀ H', Same H H' → Q (.int (lenM M : Nat)) H'
theorem call_lenB {X : Cx} {C f : Addr} {fd : FuncData} (G : FnOk X.prog X.w X.K X.mg X.base CX0 7 f fd ["self"] (spLenB X.K C)) (bd : Binds X.K fd ["self"] []) (hm : Meth X.K C "__len__" f) (hr : Room 8 X.A) : CallR X (.builtin "len") (rLenB X.K C) := by
  intro pins s σ H xs us Q I r h
  obtain ⟨b, M, rfl, hb, ok, q⟩ := h
  obtain ⟨u, rfl, ru⟩ := vals1 r
  cases ru
  obtain ⟨dx, tn, on, wg, ws, wd, e, h1, hn, h2, h3, h4⟩ := hb.ex
  obtain ⟨m, Fm⟩ := I.fr
  obtain ⟨mA, O, _⟩ := ins_get I.hok e
  obtain ⟨od, J, _⟩ := O.look
  refine PySem.W.len_K Fm I.ok.mod.kin J hm.at_ hm.fn ?_
  have e0 := I.env0
  refine wpAny_call (codeAny_mono (G.run X.A.in1 X.stack s H ⟨[.ref b], []⟩ [.ref b] [.ref b] (fun v H' => v = .int (lenM M : Nat) ∧ Q (.int (lenM M : Nat)) H') E0 hr.in1 e0.in1 (bd s [.ref b] I.kIn rfl) (.cons rfl .nil) ⟨b, M, rfl, hb, ok, fun H' s' => ⟨rfl, q H' s'⟩⟩) fun r s' hq => ?_)
  match r, hq with
  | .error e, hq => exact hq.elim
  | .ok .next, hq => exact hq.elim
  | .ok .brk, hq => exact hq.elim
  | .ok .cont, hq => exact hq.elim
  | .ok (.ret u), hq =>
    obtain ⟨v, H', I', rv, ev, q'⟩ := I.after hq
    subst ev
    obtain ⟨t, rfl⟩ := rv
    have := lenM_le ok
    exact ⟨⟨by omega, by omega⟩, ⟨.int _, H', I'.tok _, ⟨_, rfl⟩, q'⟩⟩
end
end Rc

namespace Rc
/-! ### own exceptions by super().__init__(text); self.f = f; .. -/
namespace EX
open PySem PySem.W PySem.Calls PyProof.Rows PySem.HandSPX
open L2 (defScope defBody defArgs)
abbrev supS (t : Str) (p0 p1 p2 p3 p4 p5 : Pos) : Stmt := .Expr (.Call (.Attribute (.Call (.Name "super" p0) [] [] p1) "__init__" p2) [.Constant (.str t) 0 p3] [] p4) p5
abbrev fldS (f : Str) (q1 q2 q3 q4 : Pos) : Stmt := .Assign [.Attribute (.Name "self" q1) f q2] (.Name f q3) q4
/-- an instance, its dict or none -/
abbrev exI (C t : Addr) (d : Option Addr) : Obj := { cls := .ref C, dict := d, data := .fields #[.ref t, .none, .none, .none, .bool false, .none] }
section
variable {prog : Program} {w : World} {A : Around} {E : Value → Shared → Prop} {K : Frag} {x C : Addr} {f : Str} {v : Value} {cd : ClassData} {B newId initId : String} {bmB : List Value} {s : Shared}
theorem st_new {t0 : Addr} {Q : Unit → Shared → Prop} (SF : StoreFacts B bmB "object.__setattr__" "object") (X : K.In s.heap) (hx : s.heap.get? x = some (exI C t0 none))
    (hcd : clsIn K C = some cd) (hh : cd.hasDict = true) (ov : excOver K C bmB = true) (sa : findIn K (.ref C) "__setattr__" = some (some (.builtin "object.__setattr__"))) (nf : findIn K (.ref C) f = some none)
    (hq : ∀ h' tk dx, (∀ b o, b ≠ x → s.heap.get? b = some o → h'.get? b = some o) → s.heap.objs.size ≤ dx → dx ≠ x → s.heap.objs.size ≤ h'.objs.size →
      h'.get? x = some (exI C t0 (some dx)) → h'.Ns1 dx (fun y => if y = f then some v else none) → Q () { s with heap := h', toks := tk }) :
    wpAny (model prog w) A (setAttr (.ref x) f v) Q E s := by
  obtain ⟨hp, g, d, t, os⟩ := s
  have I : InstAt hp x (exI C t0 none) C none := ⟨hx, rfl, rfl, trivial⟩
  have xs : x ≠ hp.objs.size := Nat.ne_of_lt (Heap.lt_size hx)
  have L : Looks (model prog w) hp (classData C) cd := looks_clsIn X hcd
  have tk : takerIn K C f = some none := by unfold takerIn; rw [nf]; rfl
  refine set_plain X I sa (osa_openX (s := ⟨hp, g, d, t + 1, os⟩) SF X I ov tk fun b => ?_)
  obtain ⟨c1, c2, c3, c4, c5, c6, c7, c8, c9, c10, c11⟩ := cd
  dsimp only at hh
  subst hh
  dsimp only
  unfold Builtin.ObjectAttr.storeInOwnDict Builtin.ObjectAttr.ownDictForStores
  repeat (first | with_reducible refine store_in_new ?_ ?_ | with_reducible refine wpAny_loadPart_at hx ?_ | with_reducible refine L.at ?_ | wp_step)
  · exact ⟨_, #[], _, (Heap.get?_update_ne _ _ _ _ xs.symm).trans (Heap.get?_push_at rfl rfl), rfl, fun e he => absurd he (by simp), fun _ => rfl⟩
  · intro h' tk' hn' hs
    have hx1 : (hp.push { cls := .type "dict", data := .dict #[] }).get? x = some (exI C t0 none) := Heap.get?_push_of_some _ hx
    refine hq h' tk' hp.objs.size (fun b o hb ho => ?_) (Nat.le_refl _) xs.symm ?_ ?_ hn'
    · have z1 := Heap.get?_push_of_some { cls := .type "dict", data := .dict #[] } ho
      exact (hs.2 b (Nat.ne_of_lt (Heap.lt_size ho))).trans ((Heap.get?_update_ne _ _ _ _ hb).trans z1)
    · have z := (hn'.lt : hp.objs.size < h'.objs.size)
      exact Nat.le_of_lt z
    · exact (hs.2 x xs).trans (Heap.get?_update_self _ hx1 rfl)
theorem st_old {t0 dx : Addr} {m0 : Str → Option Value} {nl : List Str} {Q : Unit → Shared → Prop} (SF : StoreFacts B bmB "object.__setattr__" "object") (X : K.In s.heap) (hx : s.heap.get? x = some (exI C t0 (some dx)))
    (hns : s.heap.Ns1 dx m0) (hw : Within m0 nl) (hz : nl.length ≤ 1000)
    (hcd : clsIn K C = some cd) (hh : cd.hasDict = true) (ov : excOver K C bmB = true) (sa : findIn K (.ref C) "__setattr__" = some (some (.builtin "object.__setattr__"))) (nf : findIn K (.ref C) f = some none)
    (hq : ∀ h' tk, (∀ b o, b ≠ dx → s.heap.get? b = some o → h'.get? b = some o) → s.heap.objs.size ≤ h'.objs.size → h'.Ns1 dx (fun y => if y = f then some v else m0 y) → Q () { s with heap := h', toks := tk }) :
    wpAny (model prog w) A (setAttr (.ref x) f v) Q E s := by
  obtain ⟨hp, g, d, t, os⟩ := s
  obtain ⟨oD, _, _, hoD, _, _⟩ := hns.count hw
  have I : InstAt hp x (exI C t0 (some dx)) C (some oD) := ⟨hx, rfl, rfl, hoD⟩
  have L : Looks (model prog w) hp (classData C) cd := looks_clsIn X hcd
  have tk : takerIn K C f = some none := by unfold takerIn; rw [nf]; rfl
  refine set_plain X I sa (osa_openX (s := ⟨hp, g, d, t + 1, os⟩) SF X I ov tk fun b => ?_)
  obtain ⟨c1, c2, c3, c4, c5, c6, c7, c8, c9, c10, c11⟩ := cd
  dsimp only at hh
  subst hh
  dsimp only
  unfold Builtin.ObjectAttr.storeInOwnDict Builtin.ObjectAttr.ownDictForStores
  repeat (first | with_reducible refine ESX.store_in_old hns hw hz ?_ | with_reducible refine wpAny_loadPart_at hx ?_ | with_reducible refine L.at ?_ | wp_step)
  intro h' tk' hn' hs
  exact hq h' tk' (fun b o hb ho => (hs.2 b hb).trans ho) (Nat.le_of_eq hs.1.symm) hn'
/-- initId bound to x, called -/
theorem run_bound {u t0 : Addr} {rest : List Value} {Q : Value → Shared → Prop} (FB : ExcBaseFacts B newId initId bmB) (X : K.In s.heap) (q : excInitIn K C bmB newId = true)
    (hx : s.heap.get? x = some (exI C t0 none)) (hu : s.heap.get? u = some (kxs_mw initId x)) (hz : rest.length ≤ sizeLine)
    (hq : ∀ h' t1, (∀ b o, b ≠ x → s.heap.get? b = some o → h'.get? b = some o) → s.heap.objs.size ≤ h'.objs.size → h'.get? x = some (exI C t1 none) → Q .none { s with heap := h' }) :
    wpAny (model prog w) A (call (.ref u) rest) Q E s := by
  obtain ⟨nm, N', qn, bs, bm, hdct, sn, sub, ab, col, dd, k0, k1, k2, k3, k5, hC, hT⟩ := excInit_of X q
  obtain ⟨hh, g, d, tk, os⟩ := s
  refine wpAny_call (codeAny_of_tree ?_)
  show wpAny _ A.in1 (callAny (.ref u) ⟨rest, []⟩) _ _ _
  simp only [callAny]
  refine wpAny_bind (wpAny_load hu ?_)
  simp only [kxs_mw, show (Value.type "method-wrapper" == Value.type "method" || Value.type "method-wrapper" == Value.type "builtin_function_or_method" || Value.type "method-wrapper" == Value.type "method-wrapper") = true from by decide, if_true]
  refine KFB.if_so (by decide) ?_
  refine wpAny_bind (check_bound_init FB.toExcCallFacts hC hx rfl (wpAny_bind (wpAny_pure (wpAny_pure ?_))))
  refine ⟨plainId_quiet FB.init.plain _, codeAny_builtin FB.initEntry ?_⟩
  refine exc_init_tree (cls := .ref C) (t0 := t0) (dv := none) (c2 := .none) (c3 := .none) (b4 := .bool false) hx hz fun h' k e et => ?_
  exact hq h' _ k (Nat.le_of_lt (Heap.lt_size et)) e
/-- .. all in one row -/
def OneRow (tx : Str) (p0 p1 p2 p3 p4 : Pos) : Prop := ∃ pl : Sem Bool, ∀ env : Env, eval (.Call (.Attribute (.Call (.Name "super" p0) [] [] p1) "__init__" p2) [.Constant (.str tx) 0 p3] [] p4) env = (do
  let ov ← attributeBase (.Call (.Name "super" p0) [] [] p1) "__init__" env (eval (.Call (.Name "super" p0) [] [] p1) env)
  standAt p2.atName
  let (f, first) ← holding [ov] (getMethod ov "__init__" pl)
  callWith p4 f first (backTo p4 (starEach [.Constant (.str tx) 0 p3] env)) [])
/-- super().__init__(text), in the def's own frame -/
theorem ex_super {t0 L fI cda cc : Addr} {scope : Scope} {qual : Str} {body : List Stmt} {tx : Str} {p0 p1 p2 p3 p4 p5 : Pos} {m mg mb : Str → Option Value} {fd : FuncData} {oc ccl cl : Value} {od cdd cld : Option Addr} {osl ccs csl : Array (Option Value)} {ar : Arg} {vs : Array Value} {file : Str} {tf : Tok} {Q : Flow → Shared → Prop}
    (row : OneRow tx p0 p1 p2 p3 p4) (FB : ExcBaseFacts B newId initId bmB) (KF : KxsFacts B initId) (X : K.In s.heap) (q : excInitIn K C bmB newId = true) (hcd : clsIn K C = some cd)
    (hg : s.heap.Ns mainGlobals mg) (hm : mg "super" = none) (hb : s.heap.Ns builtinsNs mb) (hbs : mb "super" = some (.type "super"))
    (hL : s.heap.Ns L m) (hv : m "self" = some (.ref x)) (hx : s.heap.get? x = some (exI C t0 none))
    (lf : K.lookup fI = some ⟨oc, od, .func fd, osl⟩) (hp : (fd.params.posonlyargs ++ fd.params.args).head? = some ar) (har : ar.arg = "self")
    (lc : K.lookup cda = some ⟨ccl, cdd, .fields vs, ccs⟩) (hvs : vs[2]? = some (.str file tf)) (hfile : ((prog.main.file : Str) == file) = true) (htop : (prog.main.scope.names.lookup ("super" : Str)).isSome = false)
    (lcell : K.lookup cc = some ⟨cl, cld, .cell (some (.ref C)), csl⟩) (hsub : mroIn K C (.ref C) = some true) (opq : nsIn K cStatics "thirdparty.any" = some none)
    (hsup : alongIn K "__init__" ((cd.mro.dropWhile (· != .ref C)).drop 1) = some (some (.builtin initId))) (hB : subIn K (.ref C) (.type B) = some true)
    (hk : scope.kind = .function) (hks : scope.names.lookup ("super" : Str) = some .globalImplicit) (hkc : scope.names.lookup ("__class__" : Str) = some .free) (hka : scope.names.lookup ("self" : Str) = some .local)
    (hq : ∀ h' tk t1, (∀ b o, b ≠ x → s.heap.get? b = some o → h'.get? b = some o) → s.heap.objs.size ≤ h'.objs.size → h'.get? x = some (exI C t1 none) → Q .next { s with heap := h', toks := tk }) :
    _root_.PySem.wpAt (model prog w) A (.func body (ksEnv qual scope L fI (.ref cda) cc)) (exec (supS tx p0 p1 p2 p3 p4 p5) (ksEnv qual scope L fI (.ref cda) cc)) Q E s := by
  have I : InstAt s.heap x (exI C t0 none) C none := ⟨hx, rfl, rfl, trivial⟩
  have xC : x ≠ C := ks_ne X I hcd
  obtain ⟨hh, g, d, t, os⟩ := s
  obtain ⟨oD, hD1, hD2⟩ : ∃ oD, hh.get? C = some oD ∧ oD.data = .cls cd := by
    unfold clsIn at hcd
    split at hcd
    · rename_i c d cd' sl ho
      cases hcd
      exact ⟨_, X _ _ ho, rfl⟩
    · cases hcd
  obtain ⟨pl, row⟩ := row
  obtain ⟨kd, nms, g1, g2, mo⟩ := scope
  dsimp only at hk hks hkc hka
  subst hk
  refine ks_wpAt_Expr_any (ks_wpAt_MethodCall (pl := pl) ?_ (row _))
  refine ks_wpAt_super_base (env := ksEnv qual ⟨.function, nms, g1, g2, mo⟩ L fI (.ref cda) cc) hks hkc (by decide) rfl (X _ _ lf) rfl hp rfl (X _ _ lc) rfl hvs hfile htop ?_
  refine ks_loadName_global rfl hks (loadGlobal_builtin (env := ksEnv qual ⟨.function, nms, g1, g2, mo⟩ L fI (.ref cda) cc) hg hm hb hbs ⟨rfl, ?_⟩)
  refine wpAny_loadName_free rfl hkc rfl ⟨_, X _ _ lcell, rfl⟩ ?_
  rw [har]
  refine wpAny_loadName_local rfl hka hL hv (ks_wpAny_isType_cls hD1 hD2 ⟨rfl, ?_⟩)
  refine ks_wpAny_call_super hD1 hD2 hx rfl (fun c e => by cases e) (looks_mroIn X hsub) (fun h1 e1 k1 => ?_)
  have X1 : K.In h1 := X.keeps k1
  have I1 : InstAt h1 x (exI C t0 none) C none := ⟨k1 _ _ hx, rfl, rfl, trivial⟩
  refine kxs_getMethod KF e1 (looks_opaque X1 opq) (l₀ := cd.mro) ?_ rfl X1 hsup (I1.type.andThen (looks_subIn X1 hB)) xC (by decide) ?_
  · exact fun A Q E s k q => wpAny_bind ((looks_clsIn X1 hcd) A _ E s k (wpAny_pure q))
  have k2 : ∀ b o, hh.get? b = some o → (h1.push (kxs_mw initId x)).get? b = some o := fun b o e => Heap.get?_push_of_some _ (k1 b o e)
  have hu : (h1.push (kxs_mw initId x)).get? h1.objs.size = some (kxs_mw initId x) := Heap.get?_push_at rfl rfl
  refine kxs_callWith (i := initId) (x := x) rfl ?_
  refine evalArgs_plain (spliced_cons (Calls.Constant_str (k := 0) (pos := p3) (spliced_nil ⟨hu, ?_⟩)))
  refine run_bound FB (X.keeps k2) q (k2 _ _ hx) hu (by rw [sizeLine_eq]; exact (by decide : 1 ≤ 16777216)) fun h' t1 k sz e => ?_
  have sz1 : hh.objs.size ≤ h1.objs.size := Nat.le_of_lt (Heap.lt_size e1)
  have sz2 : h1.objs.size ≤ (h1.push (kxs_mw initId x)).objs.size := Nat.le_of_lt (Heap.lt_size hu)
  exact hq h' _ t1 (fun b o hb ho => k b o hb (k2 b o ho)) (Nat.le_trans sz1 (Nat.le_trans sz2 sz)) e
inductive Flds : List Stmt → List Str → Prop
  | nil : Flds [] []
  | cons {f : Str} {q1 q2 q3 q4 : Pos} {r : List Stmt} {fs : List Str} : Flds r fs → Flds (fldS f q1 q2 q3 q4 :: r) (f :: fs)
/-- the exception at x, with these fields so far -/
def Held (h : Heap) (lo : Nat) (x C : Addr) : List (Str × Value) → Prop
  | [] => ∃ t1, h.get? x = some (exI C t1 none)
  | m => ∃ t1 dx, lo ≤ dx ∧ dx ≠ x ∧ h.get? x = some (exI C t1 (some dx)) ∧ h.Ns1 dx (fun y => m.lookup y)
theorem look_put (f y : Str) (v : Value) (m : List (Str × Value)) : ((f, v) :: m).lookup y = if y = f then some v else m.lookup y := by
  by_cases h : y = f
  · subst h
    simp [List.lookup]
  · have e : (y == f) = false := by simpa using h
    rw [if_neg h]
    simp [List.lookup, e]
theorem look_in : ∀ (m : List (Str × Value)), Within (fun y => m.lookup y) (m.map (·.1))
  | [], y, h => absurd rfl h
  | (f, v) :: m, y, h => by
    have h' : ((f, v) :: m).lookup y ≠ none := h
    rw [look_put] at h'
    by_cases e : y = f
    · rw [e]
      exact List.mem_cons_self
    · rw [if_neg e] at h'
      exact List.mem_cons_of_mem _ (look_in m y h')
theorem run_flds {L fI : Addr} {cdv : Value} {cc : Addr} {h0 : Heap} {nms : List (Str × NameKind)} {g1 g2 : Bool} {mo : List (Str × Const)} {qual : Str} {m : Str → Option Value} {Q : Flow → Shared → Prop}
    (SF : StoreFacts B bmB "object.__setattr__" "object") (X : K.In h0) (hnx : K.lookup x = none) (hL : h0.Ns L m) (hLx : L ≠ x) (hself : m "self" = some (.ref x)) (hka : nms.lookup ("self" : Str) = some .local)
    (hcd : clsIn K C = some cd) (hh : cd.hasDict = true) (ov : excOver K C bmB = true) (sa : findIn K (.ref C) "__setattr__" = some (some (.builtin "object.__setattr__"))) :
    ∀ {rest : List Stmt} {fs : List Str}, Flds rest fs → ∀ (acc : List (Str × Value)) (us : List Value) (s : Shared), (∀ b o, b ≠ x → h0.get? b = some o → s.heap.get? b = some o) → h0.objs.size ≤ s.heap.objs.size → Held s.heap h0.objs.size x C acc →
      (∀ p ∈ fs.zip us, m p.1 = some p.2) → us.length = fs.length → acc.length + fs.length ≤ 900 → (∀ f ∈ fs, nms.lookup f = some .local ∧ findIn K (.ref C) f = some none ∧ (f == ("__debug__" : Str)) = false) →
      (∀ h' tk, (∀ b o, b ≠ x → h0.get? b = some o → h'.get? b = some o) → h0.objs.size ≤ h'.objs.size → Held h' h0.objs.size x C ((fs.zip us).reverse ++ acc) → Q .next { s with heap := h', toks := tk }) →
      wpAny (model prog w) A (execs rest (ksEnv qual ⟨.function, nms, g1, g2, mo⟩ L fI cdv cc)) Q E s := by
  intro rest fs hF
  induction hF with
  | nil =>
    intro acc us s k sz hd _ hl _ _ hq
    obtain rfl : us = [] := List.eq_nil_of_length_eq_zero hl
    exact wpAny_execs_nil (hq s.heap s.toks k sz hd)
  | @cons f q1 q2 q3 q4 r fs hr ih =>
    intro acc us s k sz hd hv hl hz hf hq
    obtain ⟨u, us, rfl⟩ : ∃ u us', us = u :: us' := by
      cases us with
      | nil => simp at hl
      | cons u us => exact ⟨u, us, rfl⟩
    obtain ⟨f1, f2, f3⟩ := hf f List.mem_cons_self
    have eu : m f = some u := hv (f, u) List.mem_cons_self
    have XK : K.In s.heap := fun a o e => k a o (fun z => by rw [z, hnx] at e; cases e) (X a o e)
    have nsL : s.heap.Ns L m := by
      obtain ⟨oL, es, ep, eL, r⟩ := hL
      exact ⟨oL, es, ep, k _ _ hLx eL, r⟩
    refine wpAny_execs_cons (plainObj_wpAny_Assign_Attribute (wpAny_Name (wpAny_loadName_local rfl f1 nsL eu (wpAny_Name (wpAny_loadName_local rfl hka nsL hself ?_) (by decide))) f3))
    have fin : ∀ h' tk, (∀ b o, b ≠ x → h0.get? b = some o → h'.get? b = some o) → h0.objs.size ≤ h'.objs.size → Held h' h0.objs.size x C ((f, u) :: acc) →
        wpAny (model prog w) A (execs r (ksEnv qual ⟨.function, nms, g1, g2, mo⟩ L fI cdv cc)) Q E { s with heap := h', toks := tk } := fun h' tk k' sz' hd' => by
      refine ih ((f, u) :: acc) us { s with heap := h', toks := tk } k' sz' hd' (fun p hp => hv p (List.mem_cons_of_mem _ hp)) (by simpa using hl) (by simp at hz ⊢; omega) (fun g hg => hf g (List.mem_cons_of_mem _ hg)) fun h2 tk2 k2 sz2 hd2 => ?_
      refine hq h2 tk2 k2 sz2 ?_
      show Held h2 _ x C (((f, u) :: fs.zip us).reverse ++ acc)
      rw [List.reverse_cons, List.append_assoc]
      exact hd2
    have lt0 : ∀ {b : Addr} {o : Obj} {dx : Nat}, h0.get? b = some o → h0.objs.size ≤ dx → b ≠ dx := fun {b o dx} e z => Nat.ne_of_lt (Nat.lt_of_lt_of_le (Heap.lt_size e) z)
    cases acc with
    | nil =>
      obtain ⟨t1, hx⟩ := hd
      refine st_new SF XK hx hcd hh ov sa f2 fun h' tk dx kk dn dne szn hx' hn => fin h' tk (fun b o hb e => kk b o hb (k b o hb e)) (Nat.le_trans sz szn) ⟨t1, dx, Nat.le_trans sz dn, dne, hx', ?_⟩
      have e : (fun y => List.lookup y [(f, u)]) = fun y => if y = f then some u else none := by
        funext y
        exact look_put f y u []
      rw [e]
      exact hn
    | cons a acc =>
      obtain ⟨t1, dx, dn, dne, hx, hn⟩ := hd
      refine st_old SF XK hx hn (look_in (a :: acc)) (by simp at hz ⊢; omega) hcd hh ov sa f2 fun h' tk kk szn hn' => fin h' tk (fun b o hb e => kk b o (lt0 e dn) (k b o hb e)) (Nat.le_trans sz szn) ⟨t1, dx, dn, dne, kk x _ dne.symm hx, ?_⟩
      have e : (fun y => List.lookup y ((f, u) :: a :: acc)) = fun y => if y = f then some u else List.lookup y (a :: acc) := by
        funext y
        exact look_put f y u _
      rw [e]
      exact hn'
end
/-- the written text of such an __init__ -/
structure Txt (st : Stmt) (fs : List Str) : Prop where
  ne : fs ≠ []
  few : fs.length ≤ 900
  kind : (defScope st).kind = .function
  co : (defScope st).isCoroutine = false
  gen : (defScope st).isGenerator = false
  nocell : ∀ x ∈ (defScope st).names, x.2 ≠ .cell
  ls : (defScope st).names.lookup ("super" : Str) = some .globalImplicit
  lc : (defScope st).names.lookup ("__class__" : Str) = some .free
  lself : (defScope st).names.lookup ("self" : Str) = some .local
  lf : ∀ f ∈ fs, (defScope st).names.lookup f = some .local ∧ (f == ("__debug__" : Str)) = false ∧ f ≠ "self"
  nd : fs.Nodup
  ar : ∃ a : Arg, ((defArgs st).posonlyargs ++ (defArgs st).args).head? = some a ∧ a.arg = "self"
  bd : ∀ (qual : Str) (doc pm cdv ct : Value) (an : Option Addr) (cc : Addr) (u : Value) (vs : List Value), vs.length = fs.length →
    bindArgs (ksFn "__init__" qual (defArgs st) (defBody st) (defScope st) .none .none doc pm an cdv ct cc) ⟨u :: vs, []⟩ = pure ((("self" : Str), u) :: fs.zip vs)
  body : ∃ tx p0 p1 p2 p3 p4 p5 rest, defBody st = supS tx p0 p1 p2 p3 p4 p5 :: rest ∧ OneRow tx p0 p1 p2 p3 p4 ∧ Flds rest fs
/-- what the top leaves of such a class -/
structure Cx' (P : Program) (K : Frag) (mg : Str → Option Value) (nm : Str) (st : Stmt) (fs : List Str) (B newId initId : String) (bmB : List Value) (C : Addr) : Prop where
  gC : mg nm = some (.ref C)
  ini : excInitIn K C bmB newId = true
  over : excOver K C bmB = true
  hd : hasDictIn K C = true
  sa : findIn K (.ref C) "__setattr__" = some (some (.builtin "object.__setattr__"))
  ga : findIn K (.ref C) "__getattribute__" = some (some (.builtin "BaseException.__getattribute__"))
  gg : findIn K (.ref C) "__getattr__" = some none
  noF : ∀ f ∈ fs, findIn K (.ref C) f = some none
  kC : keepIn K (.ref C) = true
  exC : subIn K (.ref C) (.type "BaseException") = some true
  tyC : typeIn K (.ref C) = some (.type "type")
  hB : subIn K (.ref C) (.type B) = some true
  hsub : mroIn K C (.ref C) = some true
  opq : nsIn K cStatics "thirdparty.any" = some none
  sup : ks_superIn K C C "__init__" = some (some (.builtin initId))
  mgs : mg "super" = none
  top : (P.main.scope.names.lookup ("super" : Str)).isSome = false
  fn : ∃ (fI : Addr) (oc : Value) (od : Option Addr) (qual : Str) (doc pm : Value) (an : Option Addr) (cda : Addr) (ct : Value) (cc : Addr) (osl : Array (Option Value)), findIn K (.ref C) "__init__" = some (some (.ref fI)) ∧ typeIn K (.ref fI) = some (.type "function") ∧
    K.lookup fI = some ⟨oc, od, .func (ksFn "__init__" qual (defArgs st) (defBody st) (defScope st) .none .none doc pm an (.ref cda) ct cc), osl⟩ ∧ codeIn K (.ref cda) qual = true ∧
    (∃ (cl : Value) (cld : Option Addr) (csl : Array (Option Value)), K.lookup cc = some ⟨cl, cld, .cell (some (.ref C)), csl⟩) ∧
    ∃ (ccl : Value) (cdd : Option Addr) (vs : Array Value) (ccs : Array (Option Value)) (file : Str) (tf : Tok), K.lookup cda = some ⟨ccl, cdd, .fields vs, ccs⟩ ∧ vs[2]? = some (.str file tf) ∧ ((P.main.file : Str) == file) = true
structure Base (B newId initId : String) (bmB : List Value) : Prop where
  FB : ExcBaseFacts B newId initId bmB
  KF : KxsFacts B initId
  SF : StoreFacts B bmB "object.__setattr__" "object"
theorem base_Lookup : Base "LookupError" "LookupError.__new__" "LookupError.__init__" [.type "LookupError", .type "Exception", .type "BaseException", .type "object"] := ⟨F.excBase_LookupError, kxs_LookupError, F.store_LookupError⟩
theorem base_Runtime : Base "RuntimeError" "RuntimeError.__new__" "RuntimeError.__init__" [.type "RuntimeError", .type "Exception", .type "BaseException", .type "object"] := ⟨F.excBase_RuntimeError, kxs_RuntimeError, F.store_RuntimeError⟩
theorem base_Arith : Base "ArithmeticError" "ArithmeticError.__new__" "ArithmeticError.__init__" [.type "ArithmeticError", .type "Exception", .type "BaseException", .type "object"] := ⟨F.excBase_ArithmeticError, kxs_ArithmeticError, F.store_ArithmeticError⟩
theorem base_Value : Base "ValueError" "ValueError.__new__" "ValueError.__init__" [.type "ValueError", .type "Exception", .type "BaseException", .type "object"] := ⟨F.excBase_ValueError, kxs_ValueError, F.store_ValueError⟩
theorem zip_look {β : Type} : ∀ {fs : List Str} {us : List β} (p : Str × β), fs.Nodup → p ∈ fs.zip us → (fs.zip us).reverse.lookup p.1 = some p.2
  | [], _, p, _, h => by simp at h
  | _ :: _, [], p, _, h => by simp at h
  | f :: fs, u :: us, p, nd, h => by
    rw [List.zip_cons_cons, List.reverse_cons, List.lookup_append]
    obtain ⟨n1, n2⟩ := List.nodup_cons.mp nd
    rcases List.mem_cons.mp h with rfl | h
    · have e : List.lookup f (fs.zip us).reverse = none := by
        rw [List.lookup_eq_none_iff]
        intro q hq
        have := (List.of_mem_zip (List.mem_reverse.mp hq)).1
        have hne : q.1 ≠ f := fun z => n1 (by rw [← z]; exact this)
        exact by simpa using Ne.symm hne
      rw [e]
      simp [List.lookup]
    · rw [zip_look p n2 h]
      rfl
section
variable {P : Program} {w : World} {A : Around} {R : Result → Shared → Prop} {K : Frag} {mg mb : Str → Option Value} {nm : Str} {st : Stmt} {fs : List Str} {B newId initId : String} {bmB : List Value} {C : Addr} {s : Shared}
theorem run_init {x t0 : Addr} {us : List Value} (T : Cx' P K mg nm st fs B newId initId bmB C) (TT : Txt st fs) (BB : Base B newId initId bmB) {fI : Addr} (iC : findIn K (.ref C) "__init__" = some (some (.ref fI)))
    (X : K.In s.heap) (hg : s.heap.Ns mainGlobals mg) (hb : s.heap.Ns builtinsNs mb) (hbs : mb "super" = some (.type "super")) (hlim : s.heap.NoLimit) (hx : s.heap.get? x = some (exI C t0 none)) (hnx : K.lookup x = none)
    (hroom : A.depth < recursionLimit) (hl : us.length = fs.length)
    (hq : ∀ h' tk t1 dx, (∀ b o, b ≠ x → s.heap.get? b = some o → h'.get? b = some o) → s.heap.objs.size ≤ dx → dx ≠ x → h'.get? x = some (exI C t1 (some dx)) → h'.Ns1 dx (fun y => (fs.zip us).reverse.lookup y) → R (.ok (.ret .none)) { s with heap := h', toks := tk }) :
    codeAny (model P w) A (.call (.ref fI) ⟨.ref x :: us, []⟩) R s := by
  obtain ⟨fI', oc, od, qual, doc, pm, an, cda, ct, cc, osl, i1, i2, i3, i4, ⟨cl, cld, csl, i5⟩, ccl, cdd, vs, ccs, file, tf, i6, i7, i8⟩ := T.fn
  have e := i1.symm.trans iC
  cases e
  obtain ⟨tx, p0, p1, p2, p3, p4, p5, rest, eb, row, hF⟩ := TT.body
  obtain ⟨ar, a1, a2⟩ := TT.ar
  obtain ⟨cd, hcd, hh⟩ : ∃ cd, clsIn K C = some cd ∧ cd.hasDict = true := by
    have z := T.hd
    unfold hasDictIn at z
    cases c : clsIn K C with
    | none => rw [c] at z; cases z
    | some cd => exact ⟨cd, rfl, by rw [c] at z; exact z⟩
  have hsup : alongIn K "__init__" ((cd.mro.dropWhile (· != .ref C)).drop 1) = some (some (.builtin initId)) := by
    have z := T.sup
    unfold ks_superIn at z
    rw [hcd] at z
    exact z
  have kd := TT.kind
  have loc : ∀ y ∈ ((("self" : Str), Value.ref x) :: fs.zip us), (defScope st).names.lookup y.1 = some .local := fun y hy => by
    rcases List.mem_cons.mp hy with rfl | hy
    · exact TT.lself
    · exact (TT.lf _ (List.of_mem_zip hy).1).1
  refine ks_codeAny_call_defAt (fd := ksFn "__init__" qual (defArgs st) (defBody st) (defScope st) .none .none doc pm an (.ref cda) ct cc) (body := defBody st) (binds := (("self" : Str), .ref x) :: fs.zip us) hroom (X _ _ i3) rfl hlim
    (codeRec_of X i4) rfl (BindsTo.of_eq (TT.bd _ _ _ _ _ _ _ _ _ hl)) TT.nocell loc (fun h0 hns k => ?_) TT.co TT.gen TT.kind
  have X0 : K.In h0 := X.keeps k
  have Lx : s.heap.objs.size ≠ x := Nat.ne_of_gt (Heap.lt_size hx)
  have hm0 : ((("self" : Str), Value.ref x) :: fs.zip us).reverse.lookup ("self" : Str) = some (Value.ref x) := by
    rw [List.reverse_cons, List.lookup_append]
    have e : List.lookup ("self" : Str) (fs.zip us).reverse = none := by
      rw [List.lookup_eq_none_iff]
      intro q hq
      have := (TT.lf _ (List.of_mem_zip (List.mem_reverse.mp hq)).1).2.2
      exact by simpa using Ne.symm this
    rw [e]
    rfl
  have hmf : ∀ p ∈ fs.zip us, ((("self" : Str), Value.ref x) :: fs.zip us).reverse.lookup p.1 = some p.2 := fun p hp => by
    rw [List.reverse_cons, List.lookup_append, zip_look p TT.nd hp]
    rfl
  have hlf := TT.lf
  have hls := TT.ls
  have hlc := TT.lc
  have hlself := TT.lself
  have eE : callEnv (ksFn "__init__" qual (defArgs st) (defBody st) (defScope st) .none .none doc pm an (.ref cda) ct cc) s.heap.objs.size fI = ksEnv qual (defScope st) s.heap.objs.size fI (.ref cda) cc := rfl
  rw [eE]
  generalize hsc : defScope st = sc at i3 kd hlf hls hlc hlself
  obtain ⟨kk, nms, g1, g2, mo⟩ := sc
  dsimp only at kd hlf hls hlc hlself
  subst kd
  have szL : s.heap.objs.size < h0.objs.size := hns.lt
  rw [eb]
  refine ks_wpAt_execs_cons (ex_super (s := { s with heap := h0, toks := _ }) (fd := ksFn "__init__" qual (defArgs st) (defBody st) ⟨.function, nms, g1, g2, mo⟩ .none .none doc pm an (.ref cda) ct cc) row BB.FB BB.KF X0 T.ini hcd (hg.keeps k) T.mgs (hb.keeps k) hbs hns hm0 (k _ _ hx) i3 a1 a2 i6 i7 i8 T.top i5 T.hsub T.opq hsup T.hB rfl hls hlc hlself
    fun h1 tk t1 k1 sz1 e1 => ?_)
  refine wpAt_of_wpAny (run_flds (h0 := h0) BB.SF X0 hnx hns Lx hm0 hlself hcd hh T.over T.sa hF [] us { s with heap := h1, toks := tk } k1 sz1 ⟨t1, e1⟩ hmf hl (by have := TT.few; simpa using this) (fun f hf => ⟨(hlf f hf).1, T.noF f hf, (hlf f hf).2.1⟩) fun h2 tk2 k2 sz2 hd2 => ?_)
  rw [List.append_nil] at hd2
  have nn : (fs.zip us).reverse ≠ [] := by
    have := TT.ne
    cases fs with
    | nil => exact absurd rfl this
    | cons f fs =>
      cases us with
      | nil => simp at hl
      | cons u us => simp
  cases er : (fs.zip us).reverse with
  | nil => exact absurd er nn
  | cons a m =>
    rw [er] at hd2
    obtain ⟨t2, dx, dn, dne, hx2, hn2⟩ := hd2
    rw [er] at hq
    exact hq h2 tk2 t2 dx (fun b o hb e => k2 b o hb (k b o e)) (Nat.le_of_lt (Nat.lt_of_lt_of_le szL dn)) dne hx2 hn2
end
end EX
end Rc

namespace Rc
namespace EX
open PySem PySem.W PySem.Calls PyProof.Rows PySem.HandSPX
open L2 (defScope defBody defArgs)
section
variable {P : Program} {w : World} {A : Around} {R : Result → Shared → Prop} {K : Frag} {mg mb : Str → Option Value} {nm : Str} {st : Stmt} {fs : List Str} {B newId initId : String} {bmB : List Value} {C : Addr} {s : Shared}
/-- a new exception of the class, from its place e -/
structure Made (h h' : Heap) (e C d : Addr) (m : List (Str × Value)) : Prop where
  keep : ∀ b o, h.get? b = some o → h'.get? b = some o
  new : h.objs.size ≤ e
  obj : ∃ t1, h'.get? e = some (exI C t1 (some d))
  dbig : h.objs.size ≤ d
  dne : d ≠ e
  ns : h'.Ns1 d (fun y => m.lookup y)
theorem made {us : List Value} (T : Cx' P K mg nm st fs B newId initId bmB C) (TT : Txt st fs) (BB : Base B newId initId bmB)
    (X : K.In s.heap) (hg : s.heap.Ns mainGlobals mg) (hb : s.heap.Ns builtinsNs mb) (hbs : mb "super" = some (.type "super")) (hlim : s.heap.NoLimit)
    (hroom : A.depth + 1 < recursionLimit) (hl : us.length = fs.length)
    (hq : ∀ h' tk e d, Made s.heap h' e C d (fs.zip us).reverse → R (.ok (.ret (.ref e))) { s with heap := h', toks := tk }) :
    codeAny (model P w) A (.call (.ref C) ⟨us, []⟩) R s := by
  obtain ⟨nm', N', qn, bs, bm, hdct, sn, sub, ab, col, dd, k0, k1, k2, k3, k5, hC, hT⟩ := excInit_of X T.ini
  obtain ⟨fI, oc, od, qual, doc, pm, an, cda, ct, cc, osl, i1, i2, _⟩ := T.fn
  obtain ⟨hp, g, dr, tk, os⟩ := s
  have kp : ∀ b o, hp.get? b = some o → ((hp.push (kdv_tup us)).push (excO C hp.objs.size)).get? b = some o := fun b o e => Heap.get?_push_of_some _ (Heap.get?_push_of_some _ e)
  have hget : ((hp.push (kdv_tup us)).push (excO C hp.objs.size)).get? (hp.objs.size + 1) = some (exI C hp.objs.size none) := by heap_get
  have hnx : K.lookup (hp.objs.size + 1) = none := by
    cases e : K.lookup (hp.objs.size + 1) with
    | none => rfl
    | some o => exact absurd (Nat.lt_of_succ_lt (Heap.lt_size (X _ _ e))) (Nat.lt_irrefl _)
  have hfew : us.length ≤ sizeLine := by
    have := TT.few
    rw [hl, sizeLine_eq]
    omega
  refine call_own BB.FB hT hC (looks_findIn X i1) (fun self => bind_fn X self i2) hfew ?_
  refine run_init (s := ⟨(hp.push (kdv_tup us)).push (excO C hp.objs.size), g, dr, tk, os⟩) T TT BB i1 (X.keeps kp) (hg.keeps kp) (hb.keeps kp) hbs (hlim.keeps kp) hget hnx ?_ hl fun h' tk' t1 dx k' dn dne hx hns => ?_
  · show A.depth + 1 < recursionLimit
    exact hroom
  · have sz : hp.objs.size + 1 + 1 ≤ dx := by
      have q := dn
      simp only [Heap.size_push] at q
      exact q
    exact ⟨rfl, hq h' tk' (hp.objs.size + 1) dx ⟨fun b o e => k' b o (Nat.ne_of_lt (Nat.lt_succ_of_lt (Heap.lt_size e))) (kp b o e), Nat.le_succ _, ⟨_, hx⟩, (show hp.objs.size ≤ dx by omega), dne, hns⟩⟩
end
end EX
open PySem PySem.Spec PyProof.Rows L2
theorem look_rel : ∀ {fs : List Str} {vs : List V} {us : List Value}, Vals vs us → ∀ f : Str, RelO ((fs.zip vs).reverse.lookup f) ((fs.zip us).reverse.lookup f)
  | [], _, _, _, f => trivial
  | _ :: _, _, _, .nil, f => trivial
  | g :: fs, v :: vs, u :: us, .cons r rs, f => by
    rw [List.zip_cons_cons, List.zip_cons_cons, List.reverse_cons, List.reverse_cons, List.lookup_append, List.lookup_append]
    have ih := look_rel (fs := fs) rs f
    cases e1 : (fs.zip vs).reverse.lookup f with
    | some a =>
      cases e2 : (fs.zip us).reverse.lookup f with
      | some b => rw [e1, e2] at ih; exact ih
      | none => rw [e1, e2] at ih; exact ih.elim
    | none =>
      cases e2 : (fs.zip us).reverse.lookup f with
      | some b => rw [e1, e2] at ih; exact ih.elim
      | none =>
        show RelO (List.lookup f [(g, v)]) (List.lookup f [(g, u)])
        by_cases h : f = g
        · subst h
          simp [List.lookup]
          exact r
        · have hb : (f == g) = false := by simpa using h
          simp [List.lookup, hb]
          trivial
section
variable {X : Cx} {nm : Str} {st : Stmt} {fs : List Str} {B newId initId : String} {bmB : List Value} {C : Addr}
/-- C(e, ..) -/
def tMkE (C : Addr) (fs : List Str) (ta : TA) : L2.St → Hp → XK → Prop := fun σ H Q => ta σ H fun vs H1 => vs.length = fs.length ∧ ∀ d, H1 d = none → Q (.ref C) (some d) (upd H1 d (.xd (fs.zip vs).reverse))
theorem pmk_ex {e : Expr} {es : List Expr} {ta : TA} {p pos : Pos} {k : Nat} (T : EX.Cx' X.prog X.K X.mg nm st fs B newId initId bmB C) (TT : EX.Txt st fs) (BB : EX.Base B newId initId bmB) (hr : Room (k + 1) X.A) (ha : PA X (e :: es) ta) (hg : Gl X nm)
    (hdb : (nm == ("__debug__" : Str)) = false := by decide) (he : starEach (e :: es) X.env = (false, eval e X.env) :: starEach es X.env := by rfl) (hpl : (backTo pos (starEach es X.env)).any (·.1) = false := by rfl) :
    PMk X (.Call (.Name nm p) (e :: es) [] pos) (tMkE C fs ta) := by
  intro pins s σ H Q I h
  refine wpAny_Call_Name_kw (ld_glob I hg T.gC ?_ hdb)
  refine PySem.W.callWith_K (h₀ := X.base) I.ok.mod.kin T.kC (thn (ha.run pos pins s σ H _ I h) fun us s1 hh => ?_) he hpl
  obtain ⟨vs, H1, I1, r1, hl, q1⟩ := hh
  refine ⟨I1.kIn, ?_⟩
  show wpAny _ _ (call (.ref C) us) _ _ _
  obtain ⟨mb, b1, b2⟩ := I1.ok.mod.blt
  have hlim := I1.nolimit
  have kb := I1.bk
  obtain ⟨hp, g, dr, tk, os⟩ := s1
  refine wpAny_call (EX.made T TT BB I1.kIn (I1.ok.mod.glob.keeps kb) (b1.keeps kb) ((b2 _ (by decide)).trans (by decide +kernel : bootBuiltins "super" = some (.type "super"))) hlim (by have := hr.dp; omega) (r1.length.symm.trans hl) fun h' tk' a d M => ?_)
  show MkP X pins σ Q (.ref a) ⟨h', g, dr, tk', os⟩
  obtain ⟨t1, hoe⟩ := M.obj
  obtain ⟨G, g1, g2⟩ := restrict h' fun b => decide (b ≠ a)
  have gk : ∀ b, b ≠ a → G.get? b = h'.get? b := fun b hb => g1 b (decide_eq_true hb)
  have ge : G.get? a = none := g2 a (by simp)
  have old : ∀ b o, hp.get? b = some o → G.get? b = some o := fun b o q => (gk b (Nat.ne_of_lt (Nat.lt_of_lt_of_le (Heap.lt_size q) M.new))).trans (M.keep b o q)
  have ob : ObjOk X.prog X.w (upd H1 d (.xd (fs.zip vs).reverse)) G d (.xd (fs.zip vs).reverse) := ⟨_, M.ns.at (fun o q => (gk d M.dne).trans q), look_rel r1⟩
  have J : Inv X pins σ (upd H1 d (.xd (fs.zip vs).reverse)) ⟨G, g, dr, tk', os⟩ := I1.laid (t' := tk') old M.dbig ob
  refine ⟨a, _, _, ⟨G, g, dr, tk', os⟩, _, .ref C, some d, rfl, J, fun b o q => ?_, ge, hoe, ⟨rfl, rfl⟩, rfl, rfl, ?_, rfl, I1.bare, raises_own T.exC T.tyC, q1 d (I1.hok.fresh M.dbig)⟩
  · by_cases hb : b = a
    · have q' : G.get? b = some o := q
      rw [hb, ge] at q'
      cases q'
    · exact (gk b hb).symm.trans q
  · rw [upd_ne (Ne.symm M.dne)]
    exact I1.hok.fresh M.new
end
end Rc

namespace Rc
open PySem PySem.Spec PyProof.Rows L2
/-! ### several except clauses, with names or without -/
abbrev Suite := Addr → Value → Option Addr → TS
/-- behind a suite its name has gone -/
abbrev offD (i : Nat) (D : Ends) : Ends := { nx := fun τ G => D.nx (τ.set i none) G, rt := D.rt, bk := fun τ G => D.bk (τ.set i none) G, ct := fun τ G => D.ct (τ.set i none) G }
def wMix (K : PySem.W.Frag) (Wo : WX) (D : Ends) : List (Value × Option Nat × Suite) → WX
  | [] => Wo
  | (c, none, ts) :: r => fun cls d σ H => ∃ y, PySem.W.exmOne K cls c = some y ∧ (y = true → ∀ a, H a = none → ts a cls d D σ H) ∧ (y = false → wMix K Wo D r cls d σ H)
  | (c, some i, ts) :: r => fun cls d σ H => ∃ y, PySem.W.exmOne K cls c = some y ∧ (y = true → ∀ a, H a = none → ts a cls d (offD i D) (σ.set i (some (.ref a))) H) ∧ (y = false → wMix K Wo D r cls d σ H)
abbrev SuiteOk (X : Cx) (ss : List Stmt) (ts : Suite) : Prop := ∀ (a : Addr) (oe : Obj) (cls : Value) (d : Option Addr) (pn : List (Addr × Obj)), Zc cls d oe → (∃ vs, oe.data = .fields vs) → PSs (X.suite a ((a, oe) :: pn)) ss (ts a cls d)
inductive HdsX (X : Cx) : List ExceptHandler → List (Value × Option Nat × Suite) → Prop
  | nil : HdsX X [] []
  | plain {x : Str} {c : Value} {ts : Suite} {s0 : Stmt} {ss : List Stmt} {p1 p2 : Pos} {hs : List ExceptHandler} {l : List (Value × Option Nat × Suite)} (hc : Names X x c) (ok : SuiteOk X (s0 :: ss) ts) (r : HdsX X hs l) :
      HdsX X (.ExceptHandler (some (.Name x p1)) none (s0 :: ss) p2 :: hs) ((c, none, ts) :: l)
  | named {x n : Str} {i : Nat} {c : Value} {ts : Suite} {s0 : Stmt} {ss : List Stmt} {p1 p2 : Pos} {hs : List ExceptHandler} {l : List (Value × Option Nat × Suite)} (hi : X.N[i]? = some n) (hn : X.env.kindOf n = some .local) (hc : Names X x c) (ok : SuiteOk X (s0 :: ss) ts) (r : HdsX X hs l) :
      HdsX X (.ExceptHandler (some (.Name x p1)) (some n) (s0 :: ss) p2 :: hs) ((c, some i, ts) :: l)
section
variable {X : Cx} {body : List Stmt} {hd : ExceptHandler} {hds : List ExceptHandler} {l : List (Value × Option Nat × Suite)} {pos : Pos} {tb : WX → TS} {Wo : WX}
theorem ps_try_mix (est : X.stack = X.env :: X.outer) (efr : X.env.frame = some X.env.locals) (nd : X.N.Nodup) (tk : Takes X Wo)
    (hb : ∀ (W : WX) (pn : List (Addr × Obj)) (xe : Value → Shared → Prop), Takes (X.tr pn xe) W → PassesOwn (model X.prog X.w) X.A X.env xe → PSs (X.tr pn xe) body (tb W))
    (hh : HdsX X (hd :: hds) l) : PS X (.Try body (hd :: hds) [] [] pos) (fun D σ H => tb (wMix X.K Wo D l) D σ H) := by
  refine ⟨fun pins s σ H D I hw => ?_⟩
  have ok := I.ok
  have frs1 : X.A.frames = some (X.env :: X.outer) := ok.frames.trans (congrArg some est)
  refine wpAny_Try_except (wpAny_mono ((hb (wMix X.K Wo D l) (X.pn ++ pins) (fun u s1 => wpAny (model X.prog X.w) X.A (noteFrame u X.env) (fun _ s2 => wpAny (model X.prog X.w) X.A (setFlight u none) (fun _ s3 =>
    wpAny (model X.prog X.w) X.A (handleBy u X.env (hd :: hds)) (SP X pins D) X.xe s3) X.xe s2) X.xe s1) (fun u s' z => ?_) PassesOwn.looking).run [] s σ H D (I.toTry _) hw) (fun fl s1 z => ?_) (fun _ _ z => z))
  · obtain ⟨a, Bs, sI, pins', τ, G, cls, d, rfl, J', nb, up, sky, na, os, ag, ww⟩ := z
    have J : Inv X pins τ G sI := J'.ofTry ok
    have sky1 : Sky Bs (X.env :: X.outer) a (Zc cls d) X.env.locals s'.heap := est ▸ sky
    show wpAny (model X.prog X.w) X.A (noteFrame (.ref a) X.env) _ _ _
    refine Sky.land Zc.steady frs1 efr sky1 fun h3 fl3 up3 => ?_
    have J3 : Inv X pins τ G { s' with heap := h3 } := J.landed nb fl3.1 (up.trans up3) os ag
    obtain ⟨o3, v3, e3, z3, d3⟩ := fl3.there
    have nfr : a ∉ frs (X.env :: X.outer) := fun hm => by
      obtain ⟨_, o', e', no'⟩ := fl3.2.2.1.mem hm
      rw [e3] at e'
      cases e'
      exact no' _ d3
    have nL : a ≠ X.env.locals := fun y => nfr (List.mem_filterMap.mpr ⟨X.env, List.mem_cons_self, by rw [efr, y]⟩)
    have nF : a ∉ X.fs := fun hm => by
      obtain ⟨e, he, q⟩ := List.mem_filterMap.mp hm
      exact nfr (List.mem_filterMap.mpr ⟨e, .tail _ he, q⟩)
    have S3 := J3.suite e3 d3 na nL nF
    have LT : PySem.W.Looks (model X.prog X.w) h3 (typeOf (.ref a)) cls := fun A Q E s k q => wpAny_typeOf_ref (k _ _ e3) (by rw [z3.1]; exact q)
    have look : ∀ {x : Str} {c : Value} {np : Pos} {Q : Value → Shared → Prop} {E : Value → Shared → Prop}, Names X x c → Q c { s' with heap := h3 } → wpAny (model X.prog X.w) (X.A.mark (some (.ref a))) (eval (.Name x np) X.env) Q E { s' with heap := h3 } := fun {x c np Q E} hc q => by
      obtain ⟨hg, hdb, hm | ⟨hm, hv, hnn⟩⟩ := hc
      · exact ld_glob (X := X.suite a ((a, o3) :: (X.pn ++ pins))) S3 hg hm q hdb
      · exact ld_blt (X := X.suite a ((a, o3) :: (X.pn ++ pins))) S3 hg hm hv q hnn hdb
    have go : ∀ {hs' : List ExceptHandler} {l' : List (Value × Option Nat × Suite)}, HdsX X hs' l' → wMix X.K Wo D l' cls d τ G → wpAny (model X.prog X.w) X.A (handleBy (.ref a) X.env hs') (SP X pins D) X.xe { s' with heap := h3 } := by
      intro hs' l' hk
      induction hk with
      | nil =>
        intro wo
        refine wpAny_handleBy_nil ?_
        obtain ⟨k1, k2, k3, oe, vs, TB, oT, ts', he, hz, hdd, h1, hr⟩ := id fl3
        unfold PySem.passOn
        refine wpAny_bind (wpAny_field he hdd h1 ?_)
        rw [if_neg (show ¬ ((Value.ref TB == Value.none) = true) from by simp)]
        have last : wpAny (model X.prog X.w) X.A (setFlight (.ref a) X.env.frame) (fun _ s4 => wpAny (model X.prog X.w) X.A (throw (.ref a) : Sem Flow) (SP X pins D) X.xe s4) X.xe { s' with heap := h3 } := by
          rw [efr]
          refine HandSPX.setFlight_upZ fl3 fun h4 hh4 up4 => wpAny_throw (tk _ _ ⟨a, Bs, sI, pins, τ, G, cls, d, rfl, J, nb, (up.trans up3).trans up4, .inr (.inr (by rw [est]; exact hh4)), na, os, ag, wo⟩)
        first
          | exact wpAny_bind (wpAny_pure (wpAny_bind last))
          | exact wpAny_bind last
      | @plain x c ts s0 ss p1 p2 hs2 l2 hc sok r ih =>
        intro ⟨y, hy, yes, no⟩
        refine wpAny_handleBy_cons (codeAny_handlers_test ?_) (by intro q; cases q)
        refine look hc ((PySem.W.exm_one (M := model X.prog X.w) J3.kIn LT hy).here ?_)
        cases y with
        | false =>
          show wpAny _ X.A (handleBy (.ref a) X.env hs2) _ _ _
          exact ih (no rfl)
        | true =>
          refine codeAny_handlers_suite (HandSPX.lands_againZ fl3 fun h4 fl4 up4 => ?_)
          have J4 : Inv X pins τ G { s' with heap := h4 } := J.landed nb fl4.1 ((up.trans up3).trans up4) os ag
          obtain ⟨o4, v4, e4, z4, d4⟩ := fl4.there
          refine wpAny_mono ((sok a o4 cls d (X.pn ++ pins) z4 ⟨_, d4⟩).run [] _ _ G _ (J4.suite e4 d4 na nL nF) (yes rfl a na)) (fun fl s6 z6 => ?_) (fun _ _ z => False.elim z)
          cases fl with
          | next => exact let ⟨_, _, S6, q6⟩ := z6; ⟨_, _, S6.unsuite ok, q6⟩
          | brk => exact let ⟨_, _, S6, q6⟩ := z6; ⟨_, _, S6.unsuite ok, q6⟩
          | cont => exact let ⟨_, _, S6, q6⟩ := z6; ⟨_, _, S6.unsuite ok, q6⟩
          | ret u => exact let ⟨_, _, _, S6, r6, q6⟩ := z6; ⟨_, _, _, S6.unsuite ok, r6, q6⟩
      | @named x n i c ts s0 ss p1 p2 hs2 l2 hi hn hc sok r ih =>
        intro ⟨y, hy, yes, no⟩
        refine wpAny_handleBy_cons (codeAny_handlers_test ?_) (by intro q; cases q)
        refine look hc ((PySem.W.exm_one (M := model X.prog X.w) J3.kIn LT hy).here ?_)
        cases y with
        | false =>
          show wpAny _ X.A (handleBy (.ref a) X.env hs2) _ _ _
          exact ih (no rfl)
        | true =>
          refine codeAny_handlers_suite_as (HandSPX.lands_againZ fl3 fun h4 fl4 up4 => ?_)
          have J4 : Inv X pins τ G { s' with heap := h4 } := J.landed nb fl4.1 ((up.trans up3).trans up4) os ag
          obtain ⟨o4, v4, e4, z4, d4⟩ := fl4.there
          refine store_ok (X := X.suite a ((a, o4) :: (X.pn ++ pins))) (v := .ref a) (J4.suite e4 d4 na nL nF) nd hi (.inl hn) rfl (fun s5 S5 => ?_) (.inr hn)
          refine wpAny_mono ((sok a o4 cls d (X.pn ++ pins) z4 ⟨_, d4⟩).run [] s5 _ G _ S5 (yes rfl a na)) (fun fl s6 z6 => ?_) (fun _ _ z => False.elim z)
          have off : ∀ {σ6 : L2.St} {H6 : Hp} {Q : Shared → Prop}, Inv (X.suite a ((a, o4) :: (X.pn ++ pins))) [] σ6 H6 s6 → (∀ s7, Inv X pins (σ6.set i none) H6 s7 → Q s7) →
              wpAny (model X.prog X.w) X.A (do bindName X.env n .none; unbindBehindTheSuite X.env n p2) (fun _ s7 => Q s7) X.xe s6 := fun {σ6 H6 Q} S6 q => gone_ok (S6.unsuite ok) nd hi hn q
          cases fl with
          | next => exact let ⟨_, _, S6, q6⟩ := z6; off S6 fun s7 J7 => ⟨_, _, J7, q6⟩
          | brk => exact let ⟨_, _, S6, q6⟩ := z6; off S6 fun s7 J7 => ⟨_, _, J7, q6⟩
          | cont => exact let ⟨_, _, S6, q6⟩ := z6; off S6 fun s7 J7 => ⟨_, _, J7, q6⟩
          | ret u => exact let ⟨_, _, _, S6, r6, q6⟩ := z6; off S6 fun s7 J7 => ⟨_, _, _, J7, r6, q6⟩
    exact go hh ww
  · cases fl with
    | next => exact let ⟨_, _, J', q⟩ := z; wpAny_execs_nil ⟨_, _, J'.ofTry ok, q⟩
    | brk => exact let ⟨_, _, J', q⟩ := z; ⟨_, _, J'.ofTry ok, q⟩
    | cont => exact let ⟨_, _, J', q⟩ := z; ⟨_, _, J'.ofTry ok, q⟩
    | ret u => exact let ⟨_, _, _, J', r, q⟩ := z; ⟨_, _, _, J'.ofTry ok, r, q⟩
end
end Rc

namespace Rc
open PySem PySem.Spec PyProof.Rows L2
/-! ### NoSuch -/
abbrev sNoS : Stmt := inClass (topS 9) 0
theorem txNoS : EX.Txt sNoS ["who"] :=
  ⟨by simp, by decide, rfl, rfl, rfl, by decide +kernel, rfl, rfl, rfl, fun f hf => by
      obtain rfl := List.mem_singleton.mp hf
      exact ⟨rfl, by decide, by decide⟩, by decide, ⟨_, rfl, rfl⟩,
    fun _ _ _ _ _ _ _ _ vs hl => match vs, hl with | [v], _ => rfl, ⟨_, _, _, _, _, _, _, _, rfl, ⟨_, fun _ => rfl⟩, .cons .nil⟩⟩
abbrev ClsN (P : Program) (K : PySem.W.Frag) (mg : Str → Option Value) (CN : Addr) : Prop :=
  EX.Cx' P K mg "NoSuch" sNoS ["who"] "LookupError" "LookupError.__new__" "LookupError.__init__" [.type "LookupError", .type "Exception", .type "BaseException", .type "object"] CN
/-- dead code -/
def tNot : TE := fun _ _ _ => False
theorem pe_not_here {X : Cx} {e : Expr} : PE X e tNot := ⟨fun _ _ _ _ _ _ h => h.elim⟩
section
variable {P : Program} {w : World} {K : PySem.W.Frag} {mg : Str → Option Value} {base : Heap}
/-- what is no person is refused -/
def spNo (K : PySem.W.Frag) (C CN : Addr) : Sp := fun vs H _ E => ∃ b M v d, vs = [.ref b, v] ∧ BookAt K C H b M ∧ NamesOk M.names ∧ Dt K H v d ∧ ShortD d ∧ hasD M d = false ∧
  ∀ H' dd, Same H H' → H dd = none → H' dd = some (.xd [("who", v)]) → E (.ref CN) (some dd) H'
theorem spNo_len {C CN : Addr} {a b : Str} : ∀ vs H Q E, spNo K C CN vs H Q E → vs.length = [a, b].length := fun vs H Q E h => by
  obtain ⟨_, _, _, _, rfl, _⟩ := h
  rfl
/-- a def that refuses -/
structure HasX (P : Program) (w : World) (K : PySem.W.Frag) (mg : Str → Option Value) (base : Heap) (k : Nat) (nm : Str) (ps : List Str) (sp : Sp) (f : Addr) (fd : FuncData) : Prop where
  ok : FnOk P w K mg base (L2.CX P w) k f fd ps sp
  g : mg nm = some (.ref f)
  kp : PySem.W.keepIn K (.ref f) = true
  b : Binds K fd ps []
structure HasMX (P : Program) (w : World) (K : PySem.W.Frag) (mg : Str → Option Value) (base : Heap) (C : Addr) (k : Nat) (nm : Str) (ps : List Str) (sp : Sp) (f : Addr) (fd : FuncData) : Prop where
  ok : FnOk P w K mg base (L2.CX P w) k f fd ps sp
  m : Meth K C nm f
  b : Binds K fd ps []
theorem no_place {f fh C CN : Addr} {fd fdh : FuncData} (F : Fun K "place_of" "Book.place_of" sPlace f fd) (T : ClsF K C) (N : ClsN P K mg CN) (HS : HasM P w K mg base C 2 "has" ["self", "who"] (spHas K C) fh fdh) :
    FnOk P w K mg base (L2.CX P w) 3 f fd ["self", "who"] (spNo K C CN) := by
  refine F.okX scPlace spNo_len (fun cdv A outer s H vs Q E hr h => ?_)
  obtain ⟨b, M, v, d, rfl, hb, ok, hv, hs, hn, q⟩ := h
  refine ⟨_, pss_cons (ps_if (pt_not (pt_val (pe_meth (pv 0) T.cl HS.m HS.ok hr HS.b .nil pass0 (pa_cons (pv 1) pa_nil))))
      (pss_one (ps_raise rfl (takes_of rfl rfl rfl rfl) (pmk_ex N txNoS EX.base_Lookup hr (pa_cons (pv 1) pa_nil) (by rfl)))) pss_nil) pss_never, ?_⟩
  obtain ⟨dx, tn, on, wg, ws, wd, e, h1, hn', h2, h3, h4⟩ := hb.ex
  refine ⟨.ref b, rfl, b, dx, _, rfl, e, bf_no (NoF.mk' (by decide +kernel)), v, rfl, b, M, v, d, rfl, hb, ok, hv, hs, fun H1 s1 => ⟨_, rfl, ?_⟩⟩
  rw [hn]
  refine iteT ⟨v, rfl, rfl, fun dd nd => ?_⟩
  exact q _ dd (s1.trans (same_upd nd)) (s1.free nd) upd_same
theorem no_notes {f fp C CN : Addr} {fd fdp : FuncData} (F : Fun K "notes" "Book.notes" sNotes f fd) (T : ClsF K C) (B3 : Blt3 mg) (PL : HasMX P w K mg base C 3 "place_of" ["self", "who"] (spNo K C CN) fp fdp) :
    FnOk P w K mg base (L2.CX P w) 4 f fd ["self", "who"] (spNo K C CN) := by
  refine F.okX scNotes spNo_len (fun cdv A outer s H vs Q E hr h => ?_)
  obtain ⟨b, M, v, d, rfl, hb, ok, hv, hs, hn, q⟩ := h
  refine ⟨_, pss_one (ps_ret (pe_callTy call_listD (by rfl) B3.list (by decide +kernel) (pa_cons (pe_ix ix_tupD (pe_fld (pv 0) rfl) (pe_meth (pv 0) T.cl PL.m PL.ok hr PL.b .nil (passes_call (takes_of rfl rfl rfl rfl) fun _ _ _ _ z => z) (pa_cons (pv 1) pa_nil)) (fun _ _ => rfl)) pa_nil))), ?_⟩
  obtain ⟨dx, tn, on, wg, ws, wd, e, h1, hn', h2, h3, h4⟩ := hb.ex
  exact ⟨.ref b, rfl, b, C, dx, _, _, rfl, e, T.cl, T.n3, bf_stacks, .ref b, rfl, b, dx, _, rfl, e, bf_no (NoF.mk' (by decide +kernel)), v, rfl, b, M, v, d, rfl, hb, ok, hv, hs, hn, q⟩
theorem no_pile {f fs fn C CN : Addr} {fd fds fdn : FuncData} (F : Fun K "pile" "Book.pile" sPile f fd) (T : ClsF K C) (SP : Has P w K mg base 1 "split_notes" ["notes", "fallen"] (spSplit K) fs fds)
    (NT : HasMX P w K mg base C 4 "notes" ["self", "who"] (spNo K C CN) fn fdn) : FnOk P w K mg base (L2.CX P w) 5 f fd ["self", "who"] (spNo K C CN) := by
  refine F.okX scPile spNo_len (fun cdv A outer s H vs Q E hr h => ?_)
  obtain ⟨b, M, v, d, rfl, hb, ok, hv, hs, hn, q⟩ := h
  refine ⟨_, pss_cons (ps_asg (pe_call SP.ok (hr.mono (by decide)) (by rfl) SP.g SP.kp SP.b .nil pass0 (pa_cons (pe_meth (pv 0) T.cl NT.m NT.ok hr NT.b .nil (passes_call (takes_of rfl rfl rfl rfl) fun _ _ _ _ z => z) (pa_cons (pv 1) pa_nil)) (pa_cons pe_not_here pa_nil)))
      (pg_tup rfl (pgs_cons (pg_name (i := 2) scPile.nd rfl (.inl rfl)) (pgs_cons (pg_name (i := 3) scPile.nd rfl (.inl rfl)) pgs_nil)))) pss_never, ?_⟩
  obtain ⟨dx, tn, on, wg, ws, wd, e, h1, hn', h2, h3, h4⟩ := hb.ex
  exact ⟨.ref b, rfl, b, dx, _, rfl, e, bf_no (NoF.mk' (by decide +kernel)), v, rfl, b, M, v, d, rfl, hb, ok, hv, hs, hn, q⟩
end
end Rc

namespace Rc
open PySem PySem.Spec PyProof.Rows L2
/-! ### except clauses with a tuple of classes, of any length -/
theorem any_one {K : PySem.W.Frag} {cls c : Value} {b : Bool} (h : PySem.W.exmOne K cls c = some b) : PySem.W.exmAny K cls [c] = some b := by
  unfold PySem.W.exmAny
  rw [h]
  show some (b || false) = some b
  rw [Bool.or_false]
theorem any_hit {K : PySem.W.Frag} {cls c : Value} {r : List Value} {d : Bool} (h : PySem.W.exmOne K cls c = some true) (hr : PySem.W.exmAny K cls r = some d) : PySem.W.exmAny K cls (c :: r) = some true := by
  show (match PySem.W.exmOne K cls c, PySem.W.exmAny K cls r with
    | some b, some d => some (b || d)
    | _, _ => none) = _
  rw [h, hr]
  rfl
theorem any_miss {K : PySem.W.Frag} {cls c : Value} {r : List Value} {d : Bool} (h : PySem.W.exmOne K cls c = some false) (hr : PySem.W.exmAny K cls r = some d) : PySem.W.exmAny K cls (c :: r) = some d := by
  show (match PySem.W.exmOne K cls c, PySem.W.exmAny K cls r with
    | some b, some d => some (b || d)
    | _, _ => none) = _
  rw [h, hr]
  rfl
section
variable {M : Model} {K : PySem.W.Frag} {A : Around} {E : Value → Shared → Prop} {s : Shared}
theorem loop_unit {cs : List Value} {body : Value → PUnit → Sem (ForInStep PUnit)} {Q : PUnit → Shared → Prop} (hb : ∀ c ∈ cs, ∀ R : ForInStep PUnit → Shared → Prop, R (.yield .unit) s → wpAny M A (body c .unit) R E s) (q : Q .unit s) :
    wpAny M A (forIn cs PUnit.unit body) Q E s := by
  induction cs with
  | nil => rw [List.forIn_nil]; exact wpAny_pure q
  | cons c r ih =>
    rw [List.forIn_cons]
    refine wpAny_bind (hb c (.head _) _ ?_)
    exact ih fun c' m => hb c' (.tail _ m)
theorem loop_any {cls : Value} {cs : List Value} {b : Bool} {body : Value → Option Bool × PUnit → Sem (ForInStep (Option Bool × PUnit))} {Q : Option Bool × PUnit → Shared → Prop} (hx : PySem.W.exmAny K cls cs = some b)
    (hb : ∀ c ∈ cs, ∀ d, PySem.W.exmOne K cls c = some d → ∀ R : ForInStep (Option Bool × PUnit) → Shared → Prop, R (if d = true then .done (some true, .unit) else .yield (none, .unit)) s → wpAny M A (body c (none, .unit)) R E s)
    (q : Q (if b = true then some true else none, .unit) s) : wpAny M A (forIn cs ((none, PUnit.unit) : Option Bool × PUnit) body) Q E s := by
  induction cs generalizing b with
  | nil =>
    rw [List.forIn_nil]
    cases (show some false = some b from hx)
    exact wpAny_pure q
  | cons c r ih =>
    obtain ⟨b1, d1, x1, y1, z1⟩ := PySem.W.exmAny_cons hx
    subst z1
    rw [List.forIn_cons]
    refine wpAny_bind (hb c (.head _) b1 x1 _ ?_)
    cases b1 with
    | true => exact wpAny_pure q
    | false => exact ih y1 (fun c' m => hb c' (.tail _ m)) q
theorem exm_list {cs : List Value} {cls : Value} {tp e : Addr} {b : Bool} {h : Heap} (X : K.In h) (LT : PySem.W.Looks M h (typeOf (.ref e)) cls) (hp : h.get? tp = some { cls := .type "tuple", data := .seq cs.toArray }) (hx : PySem.W.exmAny K cls cs = some b) :
    PySem.W.Looks M h (excMatches (.ref e) (.ref tp)) b := by
  have all : ∀ c ∈ cs, ∃ d, PySem.W.exmOne K cls c = some d := by
    clear hp
    induction cs generalizing b with
    | nil => exact fun c m => nomatch m
    | cons c0 r ih =>
      obtain ⟨b1, d1, x1, y1, z1⟩ := PySem.W.exmAny_cons hx
      intro c m
      cases m with
      | head => exact ⟨b1, x1⟩
      | tail _ m => exact ih y1 c m
  intro A Q E s k q
  have LT0 : PySem.W.Looks M h (isInstance (.ref tp) (.type "tuple")) true := ((PySem.W.Looks.ld hp).andThen .now).andThen (PySem.W.Looks.of_pure isSubtype_tuple_tuple)
  have LT1 := LT.keeps k
  have LT0 := LT0.keeps k
  have hp' := k _ _ hp
  unfold excMatches
  refine wpAny_bind (LT0.at ?_)
  dsimp only
  rw [if_pos rfl]
  first
    | refine wpAny_bind (wpAny_seqItems hp' rfl ?_)
    | refine wpAny_bind (wpAny_bind (wpAny_seqItems hp' rfl (wpAny_pure ?_)))
  dsimp only [Option.getD_some, Option.getD]
  first
    | refine wpAny_bind (wpAny_pure (wpAny_bind (loop_unit (cs := cs) (fun c m R r => ?_) ?_)))
    | refine wpAny_pure (wpAny_bind (loop_unit (cs := cs) (fun c m R r => ?_) ?_))
    | refine wpAny_bind (loop_unit (cs := cs) (fun c m R r => ?_) ?_)
  · obtain ⟨d, x⟩ := all c m
    obtain ⟨e1, _⟩ := PySem.W.exm_cls (M := M) X x
    refine wpAny_bind ((e1.keeps k).at ?_)
    simp only [Bool.not_true, Bool.false_eq_true, if_false]
    first
      | exact wpAny_pure r
      | exact wpAny_bind (wpAny_pure (wpAny_pure r))
      | exact wpAny_bind (wpAny_pure r)
  · refine wpAny_bind (LT1.at ?_)
    refine wpAny_bind (loop_any (cls := cls) (cs := cs) hx (fun c m d x R r => ?_) ?_)
    · obtain ⟨_, S1⟩ := PySem.W.exm_cls (M := M) X x
      refine wpAny_bind ((S1.keeps k).at ?_)
      cases d <;> exact wpAny_pure r
    · cases b <;> exact wpAny_pure q
end

def wMixT (K : PySem.W.Frag) (Wo : WX) (D : Ends) : List (List Value × Option Nat × Suite) → WX
  | [] => Wo
  | (c, none, ts) :: r => fun cls d σ H => ∃ y, PySem.W.exmAny K cls c = some y ∧ (y = true → ∀ a, H a = none → ts a cls d D σ H) ∧ (y = false → wMixT K Wo D r cls d σ H)
  | (c, some i, ts) :: r => fun cls d σ H => ∃ y, PySem.W.exmAny K cls c = some y ∧ (y = true → ∀ a, H a = none → ts a cls d (offD i D) (σ.set i (some (.ref a))) H) ∧ (y = false → wMixT K Wo D r cls d σ H)
/-- the names of a tuple -/
inductive NamesL (X : Cx) : List Expr → List Value → Prop
  | nil : NamesL X [] []
  | cons {x : Str} {c : Value} {p : Pos} {es : List Expr} {cs : List Value} (hc : Names X x c) (r : NamesL X es cs) : NamesL X (.Name x p :: es) (c :: cs)
inductive SpecX (X : Cx) : Expr → List Value → Prop
  | one {x : Str} {c : Value} {p : Pos} (hc : Names X x c) : SpecX X (.Name x p) [c]
  | many {es : List Expr} {cs : List Value} {k : Nat} {p : Pos} (h : NamesL X es cs) (hl : cs.length ≤ sizeLine) : SpecX X (.Tuple es k p) cs
/-- a suite, the caught one not of the base -/
abbrev SuiteOkB (X : Cx) (ss : List Stmt) (ts : Suite) : Prop := ∀ (a : Addr) (oe : Obj) (cls : Value) (d : Option Addr) (pn : List (Addr × Obj)), X.base.get? a = none → Zc cls d oe → (∃ vs, oe.data = .fields vs) → PSs (X.suite a ((a, oe) :: pn)) ss (ts a cls d)
inductive HdsT (X : Cx) : List ExceptHandler → List (List Value × Option Nat × Suite) → Prop
  | nil : HdsT X [] []
  | plain {t : Expr} {c : List Value} {ts : Suite} {s0 : Stmt} {ss : List Stmt} {p2 : Pos} {hs : List ExceptHandler} {l : List (List Value × Option Nat × Suite)} (hc : SpecX X t c) (ok : SuiteOkB X (s0 :: ss) ts) (r : HdsT X hs l) :
      HdsT X (.ExceptHandler (some t) none (s0 :: ss) p2 :: hs) ((c, none, ts) :: l)
  | named {t : Expr} {n : Str} {i : Nat} {c : List Value} {ts : Suite} {s0 : Stmt} {ss : List Stmt} {p2 : Pos} {hs : List ExceptHandler} {l : List (List Value × Option Nat × Suite)} (hi : X.N[i]? = some n) (hn : X.env.kindOf n = some .local) (hc : SpecX X t c) (ok : SuiteOkB X (s0 :: ss) ts) (r : HdsT X hs l) :
      HdsT X (.ExceptHandler (some t) (some n) (s0 :: ss) p2 :: hs) ((c, some i, ts) :: l)
theorem fly_push {base h : Heap} {l : List Env} {e : Addr} {Z : Obj → Prop} {o : Obj} (x : HandSPX.FlyingZ base l e Z h) : HandSPX.FlyingZ base l e Z (h.push o) := by
  obtain ⟨f1, f2, f3, oe, vs, T, oT, ts, he, hz, hd, h1, hnT, hTe, hT, hdT, h3⟩ := x
  exact ⟨fun b o e => Heap.get?_push_of_some _ (f1 b o e), f2, f3.of_keeps fun b o e _ => ⟨o, Heap.get?_push_of_some _ e, rfl⟩, oe, vs, T, oT, ts, Heap.get?_push_of_some _ he, hz, hd, h1, hnT, hTe, Heap.get?_push_of_some _ hT, hdT, h3⟩
theorem up_push {h h' : Heap} {o : Obj} (u : h.UpToSlots h') : h.UpToSlots (h'.push o) := u.trans (Heap.UpToSlots.of_keeps fun b o e => Heap.get?_push_of_some _ e)
theorem kp_push {h : Heap} {o : Obj} : ∀ b u, h.get? b = some u → (h.push o).get? b = some u := fun _ _ e => Heap.get?_push_of_some _ e
section
variable {X : Cx} {body : List Stmt} {hd : ExceptHandler} {hds : List ExceptHandler} {l : List (List Value × Option Nat × Suite)} {pos : Pos} {tb : WX → TS} {Wo : WX}
/-- the names of a tuple are looked up -/
theorem names_run {A : Around} {E : Value → Shared → Prop} {s : Shared} {env : Env} {p : Pos} (look : ∀ {x : Str} {c : Value} {np : Pos} {Q : Value → Shared → Prop}, Names X x c → Q c s → wpAny (model X.prog X.w) A (eval (.Name x np) env) Q E s) :
    ∀ {es : List Expr} {cs : List Value}, NamesL X es cs → ∀ {Q : List Value → Shared → Prop}, Q cs s → wpAny (model X.prog X.w) A (spliced (backTo p (starEach es env))) Q E s := by
  intro es cs h
  induction h with
  | nil => exact fun q => wpAny_items_nil q
  | cons hc r ih => exact fun q => wpAny_items_cons (look hc (ih q))
theorem ps_try_mixT (est : X.stack = X.env :: X.outer) (efr : X.env.frame = some X.env.locals) (nd : X.N.Nodup) (tk : Takes X Wo)
    (hb : ∀ (W : WX) (pn : List (Addr × Obj)) (xe : Value → Shared → Prop), Takes (X.tr pn xe) W → PassesOwn (model X.prog X.w) X.A X.env xe → PSs (X.tr pn xe) body (tb W))
    (hh : HdsT X (hd :: hds) l) : PS X (.Try body (hd :: hds) [] [] pos) (fun D σ H => tb (wMixT X.K Wo D l) D σ H) := by
  refine ⟨fun pins s σ H D I hw => ?_⟩
  have ok := I.ok
  have frs1 : X.A.frames = some (X.env :: X.outer) := ok.frames.trans (congrArg some est)
  refine wpAny_Try_except (wpAny_mono ((hb (wMixT X.K Wo D l) (X.pn ++ pins) (fun u s1 => wpAny (model X.prog X.w) X.A (noteFrame u X.env) (fun _ s2 => wpAny (model X.prog X.w) X.A (setFlight u none) (fun _ s3 =>
    wpAny (model X.prog X.w) X.A (handleBy u X.env (hd :: hds)) (SP X pins D) X.xe s3) X.xe s2) X.xe s1) (fun u s' z => ?_) PassesOwn.looking).run [] s σ H D (I.toTry _) hw) (fun fl s1 z => ?_) (fun _ _ z => z))
  · obtain ⟨a, Bs, sI, pins', τ, G, cls, d, rfl, J', nb, up, sky, na, os, ag, ww⟩ := z
    have J : Inv X pins τ G sI := J'.ofTry ok
    have sky1 : Sky Bs (X.env :: X.outer) a (Zc cls d) X.env.locals s'.heap := est ▸ sky
    show wpAny (model X.prog X.w) X.A (noteFrame (.ref a) X.env) _ _ _
    refine Sky.land Zc.steady frs1 efr sky1 fun h3 fl3 up3 => ?_
    have off : ∀ {h5 : Heap} {o4 : Obj} {v4 : Array Value}, HandSPX.FlyingZ Bs (X.env :: X.outer) a (Zc cls d) h5 → h5.get? a = some o4 → o4.data = .fields v4 → a ≠ X.env.locals ∧ a ∉ X.fs := fun {h5 o4 v4} fl5 e4 d4 => by
      have nfr : a ∉ frs (X.env :: X.outer) := fun hm => by
        obtain ⟨_, o', e', no'⟩ := fl5.2.2.1.mem hm
        rw [e4] at e'
        cases e'
        exact no' _ d4
      refine ⟨fun y => nfr (List.mem_filterMap.mpr ⟨X.env, List.mem_cons_self, by rw [efr, y]⟩), fun hm => ?_⟩
      obtain ⟨e, he, q⟩ := List.mem_filterMap.mp hm
      exact nfr (List.mem_filterMap.mpr ⟨e, .tail _ he, q⟩)
    have nB : ∀ {h5 : Heap}, HandSPX.FlyingZ Bs (X.env :: X.outer) a (Zc cls d) h5 → X.base.get? a = none := fun {h5} fl5 => by
      cases e : X.base.get? a with
      | none => rfl
      | some o =>
        have h1 := (J.bs a o e).1
        have nf : a ∉ frs X.stack := fun hm => by
          rcases List.mem_cons.mp (J.stkSub a hm) with z | z
          · have lt : a < X.base.objs.size := Heap.lt_size e
            have le := Nat.le_trans ok.bsz ok.above
            rw [z] at lt
            exact absurd lt (Nat.not_lt.mpr le)
          · exact ok.nofr e z
        have h2 := nb a o h1 nf
        rw [fl5.2.1] at h2
        cases h2
    have look : ∀ {h3 : Heap} {x : Str} {c : Value} {np : Pos} {Q : Value → Shared → Prop} {E : Value → Shared → Prop}, HandSPX.FlyingZ Bs (X.env :: X.outer) a (Zc cls d) h3 → sI.heap.UpToSlots h3 → Names X x c → Q c { s' with heap := h3 } → wpAny (model X.prog X.w) (X.A.mark (some (.ref a))) (eval (.Name x np) X.env) Q E { s' with heap := h3 } := fun {h3 x c np Q E} fl3 up3 hc q => by
      have J3 : Inv X pins τ G { s' with heap := h3 } := J.landed nb fl3.1 up3 os ag
      obtain ⟨o3, v3, e3, z3, d3⟩ := fl3.there
      obtain ⟨nL, nF⟩ := off fl3 e3 d3
      have S3 := J3.suite e3 d3 na nL nF
      obtain ⟨hg, hdb, hm | ⟨hm, hv, hnn⟩⟩ := hc
      · exact ld_glob (X := X.suite a ((a, o3) :: (X.pn ++ pins))) S3 hg hm q hdb
      · exact ld_blt (X := X.suite a ((a, o3) :: (X.pn ++ pins))) S3 hg hm hv q hnn hdb
    have test : ∀ {h3 : Heap} {t : Expr} {c : List Value} {y : Bool} {Q : Bool → Shared → Prop} {E E' : Value → Shared → Prop}, HandSPX.FlyingZ Bs (X.env :: X.outer) a (Zc cls d) h3 → sI.heap.UpToSlots h3 → SpecX X t c → PySem.W.exmAny X.K cls c = some y →
        (∀ h4, HandSPX.FlyingZ Bs (X.env :: X.outer) a (Zc cls d) h4 → sI.heap.UpToSlots h4 → Q y { s' with heap := h4 }) →
        wpAny (model X.prog X.w) (X.A.mark (some (.ref a))) (eval t X.env) (fun u s1 => wpAny (model X.prog X.w) (X.A.mark (some (.ref a))) (excMatches (.ref a) u) Q E s1) E' { s' with heap := h3 } := fun {h3 t c y Q E E'} fl3 up3 hc hy q => by
      have J3 : Inv X pins τ G { s' with heap := h3 } := J.landed nb fl3.1 up3 os ag
      obtain ⟨o3, v3, e3, z3, d3⟩ := fl3.there
      have LT : PySem.W.Looks (model X.prog X.w) h3 (typeOf (.ref a)) cls := fun A Q E s k q => wpAny_typeOf_ref (k _ _ e3) (by rw [z3.1]; exact q)
      cases hc with
      | @one x c p hc =>
        obtain ⟨b1, d1, x1, y1, z1⟩ := PySem.W.exmAny_cons hy
        cases (show some false = some d1 from y1)
        have e1 : PySem.W.exmOne X.K cls c = some y := by rw [x1, z1, Bool.or_false]
        exact look fl3 up3 hc ((PySem.W.exm_one (M := model X.prog X.w) J3.kIn LT e1).here (q h3 fl3 up3))
      | @many es cs k p hn hl =>
        refine wpAny_Tuple (names_run (fun hc q => look fl3 up3 hc q) hn ⟨hl, ?_⟩)
        exact (exm_list (M := model X.prog X.w) (J3.kIn.keeps kp_push) (LT.keeps kp_push) (Heap.get?_push_size _ rfl) hy).here (q _ (fly_push fl3) (up_push up3))
    have go : ∀ {hs' : List ExceptHandler} {l' : List (List Value × Option Nat × Suite)}, HdsT X hs' l' → wMixT X.K Wo D l' cls d τ G → ∀ h3, HandSPX.FlyingZ Bs (X.env :: X.outer) a (Zc cls d) h3 → sI.heap.UpToSlots h3 → wpAny (model X.prog X.w) X.A (handleBy (.ref a) X.env hs') (SP X pins D) X.xe { s' with heap := h3 } := by
      intro hs' l' hk
      induction hk with
      | nil =>
        intro wo h3 fl3 up3
        have J3 : Inv X pins τ G { s' with heap := h3 } := J.landed nb fl3.1 up3 os ag
        refine wpAny_handleBy_nil ?_
        obtain ⟨k1, k2, k3, oe, vs, TB, oT, ts', he, hz, hdd, h1, hr⟩ := id fl3
        unfold PySem.passOn
        refine wpAny_bind (wpAny_field he hdd h1 ?_)
        rw [if_neg (show ¬ ((Value.ref TB == Value.none) = true) from by simp)]
        have last : wpAny (model X.prog X.w) X.A (setFlight (.ref a) X.env.frame) (fun _ s4 => wpAny (model X.prog X.w) X.A (throw (.ref a) : Sem Flow) (SP X pins D) X.xe s4) X.xe { s' with heap := h3 } := by
          rw [efr]
          refine HandSPX.setFlight_upZ fl3 fun h4 hh4 up4 => wpAny_throw (tk _ _ ⟨a, Bs, sI, pins, τ, G, cls, d, rfl, J, nb, up3.trans up4, .inr (.inr (by rw [est]; exact hh4)), na, os, ag, wo⟩)
        first
          | exact wpAny_bind (wpAny_pure (wpAny_bind last))
          | exact wpAny_bind last
      | @plain t c ts s0 ss p2 hs2 l2 hc sok r ih =>
        intro ⟨y, hy, yes, no⟩ h3 fl3 up3
        refine wpAny_handleBy_cons (codeAny_handlers_test ?_) (by intro q; cases q)
        refine test fl3 up3 hc hy fun h4 fl4 up4 => ?_
        cases y with
        | false =>
          show wpAny _ X.A (handleBy (.ref a) X.env hs2) _ _ _
          exact ih (no rfl) h4 fl4 up4
        | true =>
          refine codeAny_handlers_suite (HandSPX.lands_againZ fl4 fun h5 fl5 up5 => ?_)
          obtain ⟨o4, v4, e4, z4, d4⟩ := fl5.there
          have J4 : Inv X pins τ G { s' with heap := h5 } := J.landed nb fl5.1 (up4.trans up5) os ag
          obtain ⟨nL, nF⟩ := off fl5 e4 d4
          refine wpAny_mono ((sok a o4 cls d (X.pn ++ pins) (nB fl5) z4 ⟨_, d4⟩).run [] _ _ G _ (J4.suite e4 d4 na nL nF) (yes rfl a na)) (fun fl s6 z6 => ?_) (fun _ _ z => False.elim z)
          cases fl with
          | next => exact let ⟨_, _, S6, q6⟩ := z6; ⟨_, _, S6.unsuite ok, q6⟩
          | brk => exact let ⟨_, _, S6, q6⟩ := z6; ⟨_, _, S6.unsuite ok, q6⟩
          | cont => exact let ⟨_, _, S6, q6⟩ := z6; ⟨_, _, S6.unsuite ok, q6⟩
          | ret u => exact let ⟨_, _, _, S6, r6, q6⟩ := z6; ⟨_, _, _, S6.unsuite ok, r6, q6⟩
      | @named t n i c ts s0 ss p2 hs2 l2 hi hn hc sok r ih =>
        intro ⟨y, hy, yes, no⟩ h3 fl3 up3
        refine wpAny_handleBy_cons (codeAny_handlers_test ?_) (by intro q; cases q)
        refine test fl3 up3 hc hy fun h4 fl4 up4 => ?_
        cases y with
        | false =>
          show wpAny _ X.A (handleBy (.ref a) X.env hs2) _ _ _
          exact ih (no rfl) h4 fl4 up4
        | true =>
          refine codeAny_handlers_suite_as (HandSPX.lands_againZ fl4 fun h5 fl5 up5 => ?_)
          obtain ⟨o4, v4, e4, z4, d4⟩ := fl5.there
          have J4 : Inv X pins τ G { s' with heap := h5 } := J.landed nb fl5.1 (up4.trans up5) os ag
          obtain ⟨nL, nF⟩ := off fl5 e4 d4
          refine store_ok (X := X.suite a ((a, o4) :: (X.pn ++ pins))) (v := .ref a) (J4.suite e4 d4 na nL nF) nd hi (.inl hn) rfl (fun s5 S5 => ?_) (.inr hn)
          refine wpAny_mono ((sok a o4 cls d (X.pn ++ pins) (nB fl5) z4 ⟨_, d4⟩).run [] s5 _ G _ S5 (yes rfl a na)) (fun fl s6 z6 => ?_) (fun _ _ z => False.elim z)
          have off : ∀ {σ6 : L2.St} {H6 : Hp} {Q : Shared → Prop}, Inv (X.suite a ((a, o4) :: (X.pn ++ pins))) [] σ6 H6 s6 → (∀ s7, Inv X pins (σ6.set i none) H6 s7 → Q s7) →
              wpAny (model X.prog X.w) X.A (do bindName X.env n .none; unbindBehindTheSuite X.env n p2) (fun _ s7 => Q s7) X.xe s6 := fun {σ6 H6 Q} S6 q => gone_ok (S6.unsuite ok) nd hi hn q
          cases fl with
          | next => exact let ⟨_, _, S6, q6⟩ := z6; off S6 fun s7 J7 => ⟨_, _, J7, q6⟩
          | brk => exact let ⟨_, _, S6, q6⟩ := z6; off S6 fun s7 J7 => ⟨_, _, J7, q6⟩
          | cont => exact let ⟨_, _, S6, q6⟩ := z6; off S6 fun s7 J7 => ⟨_, _, J7, q6⟩
          | ret u => exact let ⟨_, _, _, S6, r6, q6⟩ := z6; off S6 fun s7 J7 => ⟨_, _, _, J7, r6, q6⟩
    exact go hh ww h3 fl3 (up.trans up3)
  · cases fl with
    | next => exact let ⟨_, _, J', q⟩ := z; wpAny_execs_nil ⟨_, _, J'.ofTry ok, q⟩
    | brk => exact let ⟨_, _, J', q⟩ := z; ⟨_, _, J'.ofTry ok, q⟩
    | cont => exact let ⟨_, _, J', q⟩ := z; ⟨_, _, J'.ofTry ok, q⟩
    | ret u => exact let ⟨_, _, _, J', r, q⟩ := z; ⟨_, _, _, J'.ofTry ok, r, q⟩
end
end Rc

namespace Rc
open PySem PySem.Spec PyProof.Rows L2 RZ
def abcS : Str := "abcdefghijklmnopqrstuvwxyz"
theorem abcS_len : abcS.length = 26 := by decide +kernel
theorem abcS_abc : abcS.cps.toList = abc := letters_abc
theorem nodup_le {α : Type} [DecidableEq α] : ∀ (l zs : List α), l.Nodup → (∀ x ∈ l, x ∈ zs) → l.length ≤ zs.length
  | [], _, _, _ => Nat.zero_le _
  | a :: r, zs, nd, h => by
    have hn := List.nodup_cons.mp nd
    have ha : a ∈ zs := h a List.mem_cons_self
    have ih := nodup_le r (zs.erase a) hn.2 fun x hx => by
      have ne : x ≠ a := fun e => hn.1 (e ▸ hx)
      exact (List.mem_erase_of_ne ne).mpr (h x (List.mem_cons_of_mem _ hx))
    rw [List.length_erase_of_mem ha] at ih
    have : 0 < zs.length := List.length_pos_of_mem ha
    rw [List.length_cons]
    omega
def oneS (c : Nat) : Str := ⟨#[c]⟩
theorem oneS_name {c : Nat} (h : c ∈ abc) : nameT (oneS c) = true := by
  have e1 : (oneS c).length = 1 := rfl
  have e2 : (oneS c).cps.toList = [c] := rfl
  unfold nameT
  rw [e1, e2]
  simp [h]
theorem abc_nodup : (abc.map oneS).Nodup := by decide +kernel
/-- some letter is not among thirteen names -/
theorem free_letter {zs : List Str} (h : zs.length ≤ 13) : (abc.filter fun c => !decide (oneS c ∈ zs)) ≠ [] := fun e => by
  have hall : ∀ x ∈ abc.map oneS, x ∈ zs := fun x hx => by
    obtain ⟨c, hc, rfl⟩ := List.mem_map.mp hx
    by_cases hz : oneS c ∈ zs
    · exact hz
    · have hm : c ∈ abc.filter fun c => !decide (oneS c ∈ zs) := List.mem_filter.mpr ⟨hc, by simp [hz]⟩
      rw [e] at hm
      cases hm
  have := nodup_le _ _ abc_nodup hall
  rw [List.length_map] at this
  have e26 : abc.length = 26 := by decide
  omega
theorem nameT_of {z : Str} (h1 : 1 ≤ z.length) (h2 : z.length ≤ 8) (h3 : ∀ c ∈ z.cps.toList, c ∈ abc) : nameT z = true := by
  unfold nameT
  rw [decide_eq_true h1, decide_eq_true h2]
  simp only [Bool.true_and, List.all_eq_true, decide_eq_true_eq]
  exact h3
def wordsL : List Str := ["person", "persons", "pay", "clear", "settle", "put", "give", "yes"]
theorem words_ok : ∀ z ∈ wordsL, nameT z = true := by decide +kernel
section
variable {P : Program} {w : World} {K : PySem.W.Frag} {mg : Str → Option Value} {base : Heap}
/-! ### _law_name -/
abbrev sLNm : Stmt := topS 38
abbrev nLNm : List Str := ["_law_pot_here", "_law_used", "_law_letters", "_law_name_here", "_law_k", "_law_letter"]
theorem scLNm : FnScope nLNm ["_law_pot_here", "_law_used"] (defScope sLNm) := ⟨rfl, rfl, rfl, by decide +kernel, rfl, by decide +kernel, by decide +kernel⟩
def spLNm : Sp := fun vs H Q _ => ∃ p u zs, vs = [.ref p, .ref u] ∧ Pot H p ∧ u ≠ p ∧ H u = some (.lst (List.map V.str zs)) ∧ zs.length ≤ 13 ∧ ∀ z H', nameT z = true → z ∉ zs → Pot H' p → But p H H' → Q (.str z) H'
theorem ok_lnm {f fT : Addr} {fd fdT : FuncData} (F : Fun K "_law_name" "_law_name" sLNm f fd) (B : Blt mg) (B2 : Blt2 mg) (T : HasTake P w K mg base fT fdT) : FnOk P w K mg base CX0 2 f fd ["_law_pot_here", "_law_used"] spLNm := by
  refine F.ok scLNm (fun vs H Q E h => ?_) (fun cdv Ar outer s H vs Q E hr h => ?_)
  · obtain ⟨_, _, _, rfl, _⟩ := h
    rfl
  · obtain ⟨p, u, zs, rfl, hp, up, hu, hz, q⟩ := h
    refine ⟨_, pss_cons (ps_set (i := 2) scLNm.nd rfl (.inr rfl) pe_str)
      (pss_cons (ps_set (i := 3) scLNm.nd rfl (.inl rfl) (pe_join pe_str
        (pe_lc (own := [("_law_k", 4)]) (g := gName 4) (tt := tYes) rfl scLNm.nd (pi_range1 (by rfl) B2.range (pa_cons (pe_op op_add pe_int (pe_call T.ok hr (by rfl) T.g T.kp T.b .nil pass0 (pa_cons (pv 0) (pa_cons pe_int pa_nil)))) pa_nil))
          (blkOk_by (N := nLNm) (sc := defScope sLNm) (own := [("_law_k", 4)]) (by decide +kernel))
          (fun _ _ _ _ _ => pg_name (i := 4) scLNm.nd rfl (.inl rfl)) (fun _ _ _ _ _ => pts_nil)
          (fun _ _ _ _ _ => pe_ix ix_str (pv 2) (pe_call T.ok hr (by rfl) T.g T.kp T.b .nil pass0 (pa_cons (pv 0) (pa_cons pe_int pa_nil))) (fun _ _ => rfl)))))
      (C8.pss_cut (ps_if (pt_cmpR op_eq (pe_call T.ok hr (by rfl) T.g T.kp T.b .nil pass0 (pa_cons (pv 0) (pa_cons pe_int pa_nil))) pe_int (nomark _))
        (pss_one (ps_set (i := 3) scLNm.nd rfl (.inl rfl) (pe_ix ix_list (pe_lst (pa_cons pe_str (pa_cons pe_str (pa_cons pe_str (pa_cons pe_str (pa_cons pe_str (pa_cons pe_str (pa_cons pe_str (pa_cons pe_str pa_nil)))))))))
          (pe_call T.ok hr (by rfl) T.g T.kp T.b .nil pass0 (pa_cons (pv 0) (pa_cons pe_int pa_nil))) (fun _ _ => rfl)))) pss_nil)
      (pss_cons (ps_if (pt_cmpR op_in_seq (pv 3) (pv 1) (by rfl))
        (pss_one (ps_ret (pe_ix ix_list (pe_lc (own := [("_law_letter", 5)]) (g := gName 5) (tt := tTest (tOp (rIn K true) (tVar 5) (tVar 1))) (te := tVar 5) rfl scLNm.nd (pi_str (pv 2)) (blkOk_by (N := nLNm) (sc := defScope sLNm) (own := [("_law_letter", 5)]) (by decide +kernel))
          (fun _ _ _ _ _ => pg_name (i := 5) scLNm.nd rfl (.inl rfl)) (fun _ _ _ _ _ => pts_one (pt_cmpR op_notIn_seq (pv 5) (pv 1) (by rfl))) (fun _ _ _ _ _ => pv 5)) pe_int (fun _ _ => rfl)))) pss_nil)
      (pss_one (ps_ret (pv 3)))))), ?_⟩
    refine ⟨⟨_, rfl⟩, .ref p, rfl, p, 8, rfl, hp, litM _ (by decide) (by decide), fun d H1 d0 d1 hp1 hb1 => ⟨_, _, rfl, rfl, 1 + d, rfl, by omega, by omega, fun D nD => ?_⟩⟩
    have nDp : D ≠ p := by
      obtain ⟨x, y, e, _⟩ := hp1
      exact (ne_of_none e nD).symm
    refine lc_it walk_range (fun i H' => ∃ cs : List Nat, cs.length = i ∧ (∀ c ∈ cs, c ∈ abc) ∧ H' D = some (.lst (cs.map fun c => .str ⟨#[c]⟩)) ∧ Pot H' p ∧ But p H H')
      ⟨[], rfl, fun c hc => absurd hc List.not_mem_nil, upd_same, hp1.new nD, hb1.trans (But.new nD)⟩ (fun _ _ _ _ => trivial) (fun i x H2 H3 hi hP hY => ?_) (fun H2 hP => ?_)
    · obtain ⟨rfl, rfl⟩ := hY
      obtain ⟨cs, lc, hc, hD, hp2, hb2⟩ := hP
      refine ⟨rfl, .str abcS, rfl, .ref p, rfl, p, 26, rfl, hp2, litM _ (by decide) (by decide), fun e H4 e0 e1 hp4 hb4 => ?_⟩
      have el : abcS.cps.toList.length = 26 := abcS_len
      obtain ⟨c, p1, p2⟩ := pick (xs := abcS.cps.toList) e0 (by rw [el]; exact e1)
      refine ⟨abcS, e, c, rfl, rfl, small_line (by rw [abcS_len]; decide), p1, _, hb4 _ _ nDp hD, ?_, cs ++ [c], by rw [List.length_append, lc]; rfl, fun k hk => ?_, ?_, ?_, fun b o n eb => ?_⟩
      · rw [List.length_map, lc]
        exact small1000 (by omega)
      · rcases List.mem_append.mp hk with z | z
        · exact hc k z
        · rw [List.mem_singleton.mp z, ← abcS_abc]
          exact p2
      · rw [upd_same, List.map_append]
        rfl
      · obtain ⟨x, y, z, r⟩ := hp4
        exact ⟨x, y, by rw [upd_ne nDp.symm]; exact z, r⟩
      · have nb : b ≠ D := ne_of_none (hb1 b o n eb) nD
        rw [upd_ne nb]
        exact hb4 _ _ n (hb2 _ _ n eb)
    · obtain ⟨cs, lc, hc, hD, hp2, hb2⟩ := hP
      have ej := join_ones cs
      have nm : nameT (Txt.join "" (cs.map fun c => (⟨#[c]⟩ : Str))) = true := by
        have el : (Txt.join "" (cs.map fun c => (⟨#[c]⟩ : Str))).length = cs.length := by
          show (Txt.join "" (cs.map fun c => (⟨#[c]⟩ : Str))).cps.size = cs.length
          rw [← Array.length_toList, ej]
        refine nameT_of (by rw [el]; omega) (by rw [el]; omega) (by rw [ej]; exact hc)
      refine ⟨"", D, cs.map fun c => ⟨#[c]⟩, rfl, rfl, .inl (.inl (.inl (by rw [hD, List.map_map]; rfl))), ?_, ?_⟩
      · rw [lens_ones]
        show cs.length + _ * 0 ≤ _
        omega
      generalize Txt.join "" (cs.map fun c => (⟨#[c]⟩ : Str)) = z at nm
      refine ⟨fun σ' H' => ∃ z' y4 y5, σ' = [some (.ref p), some (.ref u), some (.str abcS), some (.str z'), y4, y5] ∧ nameT z' = true ∧ Pot H' p ∧ But p H H', ?_, ?_⟩
      · refine ⟨.ref p, rfl, p, 8, rfl, hp2, litM _ (by decide) (by decide), fun k H3 k0 k1 hp3 hb3 => ⟨rfl, _, rfl, ite2 (fun e => ?_) (fun e => ?_)⟩⟩
        · refine ⟨by show 8 ≤ sizeLine; decide, fun l nl => ?_⟩
          have nlp : l ≠ p := by
            obtain ⟨x, y, e, _⟩ := hp3
            exact (ne_of_none e nl).symm
          refine ⟨.ref p, rfl, p, 8, rfl, hp3.new nl, litM _ (by decide) (by decide), fun e H5 e0 e1 hp5 hb5 => ?_⟩
          obtain ⟨v, p1, p2⟩ := pick (xs := wordsL.map V.str) e0 e1
          refine ⟨l, _, e, v, rfl, rfl, .inl (.inl (hb5 _ _ nlp upd_same)), p1, ?_⟩
          obtain ⟨z', hz', rfl⟩ := List.mem_map.mp p2
          exact ⟨z', _, _, rfl, words_ok z' hz', hp5, hb2.trans (hb3.trans ((But.new nl).trans hb5))⟩
        · exact ⟨z, _, _, rfl, nm, hp3, hb2.trans hb3⟩
      · rintro σ' H' ⟨z', y4, y5, rfl, nm', hp', hb'⟩
        have hu' := hb' _ _ up hu
        refine ⟨.str z', rfl, .ref u, rfl, u, _, rfl, .inl (.inl (.inl hu')), rfl, flat_strs _, _, rfl, ?_⟩
        show if inV (.str z') (zs.map V.str) = true then _ else _
        rw [inV_strs]
        refine ite2 (fun e => ?_) (fun e => ?_)
        · refine ⟨.str abcS, rfl, abcS, rfl, fun D' nD' => ?_⟩
          refine lc_it walk_str (fun i H'' => Same H' H'' ∧ H'' D' = some (.lst (((abc.take i).filter fun c => !decide (oneS c ∈ zs)).map fun c => .str (oneS c)))) ⟨same_upd nD', upd_same⟩ (fun _ _ _ _ => trivial) (fun i x H3' H3 hi hP hY => ?_) (fun H3 hP => ?_)
          · obtain ⟨rfl, c, hc', rfl⟩ := hY
            have hc2 : abc[i]? = some c := by
              rw [← abcS_abc, Array.getElem?_toList]
              exact hc'
            refine ⟨rfl, _, rfl, .ref u, rfl, u, _, rfl, .inl (.inl (.inl (hP.1 _ _ hu'))), rfl, flat_strs _, _, rfl, ?_⟩
            have tk : abc.take (i + 1) = abc.take i ++ [c] := by
              rw [List.take_add_one, hc2]
              rfl
            show if (!inV (.str (oneS c)) (zs.map V.str)) = true then _ else _
            rw [inV_strs]
            refine ite2 (fun e' => ?_) (fun e' => ?_)
            · refine ⟨_, rfl, _, hP.2, ?_, fun b o eb => ?_, ?_⟩
              · rw [List.length_map]
                have h1 := List.length_filter_le (fun c => !decide (oneS c ∈ zs)) (abc.take i)
                have h2 : (abc.take i).length ≤ 26 := by
                  rw [List.length_take]
                  exact Nat.min_le_right _ _
                exact small1000 (by omega)
              · rw [upd_ne (ne_of_none eb nD')]
                exact hP.1 b o eb
              · rw [upd_same, tk, List.filter_append, List.map_append]
                simp only [List.filter_cons, e', if_true, List.filter_nil, List.map_cons, List.map_nil]
                rfl
            · refine ⟨hP.1, ?_⟩
              rw [hP.2, tk, List.filter_append]
              simp only [List.filter_cons, e', List.filter_nil, Bool.false_eq_true, if_false, List.append_nil]
          · have esz : abc.take abcS.cps.size = abc := List.take_of_length_le (by decide +kernel)
            rw [esz] at hP
            have ne := free_letter hz
            cases hl : (abc.filter fun c => !decide (oneS c ∈ zs)) with
            | nil => exact absurd hl ne
            | cons c r =>
              have hm : c ∈ abc.filter fun c => !decide (oneS c ∈ zs) := by
                rw [hl]
                exact List.mem_cons_self
              obtain ⟨m1, m2⟩ := List.mem_filter.mp hm
              rw [hl] at hP
              refine ⟨D', _, 0, .str (oneS c), rfl, rfl, .inl (.inl hP.2), atI_nat (j := 0) rfl, ?_⟩
              exact q _ _ (oneS_name m1) (by simpa using m2) (hp'.same hP.1) (hb'.trans (same_but hP.1))
        · exact ⟨_, rfl, q z' H' nm' (fun c => e (decide_eq_true c)) hp' hb'⟩
end
end Rc

namespace Rc
open PySem PySem.Spec PyProof.Rows L2 RZ
section
variable {P : Program} {w : World} {K : PySem.W.Frag} {mg : Str → Option Value} {base : Heap}
/-! ### _law_names -/
abbrev sLNms : Stmt := topS 39
theorem scLNms : FnScope ["_law_pot_here", "_law_many", "_law_found", "_law_k"] ["_law_pot_here", "_law_many"] (defScope sLNms) := ⟨rfl, rfl, rfl, by decide +kernel, rfl, by decide +kernel, by decide +kernel⟩
def spLNms : Sp := fun vs H Q _ => ∃ (p : Addr) (m : Nat), vs = [.ref p, .int (m : Nat)] ∧ Pot H p ∧ m ≤ 13 ∧ ∀ r zs H', H r = none → r ≠ p → H' r = some (.lst (List.map V.str zs)) → zs.length = m → zs.Nodup → (∀ z ∈ zs, nameT z = true) → Pot H' p → But p H H' → Q (.ref r) H'
theorem ok_lnms {f fN : Addr} {fd fdN : FuncData} (F : Fun K "_law_names" "_law_names" sLNms f fd) (B2 : Blt2 mg) (N : Has P w K mg base 2 "_law_name" ["_law_pot_here", "_law_used"] spLNm fN fdN) :
    FnOk P w K mg base CX0 3 f fd ["_law_pot_here", "_law_many"] spLNms := by
  refine F.ok scLNms (fun vs H Q E h => ?_) (fun cdv Ar outer s H vs Q E hr h => ?_)
  · obtain ⟨_, _, rfl, _⟩ := h
    rfl
  · obtain ⟨p, m, rfl, hp, hm, q⟩ := h
    refine ⟨_, pss_cons (ps_set (i := 2) scLNms.nd rfl (.inl rfl) (pe_lst pa_nil))
      (pss_cons (ps_for PassesOwn.never rfl (pi_range1 (by rfl) B2.range (pa_cons (pv 1) pa_nil)) (pg_name (i := 3) scLNms.nd rfl (.inl rfl))
        (pss_one (ps_expr (pe_bm PySem.F.plainAttrs_list PySem.F.slot_list_append PySem.F.type_list_append mt_append (pv 2) (pa_cons (pe_call N.ok hr (by rfl) N.g N.kp N.b .nil pass0 (pa_cons (pv 0) (pa_cons (pv 2) pa_nil))) pa_nil)))))
      (pss_one (ps_ret (pv 2)))), ?_⟩
    refine ⟨Nat.zero_le _, fun r nr => ?_⟩
    have rp : r ≠ p := by
      obtain ⟨x, y, e, _⟩ := hp
      exact (ne_of_none e nr).symm
    refine ⟨_, rfl, _, rfl, by omega, by omega, ?_⟩
    refine for_it walk_range (fun i σ H' => ∃ zs y3, σ = [some (.ref p), some (.int (m : Nat)), some (.ref r), y3] ∧ H' r = some (.lst (List.map V.str zs)) ∧ zs.length = i ∧ zs.Nodup ∧ (∀ z ∈ zs, nameT z = true) ∧ Pot H' p ∧ But p H H')
      ⟨[], _, rfl, upd_same, rfl, List.nodup_nil, fun z hz => absurd hz List.not_mem_nil, hp.new nr, But.new nr⟩ (fun _ _ _ _ _ => trivial) (fun i x σ H1' H1 hi hP hY => ?_) (fun σ H1 hP => ?_)
    · obtain ⟨rfl, rfl⟩ := hY
      obtain ⟨zs, y3, rfl, hr1, lz, nd, nm, hp1, hb1⟩ := hP
      have hi' : i < m := by simpa using hi
      refine ⟨.ref r, rfl, .inl ⟨rfl, _, .inl (.inl hr1)⟩, .ref p, rfl, .ref r, rfl, p, r, zs, rfl, hp1, rp, hr1, by omega, fun z H2 nz nin hp2 hb2 => ?_⟩
      refine ⟨r, _, _, rfl, rfl, hb2 _ _ rp hr1, by rw [List.length_map]; exact small1000 (by omega), ?_⟩
      refine ⟨zs ++ [z], _, rfl, by rw [upd_same, List.map_append]; rfl, by rw [List.length_append, lz]; rfl, ?_, fun y hy => ?_, ?_, fun b o n e => ?_⟩
      · rw [List.nodup_append]
        refine ⟨nd, by simp, fun a ha b hb e => ?_⟩
        rw [List.mem_singleton.mp hb] at e
        exact nin (e ▸ ha)
      · rcases List.mem_append.mp hy with h | h
        · exact nm y h
        · rw [List.mem_singleton.mp h]
          exact nz
      · obtain ⟨x, y, e, rr⟩ := hp2
        exact ⟨x, y, by rw [upd_ne rp.symm]; exact e, rr⟩
      · rw [upd_ne (ne_of_none e nr)]
        exact hb2 _ _ n (hb1 _ _ n e)
    · obtain ⟨zs, y3, rfl, hr1, lz, nd, nm, hp1, hb1⟩ := hP
      exact ⟨.ref r, rfl, q r zs H1 nr rp hr1 (by simpa using lz) nd nm hp1 hb1⟩
end
end Rc

namespace Rc
open PySem PySem.Spec PyProof.Rows L2 RZ
section
variable {P : Program} {w : World} {K : PySem.W.Frag} {mg : Str → Option Value} {base : Heap}
/-! ### _law_amount -/
abbrev sLAm : Stmt := topS 41
theorem scLAm : FnScope ["_law_pot_here", "_law_size", "_law_kind"] ["_law_pot_here", "_law_size"] (defScope sLAm) := ⟨rfl, rfl, rfl, by decide +kernel, rfl, by decide +kernel, by decide +kernel⟩
def Amt (n : Int) : Prop := 1 ≤ n ∧ n ≤ 10 ^ 58
def spLAm : Sp := fun vs H Q _ => ∃ (p : Addr) (s : Int), vs = [.ref p, .int s] ∧ (s = 0 ∨ s = 1) ∧ Pot H p ∧ ∀ n H', Amt n → Pot H' p → But p H H' → Q (.int n) H'
theorem ok_lam {f fT : Addr} {fd fdT : FuncData} (F : Fun K "_law_amount" "_law_amount" sLAm f fd) (T : HasTake P w K mg base fT fdT) : FnOk P w K mg base CX0 2 f fd ["_law_pot_here", "_law_size"] spLAm := by
  refine F.ok scLAm (fun vs H Q E h => ?_) (fun cdv Ar outer s H vs Q E hr h => ?_)
  · obtain ⟨_, _, rfl, _⟩ := h
    rfl
  · obtain ⟨p, sz, rfl, hsz, hp, q⟩ := h
    refine ⟨_, pss_cons (ps_set (i := 2) scLAm.nd rfl (.inl rfl) (pe_call T.ok hr (by rfl) T.g T.kp T.b .nil pass0 (pa_cons (pv 0) (pa_cons pe_int pa_nil))))
      (pss_one (ps_ret (pe_op op_add pe_int (pe_call T.ok hr (by rfl) T.g T.kp T.b .nil pass0 (pa_cons (pv 0) (pa_cons
        (pe_ix ix_list (pe_ix ix_list (pe_lst (pa_cons (pe_lst (pa_cons pe_int (pa_cons pe_int (pa_cons pe_int (pa_cons pe_int pa_nil))))) (pa_cons (pe_lst (pa_cons pe_int (pa_cons pe_int (pa_cons pe_int (pa_cons (pe_op op_pow pe_int pe_int) pa_nil))))) pa_nil))) (pv 1) (fun _ _ => rfl)) (pv 2) (fun _ _ => rfl)) pa_nil)))))), ?_⟩
    refine ⟨.ref p, rfl, p, 4, rfl, hp, litM _ (by decide) (by decide), fun d H1 d0 d1 hp1 hb1 => ?_⟩
    refine ⟨.ref p, rfl, by show 4 ≤ sizeLine; decide, fun l1 n1 => ⟨_, _, rfl, rfl, ⟨by decide, by decide, by decide⟩, by show 4 ≤ sizeLine; decide, fun l2 n2 => ⟨by show 2 ≤ sizeLine; decide, fun l3 n3 => ?_⟩⟩⟩
    have s3 := (same_upd (o := .lst [V.int 1, V.int 3, V.int 9, V.int 9]) n1).trans ((same_upd (o := .lst [V.int 1, V.int 9, V.int 1000, V.int (10 ^ (58 : Int).toNat)]) n2).trans (same_upd (o := .lst [V.ref l1, V.ref l2]) n3))
    have fin : ∀ m : Int, 0 < m → m ≤ 10 ^ 58 → ∃ (p' : Addr) (m' : Int), [V.ref p, V.int m] = [.ref p', .int m'] ∧ Pot (upd (upd (upd H1 l1 (.lst [V.int 1, V.int 3, V.int 9, V.int 9])) l2 (.lst [V.int 1, V.int 9, V.int 1000, V.int (10 ^ (58 : Int).toNat)])) l3 (.lst [V.ref l1, V.ref l2])) p' ∧ LitM m' ∧
        ∀ t H4, 0 ≤ t → t < m' → Pot H4 p' → But p' (upd (upd (upd H1 l1 (.lst [V.int 1, V.int 3, V.int 9, V.int 9])) l2 (.lst [V.int 1, V.int 9, V.int 1000, V.int (10 ^ (58 : Int).toNat)])) l3 (.lst [V.ref l1, V.ref l2])) H4 → ∃ x y : Int, V.int 1 = .int x ∧ V.int t = .int y ∧ Q (.int (x + y)) H4 := fun m m0 m1 => by
      have m2 : (10 : Int) ^ 58 < 2 ^ 250 := by decide
      exact ⟨p, m, rfl, hp1.same s3, litM _ m0 (by omega), fun t H4 t0 t1 hp4 hb4 => ⟨1, t, rfl, rfl, q _ _ ⟨by omega, by omega⟩ hp4 (hb1.trans ((same_but s3).trans hb4))⟩⟩
    rcases hsz with rfl | rfl
    · obtain ⟨c, e1, e2⟩ := pick (xs := [V.int 1, V.int 3, V.int 9, V.int 9]) d0 d1
      refine ⟨.int 0, rfl, l3, _, 0, .ref l1, rfl, rfl, .inl (.inl upd_same), rfl, .int d, rfl, l1, _, d, c, rfl, rfl, .inl (.inl (same_upd n3 _ _ (same_upd n2 _ _ upd_same))), e1, ?_⟩
      have ec : ∃ m : Int, c = .int m ∧ 0 < m ∧ m ≤ 10 ^ 58 := by
        simp only [List.mem_cons, List.not_mem_nil, or_false] at e2
        rcases e2 with e | e | e | e <;> exact ⟨_, e, by decide, by decide⟩
      obtain ⟨m, rfl, m0, m1⟩ := ec
      exact fin m m0 m1
    · obtain ⟨c, e1, e2⟩ := pick (xs := [V.int 1, V.int 9, V.int 1000, V.int (10 ^ (58 : Int).toNat)]) d0 d1
      refine ⟨.int 1, rfl, l3, _, 1, .ref l2, rfl, rfl, .inl (.inl upd_same), rfl, .int d, rfl, l2, _, d, c, rfl, rfl, .inl (.inl (same_upd n3 _ _ upd_same)), e1, ?_⟩
      have ec : ∃ m : Int, c = .int m ∧ 0 < m ∧ m ≤ 10 ^ 58 := by
        simp only [List.mem_cons, List.not_mem_nil, or_false] at e2
        rcases e2 with e | e | e | e <;> exact ⟨_, e, by decide, by decide⟩
      obtain ⟨m, rfl, m0, m1⟩ := ec
      exact fin m m0 m1
end
end Rc

namespace Rc
open PySem PySem.Spec PyProof.Rows L2 RZ
/-! ### dicts by names -/
def dct (zs : List Str) (vs : List V) : List (Key × V) := (zs.zip vs).map fun p => (Sum.inr p.1, p.2)
theorem dct_cons (z : Str) (zs : List Str) (v : V) (vs : List V) : dct (z :: zs) (v :: vs) = (Sum.inr z, v) :: dct zs vs := rfl
theorem dct_mem {zs : List Str} {vs : List V} {kv : Key × V} (h : kv ∈ dct zs vs) : ∃ z ∈ zs, kv.1 = Sum.inr z := by
  unfold dct at h
  obtain ⟨p, hp, rfl⟩ := List.mem_map.mp h
  exact ⟨p.1, (List.of_mem_zip hp).1, rfl⟩
theorem dct_val : ∀ {zs : List Str} {vs : List V} {j : Nat} {z : Str} {v : V}, zs.Nodup → zs[j]? = some z → vs[j]? = some v → valV (dct zs vs) (Sum.inr z : Key) = some v
  | [], _, _, _, _, _, h, _ => by simp at h
  | _ :: _, [], _, _, _, _, _, h => by simp at h
  | y :: zs, u :: vs, 0, z, v, nd, h1, h2 => by
    simp at h1 h2
    subst h1 h2
    rw [dct_cons]
    exact valV_pos rfl
  | y :: zs, u :: vs, j + 1, z, v, nd, h1, h2 => by
    have hn := List.nodup_cons.mp nd
    have h1' : zs[j]? = some z := by simpa using h1
    rw [dct_cons, valV_neg (fun e => hn.1 (by
      have e' : y = z := Sum.inr.inj e
      rw [e']
      exact List.mem_of_getElem? h1'))]
    exact dct_val hn.2 h1' (by simpa using h2)
theorem dct_nokey {zs : List Str} {vs : List V} {z : Str} (h : z ∉ zs) : ∀ kv ∈ dct zs vs, ¬ kv.1 = (Sum.inr z : Key) := fun kv hk e => by
  obtain ⟨y, hy, e'⟩ := dct_mem hk
  rw [e'] at e
  exact h (Sum.inr.inj e ▸ hy)
theorem map_nokey {kvs : List (Key × V)} {k : Key} {v : V} (h : ∀ kv ∈ kvs, ¬ kv.1 = k) : kvs.map (fun kv => if kv.1 = k then (kv.1, v) else kv) = kvs := by
  induction kvs with
  | nil => rfl
  | cons a r ih =>
    rw [List.map_cons, if_neg (h a List.mem_cons_self), ih fun kv hk => h kv (List.mem_cons_of_mem _ hk)]
theorem dct_map : ∀ {zs : List Str} {vs : List V} {j : Nat} {z : Str} {v : V}, zs.Nodup → zs[j]? = some z → (dct zs vs).map (fun kv => if kv.1 = (Sum.inr z : Key) then (kv.1, v) else kv) = dct zs (vs.set j v)
  | [], _, _, _, _, _, h => by simp at h
  | y :: zs, [], _, _, _, _, _ => by simp [dct]
  | y :: zs, u :: vs, 0, z, v, nd, h1 => by
    simp at h1
    subst h1
    have hn := List.nodup_cons.mp nd
    rw [List.set_cons_zero, dct_cons, dct_cons, List.map_cons, if_pos rfl, map_nokey (dct_nokey hn.1)]
  | y :: zs, u :: vs, j + 1, z, v, nd, h1 => by
    have hn := List.nodup_cons.mp nd
    have h1' : zs[j]? = some z := by simpa using h1
    have ne : ¬ (Sum.inr y : Key) = Sum.inr z := fun e => hn.1 (by
      have e' : y = z := Sum.inr.inj e
      rw [e']
      exact List.mem_of_getElem? h1')
    rw [List.set_cons_succ, dct_cons, dct_cons, List.map_cons, if_neg ne, dct_map hn.2 h1']
theorem dct_put {zs : List Str} {vs : List V} {j : Nat} {z : Str} {v : V} (nd : zs.Nodup) (h1 : zs[j]? = some z) (h2 : j < vs.length) : putK (dct zs vs) (Sum.inr z) v = dct zs (vs.set j v) := by
  unfold putK
  have hv := dct_val nd h1 (List.getElem?_eq_getElem h2)
  rw [valV_any, hv, if_pos (show (some vs[j]).isSome = true from rfl)]
  exact dct_map nd h1
theorem put_new {kvs : List (Key × V)} {k : Key} {v : V} (h : ∀ kv ∈ kvs, ¬ kv.1 = k) : putK kvs k v = kvs ++ [(k, v)] := by
  unfold putK
  rw [if_neg]
  rw [List.any_eq_true]
  rintro ⟨kv, hk, e⟩
  exact h kv hk (of_decide_eq_true e)
theorem merge_dct : ∀ (zs : List Str) (vs : List V) (acc : List (Key × V)), zs.Nodup → (∀ kv ∈ acc, ∀ z ∈ zs, ¬ kv.1 = (Sum.inr z : Key)) → mergeK acc (dct zs vs) = acc ++ dct zs vs
  | [], _, acc, _, _ => by simp [dct, mergeK]
  | _ :: _, [], acc, _, _ => by simp [dct, mergeK]
  | z :: zs, v :: vs, acc, nd, h => by
    have hn := List.nodup_cons.mp nd
    rw [dct_cons]
    show mergeK (putK acc (Sum.inr z) v) (dct zs vs) = acc ++ (Sum.inr z, v) :: dct zs vs
    rw [put_new fun kv hk => h kv hk z List.mem_cons_self, merge_dct zs vs _ hn.2 fun kv hk y hy => ?_]
    · rw [List.append_assoc]
      rfl
    · rcases List.mem_append.mp hk with hk | hk
      · exact h kv hk y (List.mem_cons_of_mem _ hy)
      · rw [List.mem_singleton.mp hk]
        intro e
        exact hn.1 (Sum.inr.inj e ▸ hy)
theorem merge_new {zs : List Str} {vs : List V} (nd : zs.Nodup) : mergeK [] (dct zs vs) = dct zs vs := by
  rw [merge_dct zs vs [] nd fun kv hk => absurd hk List.not_mem_nil]
  rfl
theorem dct_len {zs : List Str} {vs : List V} (h : vs.length = zs.length) : (dct zs vs).length = zs.length := by
  unfold dct
  rw [List.length_map, List.length_zip, h, Nat.min_self]
/-! ### the law's model -/
structure MdA where
  m : Addr
  lo : Addr
  dg : Addr
  df : Addr
  dn : Addr
  rs : List Addr
structure Md where
  given : List Int
  fallen : List Int
  notes : List (List (Str × Int))
def MdA.Has (a : MdA) (b : Addr) : Prop := b = a.m ∨ b = a.lo ∨ b = a.dg ∨ b = a.df ∨ b = a.dn ∨ b ∈ a.rs
def keysM : List Str := ["order", "given", "fallen", "notes"]
theorem keysM_nd : keysM.Nodup := by decide +kernel
def MdA.main (a : MdA) : List (Key × V) := dct keysM [.ref a.lo, .ref a.dg, .ref a.df, .ref a.dn]
structure ModelAt (K : PySem.W.Frag) (H : Hp) (zs : List Str) (a : MdA) (D : Md) : Prop where
  hm : H a.m = some (.dK a.main)
  ho : H a.lo = some (.lst (zs.map V.str))
  hg : H a.dg = some (.dK (dct zs (D.given.map V.int)))
  hf : H a.df = some (.dK (dct zs (D.fallen.map V.int)))
  hn : H a.dn = some (.dK (dct zs (a.rs.map V.ref)))
  rows : ∀ (i : Nat) (r : Addr) (l : List (Str × Int)), a.rs[i]? = some r → D.notes[i]? = some l → ∃ xs, H r = some (.lst xs) ∧ DtAll K H xs (notesD l)
  nd : a.rs.Nodup
  olo : a.lo ∉ a.rs
  ogf : a.dg ≠ a.df
  ogn : a.dg ≠ a.dn
  ogm : a.dg ≠ a.m
  omn : a.m ≠ a.dn
  zn : zs.Nodup
  lg : D.given.length = zs.length
  lf : D.fallen.length = zs.length
  ln : D.notes.length = zs.length
  lr : a.rs.length = zs.length
theorem ModelAt.keep {K : PySem.W.Frag} {H H' : Hp} {zs : List Str} {a : MdA} {D : Md} (h : ModelAt K H zs a D) (k : ∀ b o, a.Has b → H b = some o → H' b = some o) (kt : KT H H') : ModelAt K H' zs a D where
  hm := k _ _ (.inl rfl) h.hm
  ho := k _ _ (.inr (.inl rfl)) h.ho
  hg := k _ _ (.inr (.inr (.inl rfl))) h.hg
  hf := k _ _ (.inr (.inr (.inr (.inl rfl)))) h.hf
  hn := k _ _ (.inr (.inr (.inr (.inr (.inl rfl))))) h.hn
  rows := fun i r l e1 e2 => by
    obtain ⟨xs, e, d⟩ := h.rows i r l e1 e2
    exact ⟨xs, k _ _ (.inr (.inr (.inr (.inr (.inr (List.mem_of_getElem? e1)))))) e, DtAll.keepT kt _ (tup_notes l) d⟩
  nd := h.nd
  olo := h.olo
  ogf := h.ogf
  ogn := h.ogn
  ogm := h.ogm
  omn := h.omn
  zn := h.zn
  lg := h.lg
  lf := h.lf
  ln := h.ln
  lr := h.lr
theorem model_same {K : PySem.W.Frag} {H H' : Hp} {zs : List Str} {a : MdA} {D : Md} (h : ModelAt K H zs a D) (s : Same H H') : ModelAt K H' zs a D := h.keep (fun b o _ e => s b o e) (kt_same s)
theorem But.kt {p : Addr} {H H' : Hp} (b : But p H H') (hp : Pot H p) : KT H H' := fun c o e t => b c o (fun z => by
  obtain ⟨x, y, e', _⟩ := hp
  rw [z, e'] at e
  cases e
  exact t) e
theorem model_but {K : PySem.W.Frag} {H H' : Hp} {zs : List Str} {a : MdA} {D : Md} {p : Addr} (h : ModelAt K H zs a D) (b : But p H H') (hp : Pot H p) (n : ¬ a.Has p) : ModelAt K H' zs a D :=
  h.keep (fun c o hc e => b c o (fun z => n (z ▸ hc)) e) (b.kt hp)
def zeros (n : Nat) : List Int := List.replicate n 0
def newMd (n : Nat) : Md := ⟨zeros n, zeros n, List.replicate n []⟩
/-- pairs that a comprehension makes -/
def PairsAt (K : PySem.W.Frag) (H : Hp) (ps : List Addr) (kvs : List (Key × V)) : Prop := Paired (fun p kv => SqT K H p [kV kv.1, kv.2]) ps kvs
theorem Paired.snoc {α β : Type} {R : α → β → Prop} : ∀ {l : List α} {m : List β} {a : α} {b : β}, Paired R l m → R a b → Paired R (l ++ [a]) (m ++ [b])
  | _, _, _, _, .nil, h => .cons h .nil
  | _, _, _, _, .cons r t, h => .cons r (Paired.snoc t h)
theorem pairs_kt {K : PySem.W.Frag} {H H' : Hp} (k : KT H H') : ∀ {ps : List Addr} {kvs : List (Key × V)}, PairsAt K H ps kvs → PairsAt K H' ps kvs
  | _, _, .nil => .nil
  | _, _, .cons r t => .cons (by
      rcases r with (r | ⟨o, r⟩) | r
      · exact .inl (.inl (k _ _ r trivial))
      · exact .inl (.inr ⟨o, k _ _ r trivial⟩)
      · exact .inr r) (pairs_kt k t)
theorem dct_snoc {zs : List Str} {vs : List V} {z : Str} {v : V} (h : vs.length = zs.length) : dct (zs ++ [z]) (vs ++ [v]) = dct zs vs ++ [(Sum.inr z, v)] := by
  unfold dct
  rw [List.zip_append h.symm, List.map_append]
  rfl
theorem take_succ {α : Type} {l : List α} {i : Nat} (h : i < l.length) : l.take (i + 1) = l.take i ++ [l[i]] := by
  rw [List.take_add_one, List.getElem?_eq_getElem h]
  rfl
theorem pairs_step {K : PySem.W.Frag} {H0 H' : Hp} {D t : Addr} {ps : List Addr} {zs : List Str} {vs : List V} {z : Str} {v : V} (nD : H0 D = none) (s : Same H0 H') (hD : H' D = some (.lst (ps.map V.ref))) (hp : PairsAt K H' ps (dct zs vs)) (l : vs.length = zs.length) (nt : H' t = none) :
    Same H0 (upd (upd H' t (.tup [.str z, v])) D (.lst (ps.map V.ref ++ [.ref t]))) ∧ upd (upd H' t (.tup [.str z, v])) D (.lst (ps.map V.ref ++ [.ref t])) D = some (.lst ((ps ++ [t]).map V.ref)) ∧
      PairsAt K (upd (upd H' t (.tup [.str z, v])) D (.lst (ps.map V.ref ++ [.ref t]))) (ps ++ [t]) (dct (zs ++ [z]) (vs ++ [v])) ∧ KT H' (upd (upd H' t (.tup [.str z, v])) D (.lst (ps.map V.ref ++ [.ref t]))) := by
  have tD : t ≠ D := (ne_of_none hD nt).symm
  have kt : KT H' (upd (upd H' t (.tup [.str z, v])) D (.lst (ps.map V.ref ++ [.ref t]))) := (kt_same (same_upd nt)).trans (kt_upd (o := .lst (ps.map V.ref)) (by rw [upd_ne tD.symm]; exact hD) fun z => z)
  refine ⟨fun b o e => ?_, by rw [upd_same, List.map_append]; rfl, ?_, kt⟩
  · rw [upd_ne (ne_of_none e nD), upd_ne (ne_of_none (s b o e) nt)]
    exact s b o e
  · rw [dct_snoc l]
    refine Paired.snoc (pairs_kt kt hp) (.inl (.inl ?_))
    rw [upd_ne tD, upd_same]
    rfl
theorem Paired.len {α β : Type} {R : α → β → Prop} : ∀ {l : List α} {m : List β}, Paired R l m → l.length = m.length
  | _, _, .nil => rfl
  | _, _, .cons _ t => by rw [List.length_cons, List.length_cons, Paired.len t]
section
variable {P : Program} {w : World} {K : PySem.W.Frag} {mg : Str → Option Value} {base : Heap}
abbrev sLMd : Stmt := topS 42
abbrev nLMd : List Str := ["_law_names_here", "_law_name_here"]
theorem scLMd : FnScope nLMd ["_law_names_here"] (defScope sLMd) := ⟨rfl, rfl, rfl, by decide +kernel, rfl, by decide +kernel, by decide +kernel⟩
def spLMd (K : PySem.W.Frag) : Sp := fun vs H Q _ => ∃ (nl : Addr) (zs : List Str), vs = [.ref nl] ∧ H nl = some (.lst (zs.map V.str)) ∧ zs.Nodup ∧ zs.length ≤ 13 ∧ ∀ a H', Same H H' → (∀ b, MdA.Has a b → H b = none) → ModelAt K H' zs a (newMd zs.length) → Q (.ref a.m) H'
theorem ok_lmd {f : Addr} {fd : FuncData} (F : Fun K "_law_model" "_law_model" sLMd f fd) (B3 : Blt3 mg) : FnOk P w K mg base CX0 1 f fd ["_law_names_here"] (spLMd K) := by
  refine F.ok scLMd (fun vs H Q E h => ?_) (fun cdv Ar outer s H vs Q E hr h => ?_)
  · obtain ⟨_, _, rfl, _⟩ := h
    rfl
  · obtain ⟨nl, zs, rfl, hn, nd, lz, q⟩ := h
    refine ⟨_, pss_one (ps_ret (pe_disp (pps_cons pe_str (pe_callTy call_list_of (by rfl) B3.list (by decide +kernel) (pa_cons (pv 0) pa_nil))
      (pps_cons pe_str (pe_callTy (call_dictP rfl) (by rfl) B3.dict (by decide +kernel) (pa_cons (pe_lc (own := [("_law_name_here", 1)]) (g := gName 1) (tt := tYes) rfl scLMd.nd (pi_list (pv 0)) (blkOk_by (N := nLMd) (sc := defScope sLMd) (own := [("_law_name_here", 1)]) (by decide +kernel))
          (fun _ _ _ _ _ => pg_name (i := 1) scLMd.nd rfl (.inl rfl) (hf := .inr rfl)) (fun _ _ _ _ _ => pts_nil) (fun _ _ _ _ _ => pe_tup (pa_cons (pv 1) (pa_cons pe_int pa_nil)))) pa_nil))
      (pps_cons pe_str (pe_callTy (call_dictP rfl) (by rfl) B3.dict (by decide +kernel) (pa_cons (pe_lc (own := [("_law_name_here", 1)]) (g := gName 1) (tt := tYes) rfl scLMd.nd (pi_list (pv 0)) (blkOk_by (N := nLMd) (sc := defScope sLMd) (own := [("_law_name_here", 1)]) (by decide +kernel))
          (fun _ _ _ _ _ => pg_name (i := 1) scLMd.nd rfl (.inl rfl) (hf := .inr rfl)) (fun _ _ _ _ _ => pts_nil) (fun _ _ _ _ _ => pe_tup (pa_cons (pv 1) (pa_cons pe_int pa_nil)))) pa_nil))
      (pps_cons pe_str (pe_callTy (call_dictP rfl) (by rfl) B3.dict (by decide +kernel) (pa_cons (pe_lc (own := [("_law_name_here", 1)]) (g := gName 1) (tt := tYes) rfl scLMd.nd (pi_list (pv 0)) (blkOk_by (N := nLMd) (sc := defScope sLMd) (own := [("_law_name_here", 1)]) (by decide +kernel))
          (fun _ _ _ _ _ => pg_name (i := 1) scLMd.nd rfl (.inl rfl) (hf := .inr rfl)) (fun _ _ _ _ _ => pts_nil) (fun _ _ _ _ _ => pe_tup (pa_cons (pv 1) (pa_cons (pe_lst pa_nil) pa_nil)))) pa_nil)) pps_nil)))) (by rfl) (by rfl) (fun z => by cases z) (by show 4 ≤ 15; decide))), ?_⟩
    intro m nm
    have s1 := same_upd (o := .dK []) nm
    have sq : SqL K H nl (zs.map V.str) := .inl (.inl hn)
    refine ⟨.ref nl, rfl, nl, _, rfl, .inl (s1.seq sq), fun lo nlo => ?_⟩
    have s2 := s1.trans (same_upd (o := .lst (zs.map V.str)) nlo)
    generalize hH2 : upd (upd H m (.dK [])) lo (.lst (zs.map V.str)) = H2 at s2
    have hm2 : H2 m = some (.dK []) := by
      rw [← hH2, upd_ne (by intro e; rw [← e, upd_same] at nlo; cases nlo), upd_same]
    have hl2 : H2 lo = some (.lst (zs.map V.str)) := by
      rw [← hH2, upd_same]
    have nloH : H lo = none := s1.free nlo
    have step0 : ∀ (H0 H' : Hp) (D : Addr) (ps : List Addr) (i : Nat) (hi : i < zs.length), H0 D = none → Same H0 H' → H' D = some (.lst (ps.map V.ref)) → PairsAt K H' ps (dct (zs.take i) ((zeros i).map V.int)) → ∀ t, H' t = none →
        Same H0 (upd (upd H' t (.tup [.str zs[i], .int 0])) D (.lst (ps.map V.ref ++ [.ref t]))) ∧ ∃ ps', upd (upd H' t (.tup [.str zs[i], .int 0])) D (.lst (ps.map V.ref ++ [.ref t])) D = some (.lst (List.map V.ref ps')) ∧
          PairsAt K (upd (upd H' t (.tup [.str zs[i], .int 0])) D (.lst (ps.map V.ref ++ [.ref t]))) ps' (dct (zs.take (i + 1)) ((zeros (i + 1)).map V.int)) := fun H0 H' D ps i hi nD sm hD hp t nt => by
      obtain ⟨a1, a2, a3, _⟩ := pairs_step (z := zs[i]) (v := .int 0) nD sm hD hp (by unfold zeros; rw [List.length_map, List.length_replicate, List.length_take]; omega) nt
      refine ⟨a1, ps ++ [t], a2, ?_⟩
      rw [take_succ hi, show (zeros (i + 1)).map V.int = (zeros i).map V.int ++ [.int 0] by unfold zeros; rw [List.replicate_succ', List.map_append]; rfl]
      exact a3
    have full : zs.take zs.length = zs := List.take_length
    have lenz : (zs.map V.str).length = zs.length := List.length_map ..
    have smallP : ∀ {H' : Hp} {ps : List Addr} {i : Nat} {vs : List V}, i < zs.length → vs.length = i → PairsAt K H' ps (dct (zs.take i) vs) → (ps.map V.ref).length < sizeLine := fun {H' ps i vs} hi hv hp => by
      rw [List.length_map, Paired.len hp]
      unfold dct
      rw [List.length_map, List.length_zip]
      exact small1000 (by omega)
    have lenZ : ∀ i, ((zeros i).map V.int).length = i := fun i => by
      unfold zeros
      rw [List.length_map, List.length_replicate]
    have strAt : ∀ {i : Nat} {x : V} (hi : i < zs.length), (zs.map V.str)[i]? = some x → x = .str zs[i] := fun {i x} hi e => by
      rw [List.getElem?_map, List.getElem?_eq_getElem hi] at e
      exact (Option.some.inj e).symm
    -- 'given'
    refine ⟨.ref nl, rfl, nl, rfl, ⟨_, s2.seq sq⟩, fun D1 nD1 => ?_⟩
    refine lc_it (walk_list (K := K) (a := nl) (xs := zs.map V.str)) (fun i H' => Same H2 H' ∧ ∃ ps, H' D1 = some (.lst (List.map V.ref ps)) ∧ PairsAt K H' ps (dct (zs.take i) ((zeros i).map V.int))) ⟨same_upd nD1, [], upd_same, .nil⟩ (fun i H' _ hP => hP.1.seq (s2.seq sq))
      (fun i x H3' H3 hi hP hY => ?_) (fun H3 hP => ?_)
    · obtain ⟨rfl, hx⟩ := hY
      rw [lenz] at hi
      obtain ⟨sm, ps, hD, hp⟩ := hP
      cases strAt hi hx
      refine ⟨rfl, _, rfl, by show 2 ≤ sizeLine; decide, fun t nt => ⟨_, by rw [upd_ne (ne_of_none hD nt)]; exact hD, smallP hi (lenZ i) hp, ?_⟩⟩
      exact step0 H2 H3 D1 ps i hi nD1 sm hD hp t nt
    obtain ⟨s3, ps1, hD1, hp1⟩ := hP
    rw [lenz, full] at hp1
    refine ⟨D1, ps1, _, rfl, .inl (.inl hD1), hp1, fun dg ndg => ?_⟩
    rw [merge_new nd]
    have s4 := s3.trans (same_upd (o := .dK (dct zs ((zeros zs.length).map V.int))) ndg)
    generalize hH4 : upd H3 dg (.dK (dct zs ((zeros zs.length).map V.int))) = H4 at s4
    have hg4 : H4 dg = some (.dK (dct zs ((zeros zs.length).map V.int))) := by
      rw [← hH4, upd_same]
    have ndgH : H2 dg = none := s3.free ndg
    -- 'fallen'
    refine ⟨.ref nl, rfl, nl, rfl, ⟨_, s4.seq (s2.seq sq)⟩, fun D2 nD2 => ?_⟩
    refine lc_it (walk_list (K := K) (a := nl) (xs := zs.map V.str)) (fun i H' => Same H4 H' ∧ ∃ ps, H' D2 = some (.lst (List.map V.ref ps)) ∧ PairsAt K H' ps (dct (zs.take i) ((zeros i).map V.int))) ⟨same_upd nD2, [], upd_same, .nil⟩ (fun i H' _ hP => hP.1.seq (s4.seq (s2.seq sq)))
      (fun i x H5' H5 hi hP hY => ?_) (fun H5 hP => ?_)
    · obtain ⟨rfl, hx⟩ := hY
      rw [lenz] at hi
      obtain ⟨sm, ps, hD, hp⟩ := hP
      cases strAt hi hx
      refine ⟨rfl, _, rfl, by show 2 ≤ sizeLine; decide, fun t nt => ⟨_, by rw [upd_ne (ne_of_none hD nt)]; exact hD, smallP hi (lenZ i) hp, ?_⟩⟩
      exact step0 H4 H5 D2 ps i hi nD2 sm hD hp t nt
    obtain ⟨s5, ps2, hD2, hp2⟩ := hP
    rw [lenz, full] at hp2
    refine ⟨D2, ps2, _, rfl, .inl (.inl hD2), hp2, fun df ndf => ?_⟩
    rw [merge_new nd]
    have s6 := s5.trans (same_upd (o := .dK (dct zs ((zeros zs.length).map V.int))) ndf)
    generalize hH6 : upd H5 df (.dK (dct zs ((zeros zs.length).map V.int))) = H6 at s6
    have hf6 : H6 df = some (.dK (dct zs ((zeros zs.length).map V.int))) := by
      rw [← hH6, upd_same]
    have ndfH : H4 df = none := s5.free ndf
    -- 'notes'
    have s26 := s4.trans s6
    refine ⟨.ref nl, rfl, nl, rfl, ⟨_, s26.seq (s2.seq sq)⟩, fun D3 nD3 => ?_⟩
    refine lc_it (walk_list (K := K) (a := nl) (xs := zs.map V.str)) (fun i H' => Same H6 H' ∧ ∃ ps rs, H' D3 = some (.lst (List.map V.ref ps)) ∧ rs.length = i ∧ PairsAt K H' ps (dct (zs.take i) (List.map V.ref rs)) ∧ rs.Nodup ∧ (∀ r ∈ rs, H6 r = none ∧ r ≠ D3 ∧ H' r = some (.lst [])))
      ⟨same_upd nD3, [], [], upd_same, rfl, .nil, List.nodup_nil, fun r hr => absurd hr List.not_mem_nil⟩ (fun i H' _ hP => hP.1.seq (s26.seq (s2.seq sq))) (fun i x H7' H7 hi hP hY => ?_) (fun H7 hP => ?_)
    · obtain ⟨rfl, hx⟩ := hY
      rw [lenz] at hi
      obtain ⟨sm, ps, rs, hD, lrs, hp, nrs, hrs⟩ := hP
      cases strAt hi hx
      refine ⟨rfl, _, rfl, Nat.zero_le _, fun e ne => ⟨by show 2 ≤ sizeLine; decide, fun t nt => ?_⟩⟩
      have se := same_upd (o := .lst []) ne
      have hDe := se _ _ hD
      have eD : e ≠ D3 := (ne_of_none hD ne).symm
      have hpe := pairs_kt (kt_same se) hp
      refine ⟨_, by rw [upd_ne (ne_of_none hDe nt)]; exact hDe, smallP hi (by rw [List.length_map, lrs]) hp, ?_⟩
      obtain ⟨a1, a2, a3, a4⟩ := pairs_step (z := zs[i]) (v := .ref e) nD3 (sm.trans se) hDe hpe (by rw [List.length_map, List.length_take, lrs]; omega) nt
      have et : e ≠ t := ne_of_none (upd_same (H := H7)) nt
      refine ⟨a1, ps ++ [t], rs ++ [e], a2, by rw [List.length_append, lrs]; rfl, ?_, ?_, fun r hr => ?_⟩
      · rw [take_succ hi, List.map_append]
        exact a3
      · rw [List.nodup_append]
        refine ⟨nrs, by simp, fun a ha b hb z => ?_⟩
        rw [List.mem_singleton.mp hb] at z
        have := (hrs a ha).2.2
        rw [z, ne] at this
        cases this
      · rcases List.mem_append.mp hr with hr | hr
        · obtain ⟨b1, b2, b3⟩ := hrs r hr
          exact ⟨b1, b2, by rw [upd_ne b2, upd_ne (ne_of_none (se _ _ b3) nt)]; exact se _ _ b3⟩
        · rw [List.mem_singleton.mp hr]
          exact ⟨sm.free ne, eD, by rw [upd_ne eD, upd_ne et, upd_same]⟩
    obtain ⟨s7, ps3, rs, hD3, lrs, hp3, nrs, hrs⟩ := hP
    rw [lenz] at lrs
    rw [lenz, full] at hp3
    refine ⟨D3, ps3, _, rfl, .inl (.inl hD3), hp3, fun dn ndn => ?_⟩
    rw [merge_new nd]
    have s8 := s7.trans (same_upd (o := .dK (dct zs (List.map V.ref rs))) ndn)
    have s28 := s26.trans s8
    refine ⟨s28 _ _ hm2, dct keysM [.ref lo, .ref dg, .ref df, .ref dn], rfl, by show 4 ≤ 15; decide, ?_⟩
    rw [merge_new keysM_nd]
    have hm8 : upd H7 dn (.dK (dct zs (List.map V.ref rs))) m = some (.dK []) := s28 _ _ hm2
    generalize hH8 : upd H7 dn (.dK (dct zs (List.map V.ref rs))) = H8 at s8 s28 hm8
    have hn8 : H8 dn = some (.dK (dct zs (List.map V.ref rs))) := by
      rw [← hH8, upd_same]
    have nH2 : ∀ {b : Addr}, H2 b = none → H b = none := fun {b} h => s2.free h
    have mne : ∀ {b : Addr}, H2 b = none → b ≠ m := fun {b} h => (ne_of_none hm2 h).symm
    have sM : ∀ b o, b ≠ m → H8 b = some o → upd H8 m (.dK (MdA.main ⟨m, lo, dg, df, dn, rs⟩)) b = some o := fun b o n e => by
      rw [upd_ne n]
      exact e
    have dn2 : H2 dn = none := s26.free (s7.free ndn)
    have df2 : H2 df = none := s4.free ndfH
    have rs2 : ∀ r ∈ rs, H2 r = none := fun r hr => s26.free (hrs r hr).1
    have lom : lo ≠ m := fun z => by
      rw [z, hm2] at hl2
      cases hl2
    refine q ⟨m, lo, dg, df, dn, rs⟩ (upd H8 m (.dK (MdA.main ⟨m, lo, dg, df, dn, rs⟩))) (fun b o e => ?_) (fun b hb => ?_) ?_
    · rw [upd_ne (ne_of_none e nm)]
      exact s28 _ _ (s2 _ _ e)
    · rcases hb with h | h | h | h | h | h
      · rw [h]; exact nm
      · rw [h]; exact nloH
      · rw [h]; exact nH2 ndgH
      · rw [h]; exact nH2 df2
      · rw [h]; exact nH2 dn2
      · exact nH2 (rs2 b h)
    · refine ⟨upd_same, sM _ _ lom (s28 _ _ hl2), sM _ _ (mne ndgH) (s8 _ _ (s6 _ _ hg4)), sM _ _ (mne df2) (s8 _ _ hf6), sM _ _ (mne dn2) hn8, fun i r l e1 e2 => ?_, nrs, fun hc => ?_, fun z => ?_, fun z => ?_, mne ndgH, (mne dn2).symm, nd, ?_, ?_, ?_, lrs⟩
      · have hr := List.mem_of_getElem? e1
        have el : l = [] := by
          have e2' : (List.replicate zs.length ([] : List (Str × Int)))[i]? = some l := e2
          rw [List.getElem?_replicate] at e2'
          split at e2'
          · exact (Option.some.inj e2').symm
          · cases e2'
        subst el
        refine ⟨[], sM _ _ (mne (rs2 r hr)) ?_, .nil⟩
        rw [← hH8, upd_ne (ne_of_none (hrs r hr).2.2 ndn)]
        exact (hrs r hr).2.2
      · have := rs2 lo hc
        rw [hl2] at this
        cases this
      · have z' : dg = df := z
        rw [← z', hg4] at ndfH
        cases ndfH
      · have z' : dg = dn := z
        have := s7.free ndn
        rw [← z', s6 _ _ hg4] at this
        cases this
      · unfold newMd zeros
        exact List.length_replicate
      · unfold newMd zeros
        exact List.length_replicate
      · unfold newMd
        exact List.length_replicate
end
end Rc

namespace Rc
open PySem PySem.Spec PyProof.Rows L2 RZ
theorem dget_at {H : Hp} {a : Addr} {zs : List Str} {vs : List V} {j : Nat} {z : Str} {v : V} (h : H a = some (.dK (dct zs vs))) (nd : zs.Nodup) (e1 : zs[j]? = some z) (e2 : vs[j]? = some v) : DGet H a (.str z) (some v) := by
  have := DGet.k (k := Sum.inr z) h
  rw [dct_val nd e1 e2] at this
  exact this
section
variable {K : PySem.W.Frag} {H : Hp} {zs : List Str} {a : MdA} {D : Md}
theorem ModelAt.g0 (h : ModelAt K H zs a D) : DGet H a.m (.str "order") (some (.ref a.lo)) := dget_at (j := 0) h.hm keysM_nd rfl rfl
theorem ModelAt.g1 (h : ModelAt K H zs a D) : DGet H a.m (.str "given") (some (.ref a.dg)) := dget_at (j := 1) h.hm keysM_nd rfl rfl
theorem ModelAt.g2 (h : ModelAt K H zs a D) : DGet H a.m (.str "fallen") (some (.ref a.df)) := dget_at (j := 2) h.hm keysM_nd rfl rfl
theorem ModelAt.g3 (h : ModelAt K H zs a D) : DGet H a.m (.str "notes") (some (.ref a.dn)) := dget_at (j := 3) h.hm keysM_nd rfl rfl
theorem ModelAt.gg (h : ModelAt K H zs a D) {j : Nat} {z : Str} {n : Int} (e : zs[j]? = some z) (e2 : D.given[j]? = some n) : DGet H a.dg (.str z) (some (.int n)) := dget_at h.hg h.zn e (map_get e2)
theorem ModelAt.gf (h : ModelAt K H zs a D) {j : Nat} {z : Str} {n : Int} (e : zs[j]? = some z) (e2 : D.fallen[j]? = some n) : DGet H a.df (.str z) (some (.int n)) := dget_at h.hf h.zn e (map_get e2)
theorem ModelAt.gn (h : ModelAt K H zs a D) {j : Nat} {z : Str} {r : Addr} (e : zs[j]? = some z) (e2 : a.rs[j]? = some r) : DGet H a.dn (.str z) (some (.ref r)) := dget_at h.hn h.zn e (map_get e2)
theorem ModelAt.at_ (h : ModelAt K H zs a D) {j : Nat} {z : Str} (e : zs[j]? = some z) : ∃ g f l r xs, D.given[j]? = some g ∧ D.fallen[j]? = some f ∧ D.notes[j]? = some l ∧ a.rs[j]? = some r ∧ H r = some (.lst xs) ∧ DtAll K H xs (notesD l) := by
  have hj : j < zs.length := (List.getElem?_eq_some_iff.mp e).1
  have h1 : j < D.given.length := by rw [h.lg]; exact hj
  have h2 : j < D.fallen.length := by rw [h.lf]; exact hj
  have h3 : j < D.notes.length := by rw [h.ln]; exact hj
  have h4 : j < a.rs.length := by rw [h.lr]; exact hj
  obtain ⟨xs, e1, e2⟩ := h.rows j _ _ (List.getElem?_eq_getElem h4) (List.getElem?_eq_getElem h3)
  exact ⟨_, _, _, _, xs, List.getElem?_eq_getElem h1, List.getElem?_eq_getElem h2, List.getElem?_eq_getElem h3, List.getElem?_eq_getElem h4, e1, e2⟩
end
theorem min_part (am f : Int) : (if am < f then am else f) = partOf am f := by
  unfold partOf
  split <;> split <;> omega
section
variable {P : Program} {w : World} {K : PySem.W.Frag} {mg : Str → Option Value} {base : Heap}
/-! ### _law_parted -/
abbrev sLPt : Stmt := topS 43
abbrev nLPt : List Str := ["_law_model_here", "_law_owner", "_law_gone", "_law_left_here", "_law_rest", "_law_goal", "_law_coins", "_law_here"]
theorem scLPt : FnScope nLPt ["_law_model_here", "_law_owner"] (defScope sLPt) := ⟨rfl, rfl, rfl, by decide +kernel, rfl, by decide +kernel, by decide +kernel⟩
def spLPt (K : PySem.W.Frag) : Sp := fun vs H Q _ => ∃ (a : MdA) (D : Md) (zs : List Str) (z : Str) (j : Nat) (l : List (Str × Int)) (f : Int), vs = [.ref a.m, .str z] ∧ ModelAt K H zs a D ∧ zs[j]? = some z ∧ D.notes[j]? = some l ∧ D.fallen[j]? = some f ∧ l.length ≤ 100 ∧
  ∀ t g m gx mx H', Same H H' → H' t = some (.tup [.ref g, .ref m]) → H g = none → H m = none → H' g = some (.lst gx) → H' m = some (.lst mx) → DtAll K H' gx (notesD (goneN l f)) → DtAll K H' mx (notesD (leftN l f)) → Q (.ref t) H'
theorem rep_if {v : V} (c : Prop) [Decidable c] : (List.replicate (if decide c = true then (1 : Int) else 0).toNat [v]).flatten = if c then [v] else [] := by
  by_cases h : c
  · rw [decide_eq_true h, if_pos h]
    rfl
  · rw [decide_eq_false h, if_neg h]
    rfl
theorem one_note {K : PySem.W.Frag} {H : Hp} {v : V} {n : Str × Int} (c : Prop) [Decidable c] (h : Dt K H v (noteD n)) : DtAll K H (if c then [v] else []) ((if c then [n] else []).map noteD) := by
  by_cases hc : c
  · rw [if_pos hc, if_pos hc]
    exact .cons h .nil
  · rw [if_neg hc, if_neg hc]
    exact .nil
theorem ok_lpt {f : Addr} {fd : FuncData} (F : Fun K "_law_parted" "_law_parted" sLPt f fd) (B : Blt mg) (B2 : Blt2 mg) : FnOk P w K mg base CX0 1 f fd ["_law_model_here", "_law_owner"] (spLPt K) := by
  refine F.ok scLPt (fun vs H Q E h => ?_) (fun cdv Ar outer s H vs Q E hr h => ?_)
  · obtain ⟨_, _, _, _, _, _, _, rfl, _⟩ := h
    rfl
  · obtain ⟨a, D, zs, z, j, l, f0, rfl, hM, ej, el, ef, ll, q⟩ := h
    have hu := hu_of hr
    refine ⟨_, pss_cons (ps_par (i := 2) (j := 3) rfl scLPt.nd rfl rfl (by decide) rfl rfl (pa_cons (pe_lst pa_nil) (pa_cons (pe_lst pa_nil) pa_nil)) (by rfl))
      (pss_cons (ps_set (i := 4) scLPt.nd rfl (.inl rfl) (pe_dget hu (pe_dget hu (pv 0) pe_str (fun _ _ => rfl)) (pv 1) (fun _ _ => rfl)))
      (pss_cons (ps_for PassesOwn.never rfl (pi_list (pe_dget hu (pe_dget hu (pv 0) pe_str (fun _ _ => rfl)) (pv 1) (fun _ _ => rfl))) (pg_tup rfl (pgs_cons (pg_name (i := 5) scLPt.nd rfl (.inl rfl)) (pgs_cons (pg_name (i := 6) scLPt.nd rfl (.inl rfl)) pgs_nil)))
        (pss_cons (ps_set (i := 7) scLPt.nd rfl (.inl rfl) (pe_callB (call_min2 rfl) (by rfl) B2.min (by decide +kernel) (pa_cons (pv 4) (pa_cons (pv 6) pa_nil))))
        (pss_cons (ps_set (i := 4) scLPt.nd rfl (.inl rfl) (pe_op op_sub (pv 4) (pv 7)))
        (pss_cons (ps_set (i := 2) scLPt.nd rfl (.inl rfl) (pe_op op_cat (pv 2) (pe_op op_rep (pe_lst (pa_cons (pe_tup (pa_cons (pv 5) (pa_cons (pv 7) pa_nil))) pa_nil)) (pe_callTy call_int1 (by rfl) B.int (by decide +kernel) (pa_cons (pe_cmpR op_gt (pv 7) pe_int (nomark _)) pa_nil)))))
        (pss_one (ps_set (i := 3) scLPt.nd rfl (.inl rfl) (pe_op op_cat (pv 3) (pe_op op_rep (pe_lst (pa_cons (pe_tup (pa_cons (pv 5) (pa_cons (pe_op op_sub (pv 6) (pv 7)) pa_nil))) pa_nil)) (pe_callTy call_int1 (by rfl) B.int (by decide +kernel) (pa_cons (pe_cmpR op_lt (pv 7) (pv 6) (nomark _)) pa_nil))))))))))
      (pss_one (ps_ret (pe_tup (pa_cons (pv 2) (pa_cons (pv 3) pa_nil))))))), ?_⟩
    obtain ⟨gv, f', l', r, xs, eg, ef', el', er, hr0, hd0⟩ := hM.at_ ej
    rw [ef] at ef'
    cases ef'
    rw [el] at el'
    cases el'
    refine ⟨Nat.zero_le _, fun g ng => ⟨Nat.zero_le _, fun m nm => ⟨_, _, rfl, ?_⟩⟩⟩
    have gm : g ≠ m := fun z => by
      rw [← z, upd_same] at nm
      cases nm
    have s0 : Same H (upd (upd H g (.lst [])) m (.lst [])) := (same_upd ng).trans (same_upd nm)
    have nmH : H m = none := (same_upd ng).free nm
    have hM0 := model_same hM s0
    refine ⟨.ref a.m, rfl, a.m, .ref a.df, rfl, hM0.g2, .str z, rfl, a.df, .int f0, rfl, hM0.gf ej ef, ?_⟩
    refine ⟨.ref a.m, rfl, a.m, .ref a.dn, rfl, hM0.g3, .str z, rfl, a.dn, .ref r, rfl, hM0.gn ej er, r, rfl, ⟨_, .inl (.inl (s0 _ _ hr0))⟩, ?_⟩
    refine for_it (walk_list (K := K) (a := r) (xs := xs)) (fun i σ H' => ∃ y5 y6 y7 fi g m gx mx Gs Ms, σ = [some (.ref a.m), some (.str z), some (.ref g), some (.ref m), some (.int fi), y5, y6, y7] ∧ Same H H' ∧ H g = none ∧ H m = none ∧ H' g = some (.lst gx) ∧ H' m = some (.lst mx) ∧
        DtAll K H' gx (notesD Gs) ∧ DtAll K H' mx (notesD Ms) ∧ Gs.length ≤ i ∧ Ms.length ≤ i ∧ Gs ++ goneN (l.drop i) fi = goneN l f0 ∧ Ms ++ leftN (l.drop i) fi = leftN l f0)
      ⟨_, _, _, f0, g, m, [], [], [], [], rfl, s0, ng, nmH, by rw [upd_ne gm, upd_same], upd_same, .nil, .nil, Nat.le_refl _, Nat.le_refl _, rfl, rfl⟩ (fun i σ H' _ hP => ?_) (fun i x σ H1' H1 hi hP hY => ?_) (fun σ H' hP => ?_)
    · obtain ⟨_, _, _, _, _, _, _, _, _, _, _, s1, _⟩ := hP
      exact .inl (.inl (s1 _ _ hr0))
    · obtain ⟨rfl, ex⟩ := hY
      obtain ⟨y5, y6, y7, fi, g, m, gx, mx, Gs, Ms, rfl, s1, ng, nm, hg, hm, dg, dm, lg, lm, eg', em⟩ := hP
      obtain ⟨hil, dn⟩ := (DtAll.same s1 _ hd0).notes_get ex
      obtain ⟨ta, rfl, qt⟩ := note_inv dn
      have ed : l.drop i = l[i] :: l.drop (i + 1) := List.drop_eq_getElem_cons hil
      rw [ed] at eg' em
      obtain ⟨t, am, el1⟩ : ∃ t am, l[i] = (t, am) := ⟨_, _, rfl⟩
      rw [el1] at eg' em qt
      rw [goneN_cons] at eg'
      rw [leftN_cons] at em
      have dgl := dg.len
      have dml := dm.len
      unfold notesD at dgl dml
      rw [List.length_map] at dgl dml
      refine ⟨ta, _, rfl, qt, rfl, _, _, rfl, _, _, rfl, rfl, ?_⟩
      refine ⟨.int fi, rfl, .int am, rfl, _, _, rfl, ?_⟩
      rw [min_part]
      generalize partOf am fi = pt at eg' em
      refine ⟨.int fi, rfl, .int pt, rfl, _, _, rfl, rfl, ?_⟩
      refine ⟨.ref g, rfl, .str t, rfl, .int pt, rfl, by show 2 ≤ sizeLine; decide, fun t1 n1 => ⟨by show 1 ≤ sizeLine; decide, fun l1 nl1 => ?_⟩⟩
      refine ⟨.int pt, rfl, _, _, rfl, rfl, .inr ⟨_, rfl, l1, _, _, rfl, rfl, upd_same, by split <;> decide, by split <;> decide, ?_, fun l2 nl2 => ?_⟩⟩
      · show 1 * _ ≤ sizeLine
        split <;> decide
      rw [rep_if]
      have sA := (same_upd (o := .tup [V.str t, V.int pt]) n1).trans ((same_upd (o := .lst [V.ref t1]) nl1).trans (same_upd (o := .lst (if 0 < pt then [V.ref t1] else [])) nl2))
      generalize hHA : upd (upd (upd H1 t1 (.tup [V.str t, V.int pt])) l1 (.lst [V.ref t1])) l2 (.lst (if 0 < pt then [V.ref t1] else [])) = HA at sA
      have hl2 : HA l2 = some (.lst (if 0 < pt then [V.ref t1] else [])) := by
        rw [← hHA, upd_same]
      have ht1 : HA t1 = some (.tup [V.str t, V.int pt]) := by
        rw [← hHA]
        exact (same_upd nl2) _ _ ((same_upd nl1) _ _ upd_same)
      refine ⟨g, l2, gx, _, rfl, rfl, sA _ _ hg, hl2, ?_, fun g2 ng2 => ?_⟩
      · have : (if 0 < pt then [V.ref t1] else []).length ≤ 1 := by split <;> simp
        exact small_line (by omega)
      have sB := sA.trans (same_upd (o := .lst (gx ++ if 0 < pt then [V.ref t1] else [])) ng2)
      generalize hHB : upd HA g2 (.lst (gx ++ if 0 < pt then [V.ref t1] else [])) = HB at sB
      have hg2 : HB g2 = some (.lst (gx ++ if 0 < pt then [V.ref t1] else [])) := by
        rw [← hHB, upd_same]
      have ht1B : HB t1 = some (.tup [V.str t, V.int pt]) := by
        rw [← hHB]
        exact same_upd ng2 _ _ ht1
      have ng2H : H g2 = none := (s1.trans sA).free ng2
      -- left
      refine ⟨.ref m, rfl, .str t, rfl, .int am, rfl, .int pt, rfl, _, _, rfl, rfl, by show 2 ≤ sizeLine; decide, fun t3 n3 => ⟨by show 1 ≤ sizeLine; decide, fun l3 nl3 => ?_⟩⟩
      refine ⟨.int pt, rfl, .int am, rfl, _, _, rfl, rfl, .inr ⟨_, rfl, l3, _, _, rfl, rfl, upd_same, by split <;> decide, by split <;> decide, ?_, fun l4 nl4 => ?_⟩⟩
      · show 1 * _ ≤ sizeLine
        split <;> decide
      rw [rep_if]
      have sC := (same_upd (o := .tup [V.str t, V.int (am - pt)]) n3).trans ((same_upd (o := .lst [V.ref t3]) nl3).trans (same_upd (o := .lst (if pt < am then [V.ref t3] else [])) nl4))
      generalize hHC : upd (upd (upd HB t3 (.tup [V.str t, V.int (am - pt)])) l3 (.lst [V.ref t3])) l4 (.lst (if pt < am then [V.ref t3] else [])) = HC at sC
      have hl4 : HC l4 = some (.lst (if pt < am then [V.ref t3] else [])) := by
        rw [← hHC, upd_same]
      have ht3 : HC t3 = some (.tup [V.str t, V.int (am - pt)]) := by
        rw [← hHC]
        exact (same_upd nl4) _ _ ((same_upd nl3) _ _ upd_same)
      refine ⟨m, l4, mx, _, rfl, rfl, sC _ _ (sB _ _ hm), hl4, ?_, fun m2 nm2 => ?_⟩
      · have : (if pt < am then [V.ref t3] else []).length ≤ 1 := by split <;> simp
        exact small_line (by omega)
      have sD := sC.trans (same_upd (o := .lst (mx ++ if pt < am then [V.ref t3] else [])) nm2)
      have sE := same_upd (o := .lst (mx ++ if pt < am then [V.ref t3] else [])) nm2
      refine ⟨_, _, _, fi - pt, g2, m2, _, _, Gs ++ (if 0 < pt then [(t, pt)] else []), Ms ++ (if pt < am then [(t, am - pt)] else []), rfl, s1.trans (sB.trans sD), ng2H, ((s1.trans sB).trans sC).free nm2, sD _ _ hg2, upd_same, ?_, ?_, ?_, ?_, by rw [List.append_assoc]; exact eg', by rw [List.append_assoc]; exact em⟩
      · unfold notesD
        rw [List.map_append]
        exact (DtAll.same (sB.trans sD) _ dg).append (one_note _ (.tup (.inl (.inl (sD _ _ ht1B))) (.cons (.str _) (.cons (.int _) .nil))))
      · unfold notesD
        rw [List.map_append]
        exact (DtAll.same (sB.trans sD) _ dm).append (one_note _ (.tup (.inl (.inl (sE _ _ ht3))) (.cons (.str _) (.cons (.int _) .nil))))
      · rw [List.length_append]
        have : (if 0 < pt then [(t, pt)] else []).length ≤ 1 := by split <;> simp
        omega
      · rw [List.length_append]
        have : (if pt < am then [(t, am - pt)] else []).length ≤ 1 := by split <;> simp
        omega
    · obtain ⟨y5, y6, y7, fi, g, m, gx, mx, Gs, Ms, rfl, s1, ng, nm, hg, hm, dg, dm, lg, lm, eg', em⟩ := hP
      have hx : l.drop xs.length = [] := List.drop_of_length_le (by
        have := hd0.len
        unfold notesD at this
        rw [List.length_map] at this
        omega)
      rw [hx] at eg' em
      rw [goneN_nil, List.append_nil] at eg'
      rw [leftN_nil, List.append_nil] at em
      subst eg' em
      refine ⟨.ref g, rfl, .ref m, rfl, by show 2 ≤ sizeLine; decide, fun t nt => ?_⟩
      have st := same_upd (o := .tup [.ref g, .ref m]) nt
      exact q t g m gx mx _ (s1.trans st) upd_same ng nm (st _ _ hg) (st _ _ hm) (DtAll.same st _ dg) (DtAll.same st _ dm)
end
end Rc

namespace Rc
open PySem PySem.Spec PyProof.Rows L2 RZ
/-! ### _law_deeds -/
inductive Deed where
  | give (z : Str) (n : Int)
  | put (z y : Str) (n : Int)
def deedD : Deed → PyData
  | .give z n => .tuple [.str "give", .str z, .int n]
  | .put z y n => .tuple [.str "put", .str z, .str y, .int n]
theorem tup_deed (d : Deed) : tupD (deedD d) = true := by cases d <;> simp [deedD, tupD, tupDs]
def deedsD (l : List Deed) : List PyData := l.map deedD
theorem tup_deeds (l : List Deed) : tupDs (deedsD l) = true := tupDs_map tup_deed l
def Deed.Ok (zs : List Str) : Deed → Prop
  | .give z n => z ∈ zs ∧ Amt n
  | .put z y n => z ∈ zs ∧ y ∈ zs ∧ Amt n
end Rc

namespace Rc
open PySem PySem.Spec PyProof.Rows L2 RZ
def RowsOk (D : Md) : Prop := ∀ l ∈ D.notes, l.length ≤ 60
def sumsD (D : Md) (z : Str) : Int := ((D.notes.zip D.fallen).map fun p => sumTo z (goneN p.1 p.2)).sum
def cashD (D : Md) (j : Nat) (z : Str) : Int := D.given.getD j 0 - D.fallen.getD j 0 + sumsD D z
def bkOf (zs : List Str) (D : Md) : Bk := ⟨zs, D.given, D.notes, D.fallen⟩
theorem cash_eq (zs : List Str) (D : Md) (j : Nat) (z : Str) : cashM (bkOf zs D) j z = cashD D j z := by
  show D.given.getD j 0 + sumsD D z - D.fallen.getD j 0 = D.given.getD j 0 - D.fallen.getD j 0 + sumsD D z
  omega
def doneD (zs : List Str) (D : Md) : Deed → Md
  | .give z n => { D with given := D.given.set (zs.idxOf z) (D.given.getD (zs.idxOf z) 0 + n) }
  | .put z y n => { D with notes := D.notes.set (zs.idxOf z) (D.notes.getD (zs.idxOf z) [] ++ [(y, n)]) }
def stepM (M : Bk) : Deed → Bk
  | .give z n => giveM M (M.names.idxOf z) n
  | .put z y n => putM M (M.names.idxOf z) y n
theorem step_eq (zs : List Str) (D : Md) (d : Deed) : stepM (bkOf zs D) d = bkOf zs (doneD zs D d) := by cases d <;> rfl
theorem idx_get {zs : List Str} {z : Str} (h : z ∈ zs) : zs[zs.idxOf z]? = some z := by
  have hl := List.idxOf_lt_length_of_mem h
  rw [List.getElem?_eq_getElem hl, List.getElem_idxOf]
theorem sum_set : ∀ (l : List (List (Str × Int))) (j : Nat) (x : List (Str × Int)), j < l.length → ((l.set j x).map List.length).sum + (l.getD j []).length = (l.map List.length).sum + x.length
  | [], j, x, h => by simp at h
  | a :: r, 0, x, h => by
    simp only [List.set_cons_zero, List.map_cons, List.sum_cons, List.getD_cons_zero]
    omega
  | a :: r, j + 1, x, h => by
    have := sum_set r j x (by simpa using h)
    simp only [List.set_cons_succ, List.map_cons, List.sum_cons, List.getD_cons_succ]
    omega
theorem step_ok {M : Bk} (ok : M.Ok) {d : Deed} (hd : d.Ok M.names) (hm : manyM M + 1 ≤ 60) : (stepM M d).Ok ∧ manyM (stepM M d) ≤ manyM M + 1 ∧ (stepM M d).names = M.names := by
  cases d with
  | give z n => exact ⟨⟨ok.n0, ok.n1, ok.nd, ok.nm, by show (M.gifts.set _ _).length = _; rw [List.length_set]; exact ok.lg, ok.ls, ok.ld, ok.many⟩, Nat.le_succ _, rfl⟩
  | put z y n =>
    have hj : M.names.idxOf z < M.stacks.length := by
      rw [ok.ls]
      exact List.idxOf_lt_length_of_mem hd.1
    have e : manyM (stepM M (.put z y n)) = manyM M + 1 := by
      have := sum_set M.stacks (M.names.idxOf z) (M.stacks.getD (M.names.idxOf z) [] ++ [(y, n)]) hj
      rw [List.length_append] at this
      show ((M.stacks.set _ _).map List.length).sum = (M.stacks.map List.length).sum + 1
      have e1 : [(y, n)].length = 1 := rfl
      omega
    exact ⟨⟨ok.n0, ok.n1, ok.nd, ok.nm, ok.lg, by show (M.stacks.set _ _).length = _; rw [List.length_set]; exact ok.ls, ok.ld, by show manyM (stepM M (.put z y n)) ≤ 60; omega⟩, Nat.le_of_eq e, rfl⟩
theorem dfold_ok : ∀ (ds : List Deed) {M : Bk}, M.Ok → (∀ d ∈ ds, d.Ok M.names) → manyM M + ds.length ≤ 60 → (ds.foldl stepM M).Ok ∧ manyM (ds.foldl stepM M) ≤ manyM M + ds.length ∧ (ds.foldl stepM M).names = M.names
  | [], M, ok, _, _ => ⟨ok, Nat.le_refl _, rfl⟩
  | d :: ds, M, ok, h, hm => by
    rw [List.length_cons] at hm
    obtain ⟨a1, a2, a3⟩ := step_ok ok (h d List.mem_cons_self) (by omega)
    obtain ⟨b1, b2, b3⟩ := dfold_ok ds a1 (fun e he => by rw [a3]; exact h e (List.mem_cons_of_mem _ he)) (by omega)
    refine ⟨b1, ?_, b3.trans a3⟩
    rw [List.length_cons]
    show manyM (ds.foldl stepM (stepM M d)) ≤ _
    omega
end Rc

namespace Rc
open PySem PySem.Spec PyProof.Rows L2 RZ
section
variable {P : Program} {w : World} {K : PySem.W.Frag} {mg : Str → Option Value} {base : Heap}
/-! ### _law_left -/
abbrev sLLf : Stmt := topS 44
theorem scLLf : FnScope ["_law_model_here", "_law_owner"] ["_law_model_here", "_law_owner"] (defScope sLLf) := ⟨rfl, rfl, rfl, by decide +kernel, rfl, by decide +kernel, by decide +kernel⟩
def spLLf (K : PySem.W.Frag) : Sp := fun vs H Q _ => ∃ (a : MdA) (D : Md) (zs : List Str) (z : Str) (j : Nat) (l : List (Str × Int)) (f : Int), vs = [.ref a.m, .str z] ∧ ModelAt K H zs a D ∧ zs[j]? = some z ∧ D.notes[j]? = some l ∧ D.fallen[j]? = some f ∧ l.length ≤ 100 ∧
  ∀ m mx H', Same H H' → H m = none → H' m = some (.lst mx) → DtAll K H' mx (notesD (leftN l f)) → Q (.ref m) H'
theorem ok_llf {f fp : Addr} {fd fdp : FuncData} (F : Fun K "_law_left" "_law_left" sLLf f fd) (PT : Has P w K mg base 1 "_law_parted" ["_law_model_here", "_law_owner"] (spLPt K) fp fdp) : FnOk P w K mg base CX0 2 f fd ["_law_model_here", "_law_owner"] (spLLf K) := by
  refine F.ok scLLf (fun vs H Q E h => ?_) (fun cdv Ar outer s H vs Q E hr h => ?_)
  · obtain ⟨_, _, _, _, _, _, _, rfl, _⟩ := h
    rfl
  · obtain ⟨a, D, zs, z, j, l, f0, rfl, hM, ej, el, ef, ll, q⟩ := h
    refine ⟨_, pss_one (ps_ret (pe_ix ix_tup (pe_call PT.ok hr (by rfl) PT.g PT.kp PT.b .nil pass0 (pa_cons (pv 0) (pa_cons (pv 1) pa_nil))) pe_int (fun _ _ => rfl))), ?_⟩
    refine ⟨.ref a.m, rfl, .str z, rfl, a, D, zs, z, j, l, f0, rfl, hM, ej, el, ef, ll, fun t g m gx mx H1 s1 ht ng nm hg hm dg dm => ?_⟩
    exact ⟨t, _, 1, .ref m, rfl, rfl, .inl (.inl ht), rfl, q m mx H1 s1 nm hm dm⟩
end
end Rc

namespace Rc
open PySem PySem.Spec PyProof.Rows L2 RZ
theorem give_ne_put : ¬ (V.str ("put" : Str)) = V.str ("give" : Str) := fun e => absurd (V.str.inj e) (by decide +kernel)
/-- what a deed changes -/
def MdA.Foot (a : MdA) (b : Addr) : Prop := b = a.dg ∨ b ∈ a.rs
def ButF (a : MdA) (H H' : Hp) : Prop := ∀ b o, ¬ a.Foot b → H b = some o → H' b = some o
theorem ModelAt.nofoot_tup {K : PySem.W.Frag} {H : Hp} {zs : List Str} {a : MdA} {D : Md} (h : ModelAt K H zs a D) {b : Addr} {o : HO} (e : H b = some o) (t : TupO o) : ¬ a.Foot b := fun f => by
  rcases f with f | f
  · rw [f, h.hg] at e
    cases e
    exact t
  · obtain ⟨i, hi, e'⟩ := List.getElem_of_mem f
    have hn : i < D.notes.length := by
      rw [h.ln, ← h.lr]
      exact hi
    obtain ⟨xs, e1, _⟩ := h.rows i b _ (by rw [List.getElem?_eq_getElem hi, e']) (List.getElem?_eq_getElem hn)
    rw [e1] at e
    cases e
    exact t
theorem ButF.kt {K : PySem.W.Frag} {H H' : Hp} {zs : List Str} {a : MdA} {D : Md} (b : ButF a H H') (h : ModelAt K H zs a D) : KT H H' := fun c o e t => b c o (h.nofoot_tup e t) e
theorem ButF.kp {K : PySem.W.Frag} {H H' : Hp} {zs : List Str} {a : MdA} {D : Md} (b : ButF a H H') (h : ModelAt K H zs a D) : Kp H H' := fun c o e t => b c o (fun f => by
  rcases f with f | f
  · rw [f, h.hg] at e
    cases e
    exact t
  · obtain ⟨i, hi, e'⟩ := List.getElem_of_mem f
    have hn : i < D.notes.length := by
      rw [h.ln, ← h.lr]
      exact hi
    obtain ⟨xs, e1, _⟩ := h.rows i c _ (by rw [List.getElem?_eq_getElem hi, e']) (List.getElem?_eq_getElem hn)
    rw [e1] at e
    cases e
    exact t) e
theorem deed_give {K : PySem.W.Frag} {H : Hp} {v : V} {z : Str} {n : Int} (h : Dt K H v (deedD (.give z n))) : Dt K H v (.tuple [.str "give", .str z, .int n]) := h
end Rc

namespace Rc
open PySem PySem.Spec PyProof.Rows L2 RZ
/-! ### data that can be shown -/
structure NiceD (d : PyData) (n : Nat) : Prop where
  sh : d.showable = true
  lv : d.leavesShort 1921 = true
  nd : d.hasDict = false
  dp : d.depth ≤ 5
  bk : d.bulk ≤ n
  cl : d.canLay0 = true
structure NiceA (ds : List PyData) (n : Nat) : Prop where
  sh : PyData.showableAll ds = true
  lv : PyData.leavesShortAll 1921 ds = true
  nd : PyData.hasDictAll ds = false
  dp : PyData.depthAll ds ≤ 4
  bk : PyData.bulkAll ds ≤ n
  cl : PyData.canLayAll0 ds = true
theorem NiceA.nil : NiceA [] 0 := ⟨rfl, rfl, rfl, Nat.zero_le _, Nat.le_refl _, rfl⟩
theorem NiceA.cons {d : PyData} {ds : List PyData} {n m : Nat} (a : NiceD d n) (hd : d.depth ≤ 4) (b : NiceA ds m) : NiceA (d :: ds) (n + 1 + m) := by
  refine ⟨?_, ?_, ?_, ?_, ?_, ?_⟩
  · simp only [PyData.showableAll, a.sh, b.sh, Bool.and_self]
  · simp only [PyData.leavesShortAll, a.lv, b.lv, Bool.and_self]
  · simp only [PyData.hasDictAll, a.nd, b.nd, Bool.or_self]
  · simp only [PyData.depthAll]
    have := b.dp
    omega
  · simp only [PyData.bulkAll]
    have := a.bk
    have := b.bk
    omega
  · simp only [PyData.canLayAll0, a.cl, b.cl, Bool.and_self]
theorem NiceA.list {ds : List PyData} {n : Nat} (a : NiceA ds n) : NiceD (.list ds) n := by
  refine ⟨by simpa only [PyData.showable] using a.sh, by simpa only [PyData.leavesShort] using a.lv, by simpa only [PyData.hasDict] using a.nd, ?_, by simpa only [PyData.bulk] using a.bk, by simpa only [PyData.canLay0] using a.cl⟩
  simp only [PyData.depth]
  have := a.dp
  omega
theorem NiceA.tuple {ds : List PyData} {n : Nat} (a : NiceA ds n) : NiceD (.tuple ds) n := by
  refine ⟨by simpa only [PyData.showable] using a.sh, by simpa only [PyData.leavesShort] using a.lv, by simpa only [PyData.hasDict] using a.nd, ?_, by simpa only [PyData.bulk] using a.bk, by simpa only [PyData.canLay0] using a.cl⟩
  simp only [PyData.depth]
  have := a.dp
  omega
def BigOk (i : Int) : Prop := i.natAbs < 2 ^ 300
theorem nice_int {i : Int} (h : BigOk i) : NiceD (.int i) 0 := by
  have h1 : i.natAbs.log2 < 1920 := Nat.lt_trans (PySem.Flt.log2_lt_of (by decide) h) (by decide)
  refine ⟨?_, ?_, by simp only [PyData.hasDict], by simp only [PyData.depth]; omega, by simp only [PyData.bulk]; omega, by simp only [PyData.canLay0]⟩
  · simp only [PyData.showable]
    exact decide_eq_true h1
  · simp only [PyData.leavesShort, PyData.shown]
    exact decide_eq_true (int_text_len_1921 h1)
theorem abc_lt : ∀ c ∈ abc, c < 128 := by decide +kernel
theorem name_signs {z : Str} (h : nameT z = true) : ∀ c ∈ z.cps.toList, c ∈ abc := by
  unfold nameT at h
  simp only [Bool.and_eq_true, List.all_eq_true, decide_eq_true_eq] at h
  exact h.2
theorem nice_name {z : Str} (h : nameT z = true) : NiceD (.str z) 8 := by
  have hs := name_signs h
  refine ⟨by simp only [PyData.showable], ?_, by simp only [PyData.hasDict], by simp only [PyData.depth]; omega, ?_, ?_⟩
  · simp only [PyData.leavesShort, List.all_eq_true, decide_eq_true_eq]
    exact fun c hc => Nat.lt_trans (abc_lt c (hs c hc)) (by decide)
  · simp only [PyData.bulk]
    exact (nameT_len h).2
  · simp only [PyData.canLay0]
    show z.cps.all (fun c => decide (c < 0x110000)) = true
    rw [← Array.all_toList, List.all_eq_true]
    exact fun c hc => decide_eq_true (Nat.lt_trans (abc_lt c (hs c hc)) (by decide))
theorem nice_names : ∀ {zs : List Str}, (∀ z ∈ zs, nameT z = true) → NiceA (zs.map PyData.str) (9 * zs.length)
  | [], _ => NiceA.nil
  | z :: r, h => by
    have a := nice_name (h z List.mem_cons_self)
    have b := nice_names fun y hy => h y (List.mem_cons_of_mem _ hy)
    have c := NiceA.cons a (by simp only [PyData.depth]; omega) b
    rw [List.map_cons, List.length_cons]
    have e : 9 * (r.length + 1) = 8 + 1 + 9 * r.length := by omega
    rw [e]
    exact c
/-- notes as the law draws them -/
def NoteOk (zs : List Str) (n : Str × Int) : Prop := n.1 ∈ zs ∧ Amt n.2
theorem amt_big {n : Int} (h : Amt n) : BigOk n := by
  have h1 := h.1
  have h2 := h.2
  have e : (10 : Int) ^ 58 < 2 ^ 300 := by decide
  have e2 : ((2 ^ 300 : Nat) : Int) = 2 ^ 300 := by decide
  unfold BigOk
  omega
theorem nice_note {zs : List Str} (hz : ∀ z ∈ zs, nameT z = true) {n : Str × Int} (h : NoteOk zs n) : NiceD (noteD n) 10 ∧ (noteD n).depth ≤ 1 := by
  have a := NiceA.cons (nice_name (hz _ h.1)) (by simp only [PyData.depth]; omega) (NiceA.cons (nice_int (amt_big h.2)) (by simp only [PyData.depth]; omega) NiceA.nil)
  exact ⟨a.tuple, by simp [noteD, PyData.depth, PyData.depthAll]⟩
theorem nice_notes {zs : List Str} (hz : ∀ z ∈ zs, nameT z = true) : ∀ {l : List (Str × Int)}, (∀ n ∈ l, NoteOk zs n) → NiceA (notesD l) (11 * l.length)
  | [], _ => NiceA.nil
  | n :: r, h => by
    obtain ⟨a, hd⟩ := nice_note hz (h n List.mem_cons_self)
    have b := nice_notes hz fun y hy => h y (List.mem_cons_of_mem _ hy)
    have c := NiceA.cons a (by omega) b
    rw [List.length_cons]
    have e : 11 * (r.length + 1) = 10 + 1 + 11 * r.length := by omega
    rw [e]
    exact c
theorem nice_fits {d : PyData} {n : Nat} (h : NiceD d n) (hn : n ≤ 8000) : (∃ i, d = .int i) ∨ d.shown.length ≤ sizeLine := by
  have h1 := PyData.shown_le_bulk 1921 (by decide) d h.lv
  have h2 := h.bk
  refine .inr ?_
  rw [sizeLine_eq]
  have : (1921 + 2) * d.bulk ≤ 1923 * 8000 := Nat.mul_le_mul (Nat.le_refl _) (by omega)
  omega
theorem nice_shaped {d : PyData} {n : Nat} (h : NiceD d n) : SeqAt.shaped d = true := by
  unfold SeqAt.shaped
  rw [h.cl, decide_eq_true (show d.depth ≤ 64 by have := h.dp; omega)]
  rfl
/-! ### where nothing has fallen -/
theorem part_zero {a : Int} (h : 1 ≤ a) : partOf a 0 = 0 := by
  unfold partOf
  rw [if_pos (by omega)]
theorem gone_zero : ∀ {l : List (Str × Int)}, (∀ n ∈ l, 1 ≤ n.2) → goneN l 0 = []
  | [], _ => rfl
  | (t, a) :: r, h => by
    rw [goneN_cons, part_zero (h _ List.mem_cons_self), if_neg (by omega), Int.sub_zero, gone_zero fun n hn => h n (List.mem_cons_of_mem _ hn)]
    rfl
theorem left_zero : ∀ {l : List (Str × Int)}, (∀ n ∈ l, 1 ≤ n.2) → leftN l 0 = l
  | [], _ => rfl
  | (t, a) :: r, h => by
    have ha : 1 ≤ a := h _ List.mem_cons_self
    rw [leftN_cons, part_zero ha, if_pos (by omega), Int.sub_zero, Int.sub_zero, left_zero fun n hn => h n (List.mem_cons_of_mem _ hn)]
    rfl
/-- a model as the law makes it: nothing fallen, k deeds at the most -/
structure Gd (zs : List Str) (D : Md) (k : Nat) : Prop where
  zf : D.fallen = zeros zs.length
  nt : ∀ l ∈ D.notes, ∀ n ∈ l, NoteOk zs n
  gv : ∀ g ∈ D.given, 0 ≤ g ∧ g ≤ (k : Int) * 10 ^ 58
  my : (D.notes.map List.length).sum ≤ k
  k1 : k ≤ 60
theorem Gd.big {zs : List Str} {D : Md} {k : Nat} (h : Gd zs D k) {g : Int} (hg : g ∈ D.given) : BigOk g := by
  obtain ⟨a, b⟩ := h.gv g hg
  have k1 := h.k1
  have e : (60 : Int) * 10 ^ 58 < 2 ^ 300 := by decide
  have e2 : ((2 ^ 300 : Nat) : Int) = 2 ^ 300 := by decide
  have : (k : Int) * 10 ^ 58 ≤ 60 * 10 ^ 58 := Int.mul_le_mul_of_nonneg_right (by omega) (by decide)
  unfold BigOk
  omega
theorem Gd.rows {zs : List Str} {D : Md} {k : Nat} (h : Gd zs D k) : RowsOk D := fun l hl => by
  have := len_le_sum hl
  have := h.my
  have := h.k1
  omega
theorem Gd.sums {zs : List Str} {D : Md} {k : Nat} (h : Gd zs D k) (z : Str) : sumsD D z = 0 := by
  unfold sumsD
  have : ∀ p ∈ D.notes.zip D.fallen, sumTo z (goneN p.1 p.2) = 0 := fun p hp => by
    obtain ⟨h1, h2⟩ := List.of_mem_zip hp
    have e : p.2 = 0 := by
      rw [h.zf] at h2
      exact List.eq_of_mem_replicate h2
    rw [e, gone_zero fun n hn => (h.nt _ h1 n hn).2.1]
    rfl
  generalize D.notes.zip D.fallen = L at this
  induction L with
  | nil => rfl
  | cons a r ih =>
    rw [List.map_cons, List.sum_cons, this a List.mem_cons_self, ih fun p hp => this p (List.mem_cons_of_mem _ hp)]
    rfl
theorem Gd.done {zs : List Str} {D : Md} {k : Nat} (h : Gd zs D k) {d : Deed} (od : d.Ok zs) (hk : k + 1 ≤ 60) (ln : D.notes.length = zs.length) (lg : D.given.length = zs.length) : Gd zs (doneD zs D d) (k + 1) := by
  have mono : ∀ g ∈ D.given, 0 ≤ g ∧ g ≤ ((k + 1 : Nat) : Int) * 10 ^ 58 := fun g hg => by
    obtain ⟨a, b⟩ := h.gv g hg
    refine ⟨a, Int.le_trans b (Int.mul_le_mul_of_nonneg_right (by omega) (by decide))⟩
  cases d with
  | give z n =>
    refine ⟨h.zf, h.nt, fun g hg => ?_, Nat.le_succ_of_le h.my, hk⟩
    rcases List.mem_or_eq_of_mem_set hg with hg | hg
    · exact mono g hg
    · have hj : zs.idxOf z < D.given.length := by
        rw [lg]
        exact List.idxOf_lt_length_of_mem od.1
      obtain ⟨a, b⟩ := h.gv (D.given.getD (zs.idxOf z) 0) (by
        rw [List.getD_eq_getElem?_getD, List.getElem?_eq_getElem hj]
        exact List.getElem_mem hj)
      obtain ⟨n1, n2⟩ := od.2
      have e : ((k + 1 : Nat) : Int) * 10 ^ 58 = (k : Int) * 10 ^ 58 + 10 ^ 58 := by
        rw [Int.natCast_add, Int.add_mul]
        rfl
      rw [hg, e]
      omega
  | put z y n =>
    have hj : zs.idxOf z < D.notes.length := by
      rw [ln]
      exact List.idxOf_lt_length_of_mem od.1
    refine ⟨h.zf, fun l hl m hm => ?_, mono, ?_, hk⟩
    · rcases List.mem_or_eq_of_mem_set hl with hl | hl
      · exact h.nt l hl m hm
      · rw [hl] at hm
        rcases List.mem_append.mp hm with hm | hm
        · refine h.nt (D.notes.getD (zs.idxOf z) []) ?_ m hm
          rw [List.getD_eq_getElem?_getD, List.getElem?_eq_getElem hj]
          exact List.getElem_mem hj
        · rw [List.mem_singleton.mp hm]
          exact od.2
    · have := sum_set D.notes (zs.idxOf z) (D.notes.getD (zs.idxOf z) [] ++ [(y, n)]) hj
      rw [List.length_append] at this
      have e1 : [(y, n)].length = 1 := rfl
      have := h.my
      show ((D.notes.set _ _).map List.length).sum ≤ k + 1
      omega
theorem Gd.new {zs : List Str} : Gd zs (newMd zs.length) 0 := by
  refine ⟨rfl, fun l hl n hn => ?_, fun g hg => ?_, ?_, by decide⟩
  · rw [List.eq_of_mem_replicate hl] at hn
    cases hn
  · rw [List.eq_of_mem_replicate hg]
    exact ⟨Int.le_refl _, by simp⟩
  · show ((List.replicate zs.length ([] : List (Str × Int))).map List.length).sum ≤ 0
    rw [List.map_replicate]
    simp
theorem Gd.ok {zs : List Str} {D : Md} {k : Nat} (h : Gd zs D k) (nz : NamesOk zs) (lg : D.given.length = zs.length) (ln : D.notes.length = zs.length) : (bkOf zs D).Ok := by
  refine ⟨nz.n0, nz.n1, nz.nd, nz.nm, lg, ln, ?_, ?_⟩
  · show D.fallen.length = _
    rw [h.zf]
    exact List.length_replicate
  · have := h.my
    have := h.k1
    show (D.notes.map List.length).sum ≤ 60
    omega
theorem DpAll.strs {K : PySem.W.Frag} {H : Hp} : ∀ zs : List Str, DpAll K H (zs.map V.str) (zs.map PyData.str)
  | [] => .nil
  | z :: r => .cons (.str z) (DpAll.strs r)
end Rc

namespace Rc
open PySem PySem.Spec PyProof.Rows L2 RZ
theorem Pot.ne {H : Hp} {p b : Addr} (h : Pot H p) (n : H b = none) : b ≠ p := by
  obtain ⟨x, y, e, _⟩ := h
  exact (ne_of_none e n).symm
def rListS (K : PySem.W.Frag) : List V → Hp → VK → Prop := fun xs H Q => ∃ p ys, xs = [.ref p] ∧ (SqL K H p ys ∨ SqT K H p ys) ∧ ∀ l, H l = none → Q (.ref l) (upd H l (.lst ys))
theorem call_listS {X : Cx} {K : PySem.W.Frag} (e : X.K = K) : CallR X (.type "list") (rListS K) := by
  subst e
  exact call_list_of
/-- a def that is called, no repr being under way -/
structure HasG (P : Program) (w : World) (K : PySem.W.Frag) (mg : Str → Option Value) (base : Heap) (k : Nat) (nm : Str) (ps : List Str) (sp : Sp) (f : Addr) (fd : FuncData) : Prop where
  ok : FnG P w K mg base CX0 k f fd ps sp
  g : mg nm = some (.ref f)
  kp : PySem.W.keepIn K (.ref f) = true
  b : Binds K fd ps []
mutual
theorem Dt.dp {K : PySem.W.Frag} {H : Hp} : ∀ {v : V} (d : PyData), tupD d = true → Dt K H v d → Dp K H v d
  | _, .none, _, h => by cases h; exact .non
  | _, .bool _, _, h => by cases h; exact .bl _
  | _, .int _, _, h => by cases h; exact .int _
  | _, .str _, _, h => by cases h; exact .str _
  | _, .list ds, t, h => by simp [tupD] at t
  | _, .dict ps, t, h => by simp [tupD] at t
  | _, .tuple ds, t, h => by
    cases h with
    | tup q a => exact .tup q (DtAll.dp ds (by simpa [tupD] using t) a)
theorem DtAll.dp {K : PySem.W.Frag} {H : Hp} : ∀ {vs : List V} (ds : List PyData), tupDs ds = true → DtAll K H vs ds → DpAll K H vs ds
  | _, [], _, h => by cases h; exact .nil
  | _, d :: ds, t, h => by
    cases h with
    | cons a b =>
      have t' : tupD d = true ∧ tupDs ds = true := by simpa [tupDs] using t
      exact .cons (Dt.dp d t'.1 a) (DtAll.dp ds t'.2 b)
end
theorem tup_key (M : Bk) : tupD (keyD M) = true := by
  have h1 := tup_strs M.names
  have h2 := tup_ints M.gifts
  have h3 := tup_stacks M.stacks
  have h4 := tup_ints M.drops
  unfold keyD
  simp only [tupD, tupDs] at *
  simp [h1, h2, h3, h4]
theorem lay_map {α : Type} {f : α → PyData} : ∀ {l : List α}, (∀ x ∈ l, (f x).canLay0 = true) → PyData.canLayAll0 (l.map f) = true
  | [], _ => rfl
  | x :: r, h => by
    rw [List.map_cons]
    simp only [PyData.canLayAll0, h x List.mem_cons_self, lay_map fun y hy => h y (List.mem_cons_of_mem _ hy), Bool.and_self]
theorem dep_map {α : Type} {f : α → PyData} {n : Nat} : ∀ {l : List α}, (∀ x ∈ l, (f x).depth ≤ n) → PyData.depthAll (l.map f) ≤ n
  | [], _ => Nat.zero_le _
  | x :: r, h => by
    rw [List.map_cons]
    simp only [PyData.depthAll]
    have h1 := h x List.mem_cons_self
    have h2 := dep_map (f := f) fun y hy => h y (List.mem_cons_of_mem _ hy)
    omega
def KeyOk (M : Bk) : Prop := SeqAt.shaped (keyD M) = true
theorem Gd.key {zs : List Str} {D : Md} {k : Nat} (h : Gd zs D k) (nz : NamesOk zs) : KeyOk (bkOf zs D) := by
  have ln : ∀ n : Str × Int, (noteD n).depth = 1 := fun n => by simp [noteD, PyData.depth, PyData.depthAll]
  have ls : ∀ l, (stackD l).depth ≤ 2 := fun l => by
    unfold stackD notesD
    simp only [PyData.depth]
    have := dep_map (f := noteD) (n := 1) (l := l) fun n _ => Nat.le_of_eq (ln n)
    omega
  have c1 : PyData.canLayAll0 (zs.map .str) = true := (nice_names nz.nm).cl
  have c2 : ∀ l : List Int, PyData.canLayAll0 (l.map .int) = true := fun l => lay_map fun x _ => by simp only [PyData.canLay0]
  have c3 : PyData.canLayAll0 (D.notes.map stackD) = true := lay_map fun l hl => by
    unfold stackD
    simp only [PyData.canLay0]
    exact (nice_notes nz.nm (h.nt l hl)).cl
  unfold KeyOk SeqAt.shaped
  have ec : (keyD (bkOf zs D)).canLay0 = true := by
    show (PyData.tuple [.tuple (zs.map .str), .tuple (D.given.map .int), .tuple (D.notes.map stackD), .tuple (D.fallen.map .int)]).canLay0 = true
    simp only [PyData.canLay0, PyData.canLayAll0, c1, c2, c3, Bool.and_self]
  have ed : (keyD (bkOf zs D)).depth ≤ 64 := by
    show (PyData.tuple [.tuple (zs.map .str), .tuple (D.given.map .int), .tuple (D.notes.map stackD), .tuple (D.fallen.map .int)]).depth ≤ 64
    simp only [PyData.depth, PyData.depthAll]
    have d1 := dep_map (f := PyData.str) (n := 0) (l := zs) fun _ _ => by simp only [PyData.depth]; omega
    have d2 := dep_map (f := PyData.int) (n := 0) (l := D.given) fun _ _ => by simp only [PyData.depth]; omega
    have d3 := dep_map (f := stackD) (n := 2) (l := D.notes) fun l _ => ls l
    have d4 := dep_map (f := PyData.int) (n := 0) (l := D.fallen) fun _ _ => by simp only [PyData.depth]; omega
    omega
  rw [ec, decide_eq_true ed]
  rfl
/-- an elder book and its key -/
def Elder (K : PySem.W.Frag) (C : Addr) (H : Hp) (v : V) : Prop := ∃ t b M kv, v = .ref t ∧ SqT K H t [.ref b, kv] ∧ BookAt K C H b M ∧ KeyOk M ∧ Dt K H kv (keyD M)
theorem Elder.keep {K : PySem.W.Frag} {C : Addr} {H H' : Hp} {v : V} (h : Elder K C H v) (k : Kp H H') : Elder K C H' v := by
  obtain ⟨t, b, M, kv, rfl, q, hb, ko, dk⟩ := h
  refine ⟨t, b, M, kv, rfl, ?_, hb.keep k, ko, Dt.keep k _ (tup_key M) dk⟩
  rcases q with (q | ⟨o, q⟩) | q
  · exact .inl (.inl (k _ _ q trivial))
  · exact .inl (.inr ⟨o, k _ _ q trivial⟩)
  · exact .inr q
theorem But.kpP {p : Addr} {H H' : Hp} (b : But p H H') (hp : Pot H p) : Kp H H' := by
  obtain ⟨x, y, e, _⟩ := hp
  exact b.kp e
theorem kp_same {H H' : Hp} (s : Same H H') : Kp H H' := fun b o e _ => s b o e
theorem mem_cut {xs : List V} {lo hi : Option Int} {v : V} (h : v ∈ cutV xs lo hi) : v ∈ xs := by
  unfold cutV at h
  exact List.mem_of_mem_drop (List.mem_of_mem_take h)
theorem op_eqS {X : Cx} {K : PySem.W.Frag} (e : X.K = K) (hu : X.A.units + 64 < cLine) : OpR X (compareOp .Eq) (rEqD K) := by
  subst e
  exact op_eqD hu
theorem len_zero : ∀ (L : List (List (Str × Int) × Int)), (∀ p ∈ L, p.2 = 0 ∧ ∀ n ∈ p.1, 1 ≤ n.2) → (L.flatMap fun p => leftN p.1 p.2).length = (L.map fun p => p.1.length).sum
  | [], _ => rfl
  | p :: r, h => by
    obtain ⟨e, hn⟩ := h p List.mem_cons_self
    have ih := len_zero r fun q hq => h q (List.mem_cons_of_mem _ hq)
    rw [List.flatMap_cons, List.length_append, ih, e, left_zero hn]
    rfl
theorem Gd.len {zs : List Str} {D : Md} {k : Nat} (h : Gd zs D k) (ln : D.notes.length = zs.length) : lenM (bkOf zs D) = (D.notes.map List.length).sum := by
  show (((D.notes.zip D.fallen).take zs.length).flatMap fun p => leftN p.1 p.2).length = _
  have lf : D.fallen.length = zs.length := by
    rw [h.zf]
    exact List.length_replicate
  rw [List.take_of_length_le (by rw [List.length_zip]; omega), len_zero _ fun p hp => ?_]
  · have : (D.notes.zip D.fallen).map (fun p => p.1.length) = ((D.notes.zip D.fallen).map Prod.fst).map List.length := by
      rw [List.map_map]
      rfl
    rw [this, List.map_fst_zip (by omega)]
  · obtain ⟨h1, h2⟩ := List.of_mem_zip hp
    rw [h.zf] at h2
    exact ⟨List.eq_of_mem_replicate h2, fun n hn => (h.nt _ h1 n hn).2.1⟩
/-- the model behind some deeds -/
def mdAt (zs : List Str) (ds : List Deed) : Md := ds.foldl (doneD zs) (newMd zs.length)
theorem done_lens (zs : List Str) (D : Md) (d : Deed) : (doneD zs D d).given.length = D.given.length ∧ (doneD zs D d).notes.length = D.notes.length := by
  cases d with
  | give z n => exact ⟨List.length_set, rfl⟩
  | put z y n => exact ⟨rfl, List.length_set⟩
theorem md_good (zs : List Str) : ∀ (ds : List Deed), (∀ d ∈ ds, d.Ok zs) → ds.length ≤ 60 → ∀ (D : Md) (k : Nat), Gd zs D k → D.given.length = zs.length → D.notes.length = zs.length → k + ds.length ≤ 60 →
    Gd zs (ds.foldl (doneD zs) D) (k + ds.length)
  | [], _, _, D, k, g, _, _, _ => g
  | d :: ds, h, hl, D, k, g, lg, ln, hk => by
    rw [List.length_cons] at hl hk
    obtain ⟨a, b⟩ := done_lens zs D d
    have := md_good zs ds (fun e he => h e (List.mem_cons_of_mem _ he)) (by omega) (doneD zs D d) (k + 1) (g.done (h d List.mem_cons_self) (by omega) ln lg) (by rw [a, lg]) (by rw [b, ln]) (by omega)
    rw [List.length_cons, Nat.add_comm ds.length 1, ← Nat.add_assoc]
    exact this
theorem md_at_good {zs : List Str} {ds : List Deed} (h : ∀ d ∈ ds, d.Ok zs) (hl : ds.length ≤ 60) : Gd zs (mdAt zs ds) ds.length := by
  have := md_good zs ds h hl (newMd zs.length) 0 Gd.new List.length_replicate List.length_replicate (by omega)
  rw [Nat.zero_add] at this
  exact this
end Rc

namespace Rc
open PySem PySem.Spec PyProof.Rows L2 RZ
theorem md_ext {A B : Md} (h1 : A.given = B.given) (h2 : A.fallen = B.fallen) (h3 : A.notes = B.notes) : A = B := by
  cases A
  cases B
  cases h1
  cases h2
  cases h3
  rfl
section
variable {K : PySem.W.Frag} {H : Hp} {zs : List Str} {a : MdA} {D : Md}
theorem ModelAt.row_some (h : ModelAt K H zs a D) {r : Addr} (m : r ∈ a.rs) : ∃ xs, H r = some (.lst xs) := by
  obtain ⟨i, hi, e'⟩ := List.getElem_of_mem m
  have hn : i < D.notes.length := by
    rw [h.ln, ← h.lr]
    exact hi
  obtain ⟨xs, e1, _⟩ := h.rows i r _ (by rw [List.getElem?_eq_getElem hi, e']) (List.getElem?_eq_getElem hn)
  exact ⟨xs, e1⟩
theorem ModelAt.nofoot (h : ModelAt K H zs a D) {c : Addr} (hc : H c = none) : ¬ a.Foot c := fun f => by
  rcases f with f | f
  · rw [f, h.hg] at hc
    cases hc
  · obtain ⟨xs, e⟩ := h.row_some f
    rw [hc] at e
    cases e
theorem MdA.Foot.has {b : Addr} (h : a.Foot b) : a.Has b := h.elim (fun e => .inr (.inr (.inl e))) (fun e => .inr (.inr (.inr (.inr (.inr e)))))
/-- another sum given -/
theorem ModelAt.setG (hM : ModelAt K H zs a D) {j : Nat} (g : Int) : ModelAt K (upd H a.dg (.dK (dct zs ((D.given.set j g).map V.int)))) zs a { D with given := D.given.set j g } := by
  have bf' : ButF a H (upd H a.dg (.dK (dct zs ((D.given.set j g).map V.int)))) := fun b o nf e => by
    rw [upd_ne (fun z => nf (.inl z))]
    exact e
  have rne : ∀ r ∈ a.rs, r ≠ a.dg := fun r hr z => by
    obtain ⟨xs, e1⟩ := hM.row_some hr
    rw [z, hM.hg] at e1
    cases e1
  have lone : a.lo ≠ a.dg := fun z => by
    have := hM.ho
    rw [z, hM.hg] at this
    cases this
  refine ⟨?_, ?_, ?_, ?_, ?_, fun i r l e1 e2 => ?_, hM.nd, hM.olo, hM.ogf, hM.ogn, hM.ogm, hM.omn, hM.zn, ?_, hM.lf, hM.ln, hM.lr⟩
  · rw [upd_ne hM.ogm.symm]
    exact hM.hm
  · rw [upd_ne lone]
    exact hM.ho
  · rw [upd_same]
  · rw [upd_ne hM.ogf.symm]
    exact hM.hf
  · rw [upd_ne hM.ogn.symm]
    exact hM.hn
  · obtain ⟨xs, e3, d3⟩ := hM.rows i r l e1 e2
    refine ⟨xs, ?_, DtAll.keepT (bf'.kt hM) _ (tup_notes l) d3⟩
    rw [upd_ne (rne r (List.mem_of_getElem? e1))]
    exact e3
  · show (D.given.set _ _).length = _
    rw [List.length_set]
    exact hM.lg
theorem nodup_set {α : Type} : ∀ {l : List α} {j : Nat} {r : α}, l.Nodup → r ∉ l → (l.set j r).Nodup
  | [], _, _, nd, _ => nd
  | x :: t, 0, r, nd, n => List.nodup_cons.mpr ⟨fun h => n (List.mem_cons_of_mem _ h), (List.nodup_cons.mp nd).2⟩
  | x :: t, j + 1, r, nd, n => by
    obtain ⟨h1, h2⟩ := List.nodup_cons.mp nd
    refine List.nodup_cons.mpr ⟨fun h => ?_, nodup_set h2 fun h => n (List.mem_cons_of_mem _ h)⟩
    rcases List.mem_or_eq_of_mem_set h with h | h
    · exact h1 h
    · exact n (by rw [h]; exact List.mem_cons_self)
theorem ModelAt.ofn (h : ModelAt K H zs a D) (n0 : 1 ≤ zs.length) : a.df ≠ a.dn := fun z => by
  have e := h.hf
  rw [z, h.hn] at e
  have e1 : dct zs (a.rs.map V.ref) = dct zs (D.fallen.map V.int) := HO.dK.inj (Option.some.inj e)
  have l1 := h.lr
  have l2 := h.lf
  match zs, a.rs, D.fallen, n0, l1, l2, e1 with
  | z :: r, x :: t, y :: u, _, _, _, e1 => 
    rw [List.map_cons, List.map_cons, dct_cons, dct_cons] at e1
    cases e1
/-- another row of notes -/
theorem ModelAt.setN (hM : ModelAt K H zs a D) {j : Nat} {r : Addr} {xs : List V} {l : List (Str × Int)} (hr : H r = some (.lst xs)) (hd : DtAll K H xs (notesD l)) (nr : r ∉ a.rs) (nlo : a.lo ≠ r) (n0 : 1 ≤ zs.length) :
    ModelAt K (upd H a.dn (.dK (dct zs ((a.rs.set j r).map V.ref)))) zs { a with rs := a.rs.set j r } { D with notes := D.notes.set j l } := by
  have kt : KT H (upd H a.dn (.dK (dct zs ((a.rs.set j r).map V.ref)))) := kt_upd hM.hn fun z => z
  have lne : ∀ {c : Addr} {ys : List V}, H c = some (.lst ys) → c ≠ a.dn := fun {c ys} e z => by
    rw [z, hM.hn] at e
    cases e
  refine ⟨?_, ?_, ?_, ?_, ?_, fun i r' l' e1 e2 => ?_, nodup_set hM.nd nr, fun m => ?_, hM.ogf, hM.ogn, hM.ogm, hM.omn, hM.zn, hM.lg, hM.lf, ?_, ?_⟩
  · show upd H a.dn _ a.m = _
    rw [upd_ne hM.omn]
    exact hM.hm
  · show upd H a.dn _ a.lo = _
    rw [upd_ne (lne hM.ho)]
    exact hM.ho
  · show upd H a.dn _ a.dg = _
    rw [upd_ne hM.ogn]
    exact hM.hg
  · show upd H a.dn _ a.df = _
    rw [upd_ne (hM.ofn n0)]
    exact hM.hf
  · exact upd_same
  · have e1' : (a.rs.set j r)[i]? = some r' := e1
    have e2' : (D.notes.set j l)[i]? = some l' := e2
    by_cases hij : j = i
    · subst hij
      obtain ⟨h1, k1⟩ := List.getElem?_eq_some_iff.mp e1'
      obtain ⟨h2, k2⟩ := List.getElem?_eq_some_iff.mp e2'
      rw [List.getElem_set_self] at k1 k2
      subst k1 k2
      refine ⟨xs, ?_, DtAll.keepT kt _ (tup_notes _) hd⟩
      show upd H a.dn _ _ = _
      rw [upd_ne (lne hr)]
      exact hr
    · rw [List.getElem?_set_ne hij] at e1' e2'
      obtain ⟨ys, e3, d3⟩ := hM.rows i r' l' e1' e2'
      refine ⟨ys, ?_, DtAll.keepT kt _ (tup_notes _) d3⟩
      show upd H a.dn _ _ = _
      rw [upd_ne (lne e3)]
      exact e3
  · have m' : a.lo ∈ a.rs.set j r := m
    rcases List.mem_or_eq_of_mem_set m' with m' | m'
    · exact hM.olo m'
    · exact nlo m'
  · show (D.notes.set _ _).length = _
    rw [List.length_set]
    exact hM.ln
  · show (a.rs.set _ _).length = _
    rw [List.length_set]
    exact hM.lr
end
end Rc

namespace Rc
open PySem PySem.Spec PyProof.Rows L2 RZ
/-! ### trails -/
def trailF (nx : Str → Option Str) : Nat → List Str → Option Str → List Str
  | 0, acc, _ => acc
  | _ + 1, acc, none => acc
  | k + 1, acc, some y => if y ∈ acc then acc else trailF nx k (acc ++ [y]) (nx y)
theorem trailF_none (nx : Str → Option Str) (k : Nat) (acc : List Str) : trailF nx k acc none = acc := by cases k <;> rfl
theorem trailF_in {nx : Str → Option Str} {k : Nat} {acc : List Str} {y : Str} (h : y ∈ acc) : trailF nx k acc (some y) = acc := by
  cases k with
  | zero => rfl
  | succ k =>
    simp only [trailF]
    rw [if_pos h]
theorem trailF_out {nx : Str → Option Str} {k : Nat} {acc : List Str} {y : Str} (h : y ∉ acc) : trailF nx (k + 1) acc (some y) = trailF nx k (acc ++ [y]) (nx y) := by
  simp only [trailF]
  rw [if_neg h]
def trailM (zs : List Str) (nx : Str → Option Str) (z : Str) : List Str := trailF nx zs.length [z] (nx z)
/-- a walk under way -/
structure TrailAt (zs : List Str) (nx : Str → Option Str) (z : Str) (k : Nat) (acc : List Str) (d : Option Str) : Prop where
  fin : trailF nx k acc d = trailM zs nx z
  nd : acc.Nodup
  sub : ∀ y ∈ acc, y ∈ zs
  len : zs.length ≤ acc.length + k
  last : ∃ ini y, acc = ini ++ [y] ∧ d = nx y
  first : ∃ r, acc = z :: r
def Leads (zs : List Str) (nx : Str → Option Str) : Prop := ∀ y x, nx y = some x → x ∈ zs
theorem TrailAt.start {zs : List Str} {nx : Str → Option Str} {z : Str} (h : z ∈ zs) : TrailAt zs nx z zs.length [z] (nx z) :=
  ⟨rfl, by simp, fun y hy => by rw [List.mem_singleton.mp hy]; exact h, by simp, ⟨[], z, rfl, rfl⟩, ⟨[], rfl⟩⟩
theorem TrailAt.step {zs : List Str} {nx : Str → Option Str} {z : Str} {k : Nat} {acc : List Str} {y : Str} (t : TrailAt zs nx z k acc (some y)) (c : Leads zs nx) (h : y ∉ acc) : ∃ k', k = k' + 1 ∧ TrailAt zs nx z k' (acc ++ [y]) (nx y) := by
  have hy : y ∈ zs := by
    obtain ⟨_, x, _, e⟩ := t.last
    exact c x y e.symm
  have nd : (acc ++ [y]).Nodup := by
    rw [List.nodup_append]
    refine ⟨t.nd, by simp, fun a ha b hb e => ?_⟩
    rw [List.mem_singleton.mp hb] at e
    exact h (e ▸ ha)
  have sub : ∀ x ∈ acc ++ [y], x ∈ zs := fun x hx => by
    rcases List.mem_append.mp hx with hx | hx
    · exact t.sub x hx
    · rw [List.mem_singleton.mp hx]
      exact hy
  have ll := nodup_le _ _ nd sub
  rw [List.length_append] at ll
  have l1 : [y].length = 1 := rfl
  have tl := t.len
  cases k with
  | zero => omega
  | succ k =>
    refine ⟨k, rfl, ?_, nd, sub, by rw [List.length_append]; omega, ⟨acc, y, rfl, rfl⟩, ?_⟩
    · rw [← t.fin, trailF_out h]
    · obtain ⟨r, e⟩ := t.first
      exact ⟨r ++ [y], by rw [e]; rfl⟩
theorem TrailAt.stopN {zs : List Str} {nx : Str → Option Str} {z : Str} {k : Nat} {acc : List Str} (t : TrailAt zs nx z k acc none) : acc = trailM zs nx z := by
  rw [← t.fin, trailF_none]
theorem TrailAt.stopI {zs : List Str} {nx : Str → Option Str} {z : Str} {k : Nat} {acc : List Str} {y : Str} (t : TrailAt zs nx z k acc (some y)) (h : y ∈ acc) : acc = trailM zs nx z := by
  rw [← t.fin, trailF_in h]
/-- where a walk has ended -/
structure Ended (zs : List Str) (nx : Str → Option Str) (z : Str) (d : Option Str) : Prop where
  nd : (trailM zs nx z).Nodup
  sub : ∀ y ∈ trailM zs nx z, y ∈ zs
  last : ∃ ini y, trailM zs nx z = ini ++ [y] ∧ d = nx y
  first : ∃ r, trailM zs nx z = z :: r
  back : ∀ y, d = some y → y ∈ trailM zs nx z
theorem TrailAt.ended {zs : List Str} {nx : Str → Option Str} {z : Str} {k : Nat} {acc : List Str} {d : Option Str} (t : TrailAt zs nx z k acc d) (h : d = none ∨ ∃ y, d = some y ∧ y ∈ acc) : acc = trailM zs nx z ∧ Ended zs nx z d := by
  have e : acc = trailM zs nx z := by
    rcases h with rfl | ⟨y, rfl, h⟩
    · exact t.stopN
    · exact t.stopI h
  refine ⟨e, ?_⟩
  refine ⟨by rw [← e]; exact t.nd, by rw [← e]; exact t.sub, by rw [← e]; exact t.last, by rw [← e]; exact t.first, fun y hy => ?_⟩
  rw [← e]
  rcases h with rfl | ⟨x, rfl, h⟩
  · cases hy
  · cases hy
    exact h
theorem walk_ends {zs : List Str} {nx : Str → Option Str} {z : Str} (c : Leads zs nx) : ∀ (k : Nat) (acc : List Str) (d : Option Str), TrailAt zs nx z k acc d → ∃ d', Ended zs nx z d' := fun k => by
  induction k with
  | zero =>
    intro acc d t
    cases d with
    | none => exact ⟨_, (t.ended (.inl rfl)).2⟩
    | some y =>
      by_cases h : y ∈ acc
      · exact ⟨_, (t.ended (.inr ⟨y, rfl, h⟩)).2⟩
      · obtain ⟨k', e, _⟩ := t.step c h
        cases e
  | succ k ih =>
    intro acc d t
    cases d with
    | none => exact ⟨_, (t.ended (.inl rfl)).2⟩
    | some y =>
      by_cases h : y ∈ acc
      · exact ⟨_, (t.ended (.inr ⟨y, rfl, h⟩)).2⟩
      · obtain ⟨k', e, t'⟩ := t.step c h
        cases e
        exact ih _ _ t'
/-- the last person of the trail, and what is due of it -/
def lastM (zs : List Str) (nx : Str → Option Str) (z : Str) : Str := (trailM zs nx z).getLastD z
theorem lastM_eq {zs : List Str} {nx : Str → Option Str} {z y : Str} {ini : List Str} (h : trailM zs nx z = ini ++ [y]) : lastM zs nx z = y := by
  unfold lastM
  rw [h]
  simp
theorem trail_ended {zs : List Str} {nx : Str → Option Str} {z : Str} (c : Leads zs nx) (h : z ∈ zs) : Ended zs nx z (nx (lastM zs nx z)) := by
  obtain ⟨d, e⟩ := walk_ends c _ _ _ (TrailAt.start (nx := nx) h)
  obtain ⟨ini, y, e1, e2⟩ := e.last
  rw [lastM_eq e1, ← e2]
  exact e
theorem Ended.det {zs : List Str} {nx : Str → Option Str} {z : Str} {d : Option Str} (e : Ended zs nx z d) : d = nx (lastM zs nx z) := by
  obtain ⟨ini, y, e1, e2⟩ := e.last
  rw [lastM_eq e1, e2]
/-! ### rings -/
def firstM (zs T : List Str) : Str := (zs.find? fun x => decide (x ∈ T)).getD Str.empty
def ringM (zs : List Str) (nx : Str → Option Str) (z : Str) : Option (List Str) :=
  if nx (lastM zs nx z) = some z then
    some ((trailM zs nx z).drop ((trailM zs nx z).idxOf (firstM zs (trailM zs nx z))) ++ (trailM zs nx z).take ((trailM zs nx z).idxOf (firstM zs (trailM zs nx z))))
  else none
/-- at whom the trail ends -/
def endM (zs : List Str) (nx : Str → Option Str) (z : Str) : Option Str := if nx (lastM zs nx z) = none then some (lastM zs nx z) else none
theorem find_some {zs T : List Str} {z : Str} (h1 : z ∈ zs) (h2 : z ∈ T) : ∃ f r, (zs.filter fun x => decide (x ∈ T)) = f :: r ∧ firstM zs T = f ∧ f ∈ T ∧ f ∈ zs := by
  have hm : z ∈ zs.filter fun x => decide (x ∈ T) := List.mem_filter.mpr ⟨h1, decide_eq_true h2⟩
  cases e : zs.filter fun x => decide (x ∈ T) with
  | nil =>
    rw [e] at hm
    cases hm
  | cons f r =>
    have hf : f ∈ zs.filter fun x => decide (x ∈ T) := by
      rw [e]
      exact List.mem_cons_self
    obtain ⟨a, b⟩ := List.mem_filter.mp hf
    refine ⟨f, r, rfl, ?_, of_decide_eq_true b, a⟩
    unfold firstM
    rw [← List.head?_filter, e]
    rfl
/-- the first by its least place -/
theorem first_min {zs T : List Str} {m : Nat} {z : Str} (nd : zs.Nodup) (hz : zs[m]? = some z) (hT : z ∈ T) (hm : ∀ y ∈ T, m ≤ zs.idxOf y) : firstM zs T = z := by
  unfold firstM
  have hl : m < zs.length := (List.getElem?_eq_some_iff.mp hz).1
  have ez : zs[m] = z := (List.getElem?_eq_some_iff.mp hz).2
  have e : zs.find? (fun x => decide (x ∈ T)) = some z := by
    rw [List.find?_eq_some_iff_getElem]
    refine ⟨decide_eq_true hT, m, hl, ez, fun j hj => ?_⟩
    have hjl : j < zs.length := by omega
    have : ¬ zs[j] ∈ T := fun c => by
      have h1 := hm _ c
      rw [nd.idxOf_getElem j hjl] at h1
      omega
    simp [this]
  rw [e]
  rfl
/-! ### due notes -/
def dueD : Option (Str × Int) → PyData
  | none => .none
  | some n => noteD n
theorem tup_due (o : Option (Str × Int)) : tupD (dueD o) = true := by
  cases o with
  | none => rfl
  | some n => exact tup_note n
def duesM (M : Bk) : List (Option (Str × Int)) := (M.stacks.zip M.drops).map fun p => (leftN p.1 p.2).head?
def nxOf (zs : List Str) (os : List (Option (Str × Int))) (y : Str) : Option Str := (os.getD (zs.idxOf y) none).map (·.1)
def nxV : Option Str → V
  | none => .non
  | some y => .str y
theorem nxV_non {o : Option Str} : nxV o = .non ↔ o = none := by
  cases o with
  | none => simp [nxV]
  | some y => simp [nxV]
theorem leftN_to : ∀ {l : List (Str × Int)} {f : Int} {n : Str × Int}, n ∈ leftN l f → ∃ a, (n.1, a) ∈ l
  | [], _, _, h => by cases h
  | (t, a) :: r, f, n, h => by
    rw [leftN_cons] at h
    rcases List.mem_append.mp h with h | h
    · split at h
      · rw [List.mem_singleton.mp h]
        exact ⟨a, List.mem_cons_self⟩
      · cases h
    · obtain ⟨b, hb⟩ := leftN_to h
      exact ⟨b, List.mem_cons_of_mem _ hb⟩
def Closed (M : Bk) : Prop := ∀ l ∈ M.stacks, ∀ n ∈ l, n.1 ∈ M.names
theorem dues_at {M : Bk} {j : Nat} {l : List (Str × Int)} {f : Int} (h1 : M.stacks[j]? = some l) (h2 : M.drops[j]? = some f) : (duesM M)[j]? = some (leftN l f).head? := by
  unfold duesM
  rw [List.getElem?_map, List.getElem?_zip_eq_some (z := (l, f)) |>.mpr ⟨h1, h2⟩]
  rfl
theorem dues_mem {M : Bk} {n : Str × Int} (h : some n ∈ duesM M) : ∃ l f, l ∈ M.stacks ∧ f ∈ M.drops ∧ n ∈ leftN l f := by
  unfold duesM at h
  obtain ⟨p, hp, e⟩ := List.mem_map.mp h
  obtain ⟨h1, h2⟩ := List.of_mem_zip hp
  exact ⟨p.1, p.2, h1, h2, List.mem_of_head? e⟩
theorem getD_mem {α : Type} {l : List (Option α)} {j : Nat} {x : α} (h : l.getD j none = some x) : some x ∈ l := by
  rw [List.getD_eq_getElem?_getD] at h
  cases e : l[j]? with
  | none =>
    rw [e] at h
    cases h
  | some y =>
    rw [e] at h
    have h' : y = some x := h
    rw [← h']
    exact List.mem_of_getElem? e
theorem Closed.leads {M : Bk} (c : Closed M) : Leads M.names (nxOf M.names (duesM M)) := fun y x h => by
  unfold nxOf at h
  obtain ⟨n, e1, e2⟩ := Option.map_eq_some_iff.mp h
  obtain ⟨l, f, hl, hf, hn⟩ := dues_mem (getD_mem e1)
  obtain ⟨a, ha⟩ := leftN_to hn
  rw [← e2]
  exact c l hl (n.1, a) ha
/-! ### what falls of a due note -/
def wholeN (l : List (Str × Int)) : Int := (l.map (·.2)).sum
theorem wholeN_nonneg {l : List (Str × Int)} (h : ∀ n ∈ l, 1 ≤ n.2) : 0 ≤ wholeN l := by
  induction l with
  | nil => exact Int.le_refl _
  | cons n r ih =>
    have := ih fun m hm => h m (List.mem_cons_of_mem _ hm)
    have h1 := h n List.mem_cons_self
    show 0 ≤ ((n :: r).map (·.2)).sum
    rw [List.map_cons, List.sum_cons]
    have e : wholeN r = (r.map (·.2)).sum := rfl
    omega
theorem wholeN_cons (n : Str × Int) (r : List (Str × Int)) : wholeN (n :: r) = n.2 + wholeN r := by
  unfold wholeN
  rw [List.map_cons, List.sum_cons]
theorem sumTo_one (z t : Str) (a : Int) (h : 0 ≤ a) : sumTo z (if 0 < a then [(t, a)] else []) = if t = z then a else 0 := by
  unfold sumTo
  by_cases h0 : 0 < a
  · rw [if_pos h0]
    by_cases hz : t = z <;> simp [hz]
  · have : a = 0 := by omega
    rw [if_neg h0, this]
    split <;> rfl
theorem sumTo_app (z : Str) (l r : List (Str × Int)) : sumTo z (l ++ r) = sumTo z l + sumTo z r := by
  unfold sumTo
  rw [List.filter_append, List.map_append, List.sum_append]
theorem sumTo_nil (z : Str) : sumTo z [] = 0 := rfl
theorem fall_one : ∀ {l : List (Str × Int)} {f m a : Int} {t : Str} {r : List (Str × Int)}, (∀ n ∈ l, 1 ≤ n.2) → 0 ≤ f → 0 ≤ m → m ≤ a → leftN l f = (t, a) :: r →
    f + m ≤ wholeN l ∧ ∀ z, sumTo z (goneN l (f + m)) = sumTo z (goneN l f) + if t = z then m else 0
  | [], _, _, _, _, _, _, _, _, _, e => by cases e
  | (t0, a0) :: r0, f, m, a, t, r, h, f0, m0, ma, e => by
    have h0 : 1 ≤ a0 := h _ List.mem_cons_self
    have hr : ∀ n ∈ r0, 1 ≤ n.2 := fun n hn => h n (List.mem_cons_of_mem _ hn)
    have wr := wholeN_nonneg hr
    rw [wholeN_cons]
    rw [leftN_cons] at e
    by_cases hf : f < a0
    · have ep : partOf a0 f = f := by
        unfold partOf
        rw [if_pos hf]
      rw [ep, if_pos hf, Int.sub_self] at e
      have e' : (t0, a0 - f) :: leftN r0 0 = (t, a) :: r := e
      injection e' with e1 e2
      injection e1 with e1 e3
      subst e1 e3
      have ep2 : partOf a0 (f + m) = f + m := by
        unfold partOf
        split <;> omega
      refine ⟨by show f + m ≤ a0 + wholeN r0; omega, fun z => ?_⟩
      rw [goneN_cons, goneN_cons, ep, ep2, Int.sub_self, Int.sub_self, gone_zero hr, List.append_nil, List.append_nil, sumTo_one z t0 _ (by omega), sumTo_one z t0 _ f0]
      split <;> omega
    · have ep : partOf a0 f = a0 := by
        unfold partOf
        rw [if_neg hf]
      have ep2 : partOf a0 (f + m) = a0 := by
        unfold partOf
        rw [if_neg (by omega)]
      rw [ep, if_neg (by omega)] at e
      have e' : leftN r0 (f - a0) = (t, a) :: r := e
      obtain ⟨i1, i2⟩ := fall_one hr (by omega) m0 ma e'
      refine ⟨by show f + m ≤ a0 + wholeN r0; omega, fun z => ?_⟩
      rw [goneN_cons, goneN_cons, ep, ep2, sumTo_app, sumTo_app, show f + m - a0 = f - a0 + m by omega, i2 z]
      omega
theorem leftN_ok {zs : List Str} : ∀ {l : List (Str × Int)} {f : Int}, (∀ n ∈ l, NoteOk zs n) → 0 ≤ f → ∀ n ∈ leftN l f, NoteOk zs n
  | [], _, _, _, n, hn => by cases hn
  | (t, a) :: r, f, h, f0, n, hn => by
    have h0 := h _ List.mem_cons_self
    have ha : 1 ≤ a ∧ a ≤ 10 ^ 58 := h0.2
    have hp : 0 ≤ partOf a f ∧ partOf a f ≤ f := by
      unfold partOf
      split <;> omega
    rw [leftN_cons] at hn
    rcases List.mem_append.mp hn with hn | hn
    · split at hn
      · rename_i c
        rw [List.mem_singleton.mp hn]
        exact ⟨h0.1, by show 1 ≤ a - partOf a f; omega, by show a - partOf a f ≤ 10 ^ 58; omega⟩
      · cases hn
    · exact leftN_ok (fun m hm => h m (List.mem_cons_of_mem _ hm)) (by omega) n hn
end Rc

namespace Rc
open PySem PySem.Spec PyProof.Rows L2 RZ
/-! ### what is let fall -/
def moreAt (ps : List (Str × Int)) (z : Str) : Int := ((ps.find? fun p => decide (p.1 = z)).map (·.2)).getD 0
def moreK (ps : List (Str × Int)) : List (Key × V) := ps.map fun p => (Sum.inr p.1, .int p.2)
def fallM (M : Bk) (ps : List (Str × Int)) : Bk := { M with drops := (M.names.zip M.drops).map fun p => p.2 + moreAt ps p.1 }
theorem more_val (z : Str) : ∀ ps : List (Str × Int), (valV (moreK ps) (Sum.inr z : Key)).getD (.int 0) = .int (moreAt ps z)
  | [] => rfl
  | p :: r => by
    have ih := more_val z r
    show (valV ((Sum.inr p.1, V.int p.2) :: moreK r) (Sum.inr z : Key)).getD (.int 0) = .int (moreAt (p :: r) z)
    unfold moreAt
    by_cases h : p.1 = z
    · rw [valV_pos (show ((Sum.inr p.1 : Key), V.int p.2).1 = Sum.inr z from congrArg Sum.inr h), List.find?_cons_of_pos (by simp [h])]
      rfl
    · rw [valV_neg (fun e => h (Sum.inr.inj e)), ih, List.find?_cons_of_neg (by simp [h])]
      rfl
structure FallOk (M : Bk) (ps : List (Str × Int)) : Prop where
  kd : ∀ p ∈ ps, ∃ (j : Nat) (l : List (Str × Int)) (f : Int), M.names[j]? = some p.1 ∧ M.stacks[j]? = some l ∧ M.drops[j]? = some f ∧ 0 ≤ p.2 ∧ f + p.2 ≤ wholeN l
  cs : ∀ (j : Nat) (z : Str), M.names[j]? = some z → 0 ≤ cashM (fallM M ps) j z
theorem fall_ok {M : Bk} (ok : M.Ok) (ps : List (Str × Int)) : (fallM M ps).Ok := by
  refine ⟨ok.n0, ok.n1, ok.nd, ok.nm, ok.lg, ok.ls, ?_, ok.many⟩
  show ((M.names.zip M.drops).map _).length = _
  rw [List.length_map, List.length_zip, ok.ld, Nat.min_self]
  rfl
theorem same_unlock {H H' : Hp} {d : Addr} {od : Obj} {u : HO} (h : H d = some u) (s : Same (upd H d (.frz od u)) H') : Same H (upd H' d u) := fun b o e => by
  by_cases c : b = d
  · rw [c, h] at e
    rw [c, upd_same]
    exact e
  · rw [upd_ne c]
    exact s b o (by rw [upd_ne c]; exact e)
theorem kp_lock {H : Hp} {d : Addr} {od : Obj} {kvs : List (Key × V)} (h : H d = some (.dK kvs)) : Kp H (upd H d (.frz od (.dK kvs))) := fun b o e f => by
  have nb : b ≠ d := fun z => by
    rw [z, h] at e
    cases e
    exact f
  rw [upd_ne nb]
  exact e
section
variable {P : Program} {w : World} {K : PySem.W.Frag} {mg : Str → Option Value} {base : Heap}
/-! ### whole_of -/
abbrev sWhOf : Stmt := inBook 9
abbrev nWhOf : List Str := ["self", "who", "to", "amount"]
theorem scWhOf : FnScope nWhOf ["self", "who"] (defScope sWhOf) := ⟨rfl, rfl, rfl, by decide +kernel, rfl, by decide +kernel, by decide +kernel⟩
theorem ok_whOf {f fn C : Addr} {fd fdn : FuncData} (F : Fun K "whole_of" "Book.whole_of" sWhOf f fd) (T : ClsF K C) (B3 : Blt3 mg) (NT : HasM P w K mg base C 4 "notes" ["self", "who"] (spRow K C fun l _ => l) fn fdn) :
    FnOk P w K mg base CX0 5 f fd ["self", "who"] (spCalc K C fun M j _ => wholeN (M.stacks.getD j [])) := by
  refine F.ok scWhOf (fun vs H Q E h => ?_) (fun cdv A outer s H vs Q E hr h => ?_)
  · obtain ⟨_, _, _, _, rfl, _⟩ := h
    rfl
  · obtain ⟨b, M, z, j, rfl, hb, ok, ej, q⟩ := h
    refine ⟨_, pss_one (ps_ret (pe_callB (cr_sum rfl) (by rfl) B3.sum (by decide +kernel) (pa_cons
          (pe_lc (own := [("to", 2), ("amount", 3)]) (g := gTup K 2 (gCons (gName 2) (gCons (gName 3) gNil))) (tt := tYes) rfl scWhOf.nd (pi_list (pe_meth (pv 0) T.cl NT.m NT.ok hr NT.b .nil pass0 (pa_cons (pv 1) pa_nil))) (blkOk_by (N := nWhOf) (sc := defScope sWhOf) (own := [("to", 2), ("amount", 3)]) (by decide +kernel))
            (fun _ _ _ _ _ => pg_tup rfl (pgs_cons (pg_name (i := 2) scWhOf.nd rfl (.inl rfl) (hf := .inr rfl)) (pgs_cons (pg_name (i := 3) scWhOf.nd rfl (.inl rfl) (hf := .inr rfl)) pgs_nil)))
            (fun _ _ _ _ _ => pts_nil) (fun _ _ _ _ _ => pv 3)) pa_nil))), ?_⟩
    obtain ⟨g, l, d, eg, el, ed, ll⟩ := ok.at_ ej
    obtain ⟨dx, tn, on, wg, ws, wd, e, h1, hn, h2, h3, h4⟩ := hb.ex
    refine ⟨.ref b, rfl, b, dx, _, rfl, e, bf_no (NoF.mk' (by decide +kernel)), .str z, rfl, b, M, z, j, l, d, rfl, hb, ok.names, ej, el, ed, by omega, fun r xs H1 s1 nr hr1 dr => ⟨r, rfl, ⟨_, .inl (.inl hr1)⟩, fun D nD => ?_⟩⟩
    have lx : xs.length = l.length := by
      rw [dr.len]
      unfold notesD
      rw [List.length_map]
    refine lc_it (walk_list (K := K) (a := r) (xs := xs)) (fun i H' => Same H1 H' ∧ H' D = some (.lst ((l.take i).map fun n => .int n.2))) ⟨same_upd nD, upd_same⟩ (fun i H' _ hP => hP.1.seq (.inl (.inl hr1)))
      (fun i x H2' H2 hi hP hY => ?_) (fun H2 hP => ?_)
    · obtain ⟨rfl, hx⟩ := hY
      obtain ⟨hil, dn⟩ := (DtAll.same hP.1 _ dr).notes_get hx
      obtain ⟨na, rfl, qn⟩ := note_inv dn
      refine ⟨na, _, rfl, qn, rfl, _, _, rfl, _, _, rfl, rfl, rfl, _, rfl, _, hP.2, ?_, fun c o ec => ?_, ?_⟩
      · rw [List.length_map, List.length_take]
        exact small1000 (by omega)
      · rw [upd_ne (ne_of_none ec nD)]
        exact hP.1 c o ec
      · rw [upd_same, take_succ hil, List.map_append]
        rfl
    · refine ⟨D, l.map (·.2), rfl, .inl (.inl ?_), ?_⟩
      · rw [hP.2, lx, List.take_length, List.map_map]
        rfl
      have qq : Q (V.int (wholeN (M.stacks.getD j []))) H2 := q H2 (s1.trans hP.1)
      rw [getD_of el] at qq
      exact qq
/-! ### may_fall -/
abbrev sMayF : Stmt := inBook 14
abbrev nMayF : List Str := ["self", "more", "who", "much"]
theorem scMayF : FnScope nMayF ["self", "more"] (defScope sMayF) := ⟨rfl, rfl, rfl, by decide +kernel, rfl, by decide +kernel, by decide +kernel⟩
def spMayF (K : PySem.W.Frag) (C : Addr) : Sp := fun vs H Q _ => ∃ (b d : Addr) (M : Bk) (ps : List (Str × Int)), vs = [.ref b, .ref d] ∧ BookAt K C H b M ∧ M.Ok ∧ H d = some (.dK (moreK ps)) ∧ FallOk M ps ∧ ∀ H', Same H H' → Q (.bl true) H'
theorem ok_mayF {f f1 f2 f3 f4 C : Addr} {fd fd1 fd2 fd3 fd4 : FuncData} (F : Fun K "may_fall" "Book.may_fall" sMayF f fd) (T : ClsF K C) (B : Blt mg) (B3 : Blt3 mg)
    (HS : HasM P w K mg base C 2 "has" ["self", "who"] (spHas K C) f1 fd1) (WH : Has P w K mg base 1 "is_whole" ["thing"] (spBool K wholeD) f2 fd2)
    (FL : HasM P w K mg base C 4 "fallen" ["self", "who"] (spNum K C Bk.drops) f3 fd3) (WO : HasM P w K mg base C 5 "whole_of" ["self", "who"] (spCalc K C fun M j _ => wholeN (M.stacks.getD j [])) f4 fd4) :
    FnOk P w K mg base CX0 6 f fd ["self", "more"] (spMayF K C) := by
  refine F.ok scMayF (fun vs H Q E h => ?_) (fun cdv A outer s H vs Q E hr h => ?_)
  · obtain ⟨_, _, _, _, rfl, _⟩ := h
    rfl
  · obtain ⟨b, d, M, ps, rfl, hb, ok, hd, fo, q⟩ := h
    have hr1 := hr.mono (show 1 ≤ 5 by decide)
    have hr2 := hr.mono (show 2 ≤ 5 by decide)
    have hr4 := hr.mono (show 4 ≤ 5 by decide)
    refine ⟨_, pss_cons (ps_if (pt_not (pt_val (pe_callB call_isi (by rfl) B.isi (by decide +kernel) (pa_cons (pv 1) (pa_cons (pe_bltn (v := .ty "dict") (by rfl) B3.dict (by decide +kernel) rfl) pa_nil))))) (pss_one (ps_ret pe_bl)) pss_nil)
      (pss_cons (ps_lock (ps_for PassesOwn.never rfl (pi_items (pv 1)) (pg_tup rfl (pgs_cons (pg_name (i := 2) scMayF.nd rfl (.inl rfl)) (pgs_cons (pg_name (i := 3) scMayF.nd rfl (.inl rfl)) pgs_nil)))
        (pss_cons (ps_if (PW.pt (pw_or (pt_not (pt_val (pe_meth (pv 0) T.cl HS.m HS.ok hr2 HS.b .nil pass0 (pa_cons (pv 2) pa_nil)))) (pw_or (pt_not (pt_val (pe_call WH.ok hr1 (by rfl) WH.g WH.kp WH.b .nil pass0 (pa_cons (pv 3) pa_nil))))
          (pw_or1 (pt_cmpR op_lt (pv 3) pe_int (nomark _)))))) (pss_one (ps_ret pe_bl)) pss_nil)
        (pss_one (ps_if (pt_cmpR op_gt (pe_op op_add (pe_meth (pv 0) T.cl FL.m FL.ok hr4 FL.b .nil pass0 (pa_cons (pv 2) pa_nil)) (pv 3)) (pe_meth (pv 0) T.cl WO.m WO.ok hr WO.b .nil pass0 (pa_cons (pv 2) pa_nil)) (nomark _)) (pss_one (ps_ret pe_bl)) pss_nil)))))
      (pss_one (ps_ret pe_bl))), ?_⟩
    refine ⟨.ref d, rfl, _, .ty "dict", _, _, true, rfl, .ty "dict", .base (.dK hd), kit_ty (by decide +kernel), _, rfl, iteF ?_⟩
    refine ⟨d, _, hd, trivial, fun od => ?_⟩
    have hbL := hb.keep (kp_lock (od := od) hd)
    obtain ⟨dx, tn, on, wg, ws, wd, e, h1, hn, h2, h3, h4⟩ := hbL.ex
    have hdL : upd H d (.frz od (.dK (moreK ps))) d = some (.frz od (.dK (moreK ps))) := upd_same
    have un : ∀ H', Same (upd H d (.frz od (.dK (moreK ps)))) H' → Same H (upd H' d (.dK (moreK ps))) := fun H' s' => same_unlock hd s'
    generalize upd H d (.frz od (.dK (moreK ps))) = HL at hbL e h1 h2 h3 h4 hdL un
    refine ⟨.ref d, rfl, d, od, _, rfl, hdL, ?_⟩
    refine for_it (walk_items (kvs := moreK ps)) (fun i σ H' => ∃ y2 y3, σ = [some (.ref b), some (.ref d), y2, y3] ∧ Same HL H') ⟨_, _, rfl, Same.refl _⟩ (fun i σ H' _ hP => ?_) (fun i x σ H1' H1 hi hP hY => ?_) (fun σ H' hP => ?_)
    · obtain ⟨_, _, _, s1⟩ := hP
      exact s1 _ _ hdL
    · obtain ⟨Tt, x1, x2, rfl, nT, rfl, e1, e2⟩ := hY
      obtain ⟨y2, y3, rfl, s1⟩ := hP
      have hi' : i < ps.length := by
        unfold moreK at hi
        rw [List.length_map] at hi
        exact hi
      have ek : (moreK ps)[i]? = some (Sum.inr ps[i].1, V.int ps[i].2) := by
        unfold moreK
        rw [List.getElem?_map, List.getElem?_eq_getElem hi']
        rfl
      have e1' : (moreK ps)[i]?.map (fun kv => kV kv.1) = some x1 := e1
      have e2' : (moreK ps)[i]?.map Prod.snd = some x2 := e2
      rw [ek] at e1' e2'
      have ex1 : x1 = .str ps[i].1 := (Option.some.inj e1').symm
      have ex2 : x2 = .int ps[i].2 := (Option.some.inj e2').symm
      subst ex1 ex2
      obtain ⟨j, l, fl, ej, el, ef, m0, mw⟩ := fo.kd _ (List.getElem_mem hi')
      generalize ps[i] = pm at ej m0 mw nT s1
      obtain ⟨z, m⟩ := pm
      have s2 := s1.trans (same_upd (o := .tup [V.str z, V.int m]) nT)
      have hT : upd H1' Tt (.tup [V.str z, V.int m]) Tt = some (.tup [V.str z, V.int m]) := upd_same
      generalize upd H1' Tt (.tup [V.str z, V.int m]) = H2 at s2 hT
      refine ⟨Tt, [.str z, .int m], rfl, .inl (.inl hT), rfl, _, _, rfl, _, _, rfl, rfl, ?_⟩
      have hm : z ∈ M.names := List.mem_of_getElem? ej
      have lz := (nameT_len (ok.nm z hm)).2
      refine ⟨.ref b, rfl, b, dx, _, rfl, s2 _ _ e, bf_no (NoF.mk' (by decide +kernel)), .str z, rfl, b, M, .str z, .str z, rfl, book_same hbL s2, ok.names, .str z, (fun y ey => by cases ey; omega), fun H3 s3 => ⟨_, rfl, ?_⟩⟩
      have eh : hasD M (.str z) = true := decide_eq_true hm
      rw [eh]
      refine iteF ⟨.int m, rfl, .int m, .int m, rfl, .int m, (fun y ey => by cases ey), fun H4 s4 => ⟨_, rfl, iteF ⟨.int m, rfl, _, _, rfl, rfl, _, rfl, ?_⟩⟩⟩
      rw [show decide (m < 0) = false from decide_eq_false (by have : (0 : Int) ≤ m := m0; omega)]
      have s24 := s2.trans (s3.trans s4)
      refine iteF ⟨.ref b, rfl, b, dx, _, rfl, s24 _ _ e, bf_no (NoF.mk' (by decide +kernel)), .str z, rfl, b, M, z, j, fl, rfl, book_same hbL s24, ok.names, ej, ef, fun H5 s5 => ⟨.int m, rfl, fl, m, rfl, rfl, ?_⟩⟩
      have s25 := s24.trans s5
      refine ⟨.ref b, rfl, b, dx, _, rfl, s25 _ _ e, bf_no (NoF.mk' (by decide +kernel)), .str z, rfl, b, M, z, j, rfl, book_same hbL s25, ok, ej, fun H6 s6 => ⟨_, _, rfl, rfl, _, rfl, ?_⟩⟩
      show if decide (wholeN (M.stacks.getD j []) < fl + m) = true then _ else _
      rw [getD_of el, show decide (wholeN l < fl + m) = false from decide_eq_false (by have : fl + m ≤ wholeN l := mw; omega)]
      exact iteF ⟨_, _, rfl, s25.trans s6⟩
    · obtain ⟨_, _, rfl, s1⟩ := hP
      exact ⟨s1 _ _ hdL, q _ (un _ s1)⟩
/-! ### let_fall -/
abbrev sLetF : Stmt := inBook 15
abbrev nLetF : List Str := ["self", "more", "who", "drops", "other"]
theorem scLetF : FnScope nLetF ["self", "more"] (defScope sLetF) := ⟨rfl, rfl, rfl, by decide +kernel, rfl, by decide +kernel, by decide +kernel⟩
def spLetF (K : PySem.W.Frag) (C : Addr) : Sp := fun vs H Q _ => ∃ (b d : Addr) (M : Bk) (ps : List (Str × Int)), vs = [.ref b, .ref d] ∧ BookAt K C H b M ∧ M.Ok ∧ H d = some (.dK (moreK ps)) ∧ FallOk M ps ∧
  ∀ b' H', Same H H' → H b' = none → BookAt K C H' b' (fallM M ps) → Q (.ref b') H'
theorem ok_letF {f f1 f2 f3 f4 C : Addr} {fd fd1 fd2 fd3 fd4 : FuncData} (F : Fun K "let_fall" "Book.let_fall" sLetF f fd) (T : ClsF K C) (B3 : Blt3 mg)
    (MF : HasM P w K mg base C 6 "may_fall" ["self", "more"] (spMayF K C) f1 fd1) (FL : HasM P w K mg base C 4 "fallen" ["self", "who"] (spNum K C Bk.drops) f2 fd2)
    (WT : HasM P w K mg base C 5 "with_these" ["self", "gifts", "stacks", "drops"] (spWith K C) f3 fd3) (CS : HasM P w K mg base C 5 "cash" ["self", "who"] (spCalc K C cashM) f4 fd4) :
    FnOk P w K mg base CX0 7 f fd ["self", "more"] (spLetF K C) := by
  refine F.ok scLetF (fun vs H Q E h => ?_) (fun cdv A outer s H vs Q E hr h => ?_)
  · obtain ⟨_, _, _, _, rfl, _⟩ := h
    rfl
  · obtain ⟨b, d, M, ps, rfl, hb, ok, hd, fo, q⟩ := h
    have hu := hu_of hr
    have hr4 := hr.mono (show 4 ≤ 6 by decide)
    have hr5 := hr.mono (show 5 ≤ 6 by decide)
    refine ⟨_, pss_cons (ps_if (pt_not (pt_val (pe_meth (pv 0) T.cl MF.m MF.ok hr MF.b .nil pass0 (pa_cons (pv 1) pa_nil)))) pss_never pss_nil)
      (pss_cons (ps_set (i := 3) scLetF.nd rfl (.inl rfl) (pe_callTy call_tupD (by rfl) B3.tuple (by decide +kernel) (pa_cons
          (pe_lc (own := [("who", 2)]) (g := gName 2) (tt := tYes) rfl scLetF.nd (pi_tup (pe_fld (pv 0) rfl)) (blkOk_by (N := nLetF) (sc := defScope sLetF) (own := [("who", 2)]) (by decide +kernel))
            (fun _ _ _ _ _ => pg_name (i := 2) scLetF.nd rfl (.inl rfl) (hf := .inr rfl)) (fun _ _ _ _ _ => pts_nil)
            (fun _ _ _ _ _ => pe_op op_add (pe_meth (pv 0) T.cl FL.m FL.ok hr4 FL.b .nil pass0 (pa_cons (pv 2) pa_nil)) (pe_dget2 hu (pv 1) (pv 2) pe_int ⟨rfl, rfl, rfl, rfl⟩))) pa_nil)))
      (pss_cons (ps_set (i := 4) scLetF.nd rfl (.inl rfl) (pe_meth (pv 0) T.cl WT.m WT.ok hr5 WT.b .nil pass0 (pa_cons (pe_fld (pv 0) rfl) (pa_cons (pe_fld (pv 0) rfl) (pa_cons (pv 3) pa_nil)))))
      (pss_cons (ps_for PassesOwn.never rfl (pi_tup (pe_fld (pv 0) rfl)) (pg_name (i := 2) scLetF.nd rfl (.inl rfl))
        (pss_one (ps_if (pt_cmpR op_lt (pe_meth (pv 4) T.cl CS.m CS.ok hr5 CS.b .nil pass0 (pa_cons (pv 2) pa_nil)) pe_int (nomark _)) pss_never pss_nil)))
      (pss_one (ps_ret (pv 4)))))), ?_⟩
    obtain ⟨dx, tn, on, wg, ws, wd, e, h1, hn, h2, h3, h4⟩ := hb.ex
    refine ⟨.ref b, rfl, b, dx, _, rfl, e, bf_no (NoF.mk' (by decide +kernel)), .ref d, rfl, b, d, M, ps, rfl, hb, ok, hd, fo, fun H1 s1 => ⟨_, rfl, iteF ?_⟩⟩
    have qn : SqT K H tn (M.names.map V.str) := .inl (.inr ⟨on, h1⟩)
    refine ⟨.ref b, rfl, b, C, dx, _, _, rfl, s1 _ _ e, T.cl, T.n1, bf_names, tn, rfl, ⟨_, same_seqT s1 qn⟩, fun D nD => ?_⟩
    have lnm : (M.names.map V.str).length = M.names.length := List.length_map ..
    have lzp : (M.names.zip M.drops).length = M.names.length := by rw [List.length_zip, ok.ld, Nat.min_self]
    have n12 := ok.n1
    refine lc_it (walk_tup (K := K) (a := tn) (xs := M.names.map V.str)) (fun i H' => Same H1 H' ∧ H' D = some (.lst ((((M.names.zip M.drops).take i).map fun p => p.2 + moreAt ps p.1).map V.int))) ⟨same_upd nD, upd_same⟩ (fun i H' _ hP => same_seqT hP.1 (same_seqT s1 qn))
      (fun i x H2' H2 hi hP hY => ?_) (fun H2 hP => ?_)
    · obtain ⟨rfl, hx⟩ := hY
      rw [lnm] at hi
      have hid : i < M.drops.length := by rw [ok.ld]; exact hi
      have ex : x = .str M.names[i] := by
        rw [List.getElem?_map, List.getElem?_eq_getElem hi] at hx
        exact (Option.some.inj hx).symm
      subst ex
      have s12 := s1.trans hP.1
      refine ⟨rfl, .ref b, rfl, b, dx, _, rfl, s12 _ _ e, bf_no (NoF.mk' (by decide +kernel)), _, rfl, b, M, _, i, _, rfl, book_same hb s12, ok.names, List.getElem?_eq_getElem hi, List.getElem?_eq_getElem hid, fun H3 s3 => ?_⟩
      have s13 := s12.trans s3
      refine ⟨.ref d, rfl, d, rfl, .inl ⟨_, .inl (s13 _ _ hd)⟩, _, rfl, _, DGet.k (k := Sum.inr M.names[i]) (s13 _ _ hd), ?_⟩
      rw [more_val]
      refine ⟨_, _, rfl, rfl, _, s3 _ _ hP.2, ?_, fun c o ec => ?_, ?_⟩
      · rw [List.length_map, List.length_map, List.length_take]
        exact small1000 (by omega)
      · rw [upd_ne (ne_of_none ec nD)]
        exact s3 _ _ (hP.1 c o ec)
      · have tk : (M.names.zip M.drops).take (i + 1) = (M.names.zip M.drops).take i ++ [(M.names[i], M.drops[i])] := by
          rw [List.take_add_one, List.getElem?_zip_eq_some (z := (M.names[i], M.drops[i])) |>.mpr ⟨List.getElem?_eq_getElem hi, List.getElem?_eq_getElem hid⟩]
          rfl
        rw [upd_same, tk, List.map_append, List.map_append]
        rfl
    · obtain ⟨s2, hD⟩ := hP
      rw [lnm, List.take_of_length_le (by rw [lzp]; exact Nat.le_refl _)] at hD
      have ed : ((M.names.zip M.drops).map fun p => p.2 + moreAt ps p.1) = (fallM M ps).drops := rfl
      rw [ed] at hD
      refine ⟨.ref D, ((fallM M ps).drops).map .int, rfl, .lst (.inl (.inl hD)) (DtAll.ints _), fun t H3 s3 dt => ?_⟩
      have s13 := s1.trans (s2.trans s3)
      refine ⟨.ref b, rfl, b, dx, _, rfl, s13 _ _ e, bf_no (NoF.mk' (by decide +kernel)), .ref b, rfl, b, C, dx, _, _, rfl, s13 _ _ e, T.cl, T.n2, bf_gifts, .ref b, rfl, b, C, dx, _, _, rfl, s13 _ _ e, T.cl, T.n3, bf_stacks, t, rfl,
        b, M, _, _, _, M.gifts, M.stacks, (fallM M ps).drops, rfl, book_same hb s13, ok.names, Dt.same s13 _ h2, Dt.same s13 _ h3, dt, fun b' H4 s4 nb hb' => ?_⟩
      have s14 := s13.trans s4
      have hb4 : BookAt K C H4 b' (fallM M ps) := hb'
      refine ⟨.ref b, rfl, b, C, dx, _, _, rfl, s14 _ _ e, T.cl, T.n1, bf_names, tn, rfl, ⟨_, same_seqT s14 qn⟩, ?_⟩
      obtain ⟨dx2, tn2, on2, vg2, vs2, vd2, e2, k1, kn, k2, k3, k4⟩ := hb4.ex
      refine for_it (walk_tup (K := K) (a := tn) (xs := M.names.map V.str)) (fun i σ H' => ∃ y2, σ = [some (.ref b), some (.ref d), y2, some t, some (.ref b')] ∧ Same H4 H') ⟨_, rfl, Same.refl _⟩ (fun i σ H' _ hP => ?_) (fun i x σ H5' H5 hi hP hY => ?_) (fun σ H' hP => ?_)
      · obtain ⟨_, _, s5⟩ := hP
        exact same_seqT s5 (same_seqT s14 qn)
      · obtain ⟨rfl, hx⟩ := hY
        obtain ⟨y2, rfl, s5⟩ := hP
        rw [lnm] at hi
        have ex : x = .str M.names[i] := by
          rw [List.getElem?_map, List.getElem?_eq_getElem hi] at hx
          exact (Option.some.inj hx).symm
        subst ex
        have ei : M.names[i]? = some M.names[i] := List.getElem?_eq_getElem hi
        refine ⟨.ref b', rfl, b', dx2, _, rfl, s5 _ _ e2, bf_no (NoF.mk' (by decide +kernel)), _, rfl, b', fallM M ps, _, i, rfl, book_same hb4 s5, fall_ok ok ps, ei, fun H6 s6 => ⟨_, _, rfl, rfl, _, rfl, ?_⟩⟩
        have c0 := fo.cs i _ ei
        rw [show decide (cashM (fallM M ps) i M.names[i] < 0) = false from decide_eq_false (by omega)]
        exact iteF ⟨_, rfl, s5.trans s6⟩
      · obtain ⟨y2, rfl, s5⟩ := hP
        exact ⟨.ref b', rfl, q b' H' (s14.trans s5) (s13.free nb) (book_same hb4 s5)⟩
end
end Rc

namespace Rc
open PySem PySem.Spec PyProof.Rows L2 RZ
theorem due_inv {K : PySem.W.Frag} {H : Hp} {v : V} {o : Option (Str × Int)} (h : Dt K H v (dueD o)) : (o = none ∧ v = .non) ∨ ∃ n a, o = some n ∧ v = .ref a ∧ SqT K H a [.str n.1, .int n.2] := by
  cases o with
  | none =>
    cases h
    exact .inl ⟨rfl, rfl⟩
  | some n =>
    obtain ⟨a, e, q⟩ := note_inv h
    exact .inr ⟨n, a, rfl, e, q⟩
theorem dues_len {M : Bk} (ok : M.Ok) : (duesM M).length = M.names.length := by
  unfold duesM
  rw [List.length_map, List.length_zip, ok.ls, ok.ld, Nat.min_self]
/-- a dict of due notes -/
structure DuesAt (K : PySem.W.Frag) (H : Hp) (d : Addr) (zs : List Str) (os : List (Option (Str × Int))) : Prop where
  ex : ∃ vs, Rd H d (.dK (dct zs vs)) ∧ DtAll K H vs (os.map dueD)
theorem DuesAt.same {K : PySem.W.Frag} {H H' : Hp} {d : Addr} {zs : List Str} {os : List (Option (Str × Int))} (h : DuesAt K H d zs os) (s : Same H H') : DuesAt K H' d zs os := by
  obtain ⟨vs, h1, h2⟩ := h.ex
  refine ⟨vs, ?_, DtAll.same s _ h2⟩
  rcases h1 with h1 | ⟨o, h1⟩
  · exact .inl (s _ _ h1)
  · exact .inr ⟨o, s _ _ h1⟩
/-- and it is not locked -/
structure DuesU (K : PySem.W.Frag) (H : Hp) (d : Addr) (zs : List Str) (os : List (Option (Str × Int))) : Prop where
  ex : ∃ vs, H d = some (.dK (dct zs vs)) ∧ DtAll K H vs (os.map dueD)
theorem DuesU.at {K : PySem.W.Frag} {H : Hp} {d : Addr} {zs : List Str} {os : List (Option (Str × Int))} (h : DuesU K H d zs os) : DuesAt K H d zs os := by
  obtain ⟨vs, h1, h2⟩ := h.ex
  exact ⟨vs, .inl h1, h2⟩
theorem DuesU.same {K : PySem.W.Frag} {H H' : Hp} {d : Addr} {zs : List Str} {os : List (Option (Str × Int))} (h : DuesU K H d zs os) (s : Same H H') : DuesU K H' d zs os := by
  obtain ⟨vs, h1, h2⟩ := h.ex
  exact ⟨vs, s _ _ h1, DtAll.same s _ h2⟩
theorem dget_rd {H : Hp} {a : Addr} {zs : List Str} {vs : List V} {j : Nat} {z : Str} {v : V} (h : Rd H a (.dK (dct zs vs))) (nd : zs.Nodup) (e1 : zs[j]? = some z) (e2 : vs[j]? = some v) : DGet H a (.str z) (some v) :=
  .inl ⟨_, Sum.inr z, h, rfl, (dct_val nd e1 e2).symm⟩
theorem DuesAt.get {K : PySem.W.Frag} {H : Hp} {d : Addr} {zs : List Str} {os : List (Option (Str × Int))} (h : DuesAt K H d zs os) (nd : zs.Nodup) (lo : os.length = zs.length) {z : Str} (hz : z ∈ zs) :
    ∃ v o, DGet H d (.str z) (some v) ∧ Dt K H v (dueD o) ∧ nxOf zs os z = o.map (·.1) := by
  obtain ⟨vs, h1, h2⟩ := h.ex
  have hi : zs.idxOf z < os.length := by
    rw [lo]
    exact List.idxOf_lt_length_of_mem hz
  obtain ⟨v, e1, e2⟩ := h2.get (n := zs.idxOf z) (d := dueD os[zs.idxOf z]) (map_get (List.getElem?_eq_getElem hi))
  refine ⟨v, os[zs.idxOf z], dget_rd h1 nd (idx_get hz) e1, e2, ?_⟩
  unfold nxOf
  rw [getD_of (List.getElem?_eq_getElem hi)]
/-- what the walks ask of due notes -/
structure Walks (zs : List Str) (os : List (Option (Str × Int))) : Prop where
  nd : zs.Nodup
  lo : os.length = zs.length
  lz : zs.length ≤ 12
  ld : Leads zs (nxOf zs os)
theorem walks_of {M : Bk} (ok : M.Ok) (c : Closed M) : Walks M.names (duesM M) := ⟨ok.nd, dues_len ok, ok.n1, c.leads⟩
abbrev nxM (M : Bk) : Str → Option Str := nxOf M.names (duesM M)
end Rc

namespace Rc
open PySem PySem.Spec PyProof.Rows L2 RZ
/-- a ring that is told, or none -/
def RingV (H H' : Hp) (v : V) : Option (List Str) → Prop
  | none => v = .non
  | some r => ∃ a, v = .ref a ∧ H a = none ∧ H' a = some (.lst (r.map V.str))
theorem RingV.same {H H0 H' H2 : Hp} {v : V} {o : Option (List Str)} (h : RingV H H' v o) (s : Same H' H2) (s0 : Same H0 H) : RingV H0 H2 v o := by
  cases o with
  | none => exact h
  | some r =>
    obtain ⟨a, e, n, x⟩ := h
    exact ⟨a, e, s0.free n, s _ _ x⟩
theorem idx_first {T : List Str} {f : Str} {m : Nat} {x : Str} (hm : m < T.idxOf f) (e : T[m]? = some x) : x ≠ f := fun c => by
  obtain ⟨hl, e'⟩ := List.getElem?_eq_some_iff.mp e
  have := List.not_of_lt_findIdx (p := (· == f)) (xs := T) (i := m) hm
  rw [e', c] at this
  simp at this
theorem str_eqV (x y : Str) : eqV (.str x) (.str y) = (x == y) := rfl
end Rc

namespace Rc
open PySem PySem.Spec PyProof.Rows L2 RZ
section
variable {X : Cx}
theorem ix_listS {K : PySem.W.Frag} (e : X.K = K) : IxR X (rIxL K) := by
  subst e
  exact ix_list
theorem ix_tupS {K : PySem.W.Frag} (e : X.K = K) : IxR X (rIxT K) := by
  subst e
  exact ix_tup
theorem mt_indexS {K : PySem.W.Frag} (e : X.K = K) : MtR X "list.index" (rIndex K) := by
  subst e
  exact mt_index
theorem pe_bmK {K : PySem.W.Frag} (eK : X.K = K) {o e : Expr} {es : List Expr} {to : TE} {t : TA} {name : Str} {apos cpos : Pos} {T id : String} {r : V → List V → Hp → VK → Prop} (pa : PlainAttrs T) (slot : Slot T name id) (hty : typeOf (.builtin id) = pure (.type "method_descriptor")) (hm : MtR X id r) (ho : PE X o to) (ha : PA X (e :: es) t)
    (hbase : attributeBase o name X.env (eval o X.env) = eval o X.env := by rfl)
    (hfew : ((backTo cpos (starEach (e :: es) X.env)).all (fun x => !x.1) && (backToKw cpos (keywordEach [] X.env)).all (fun x => x.1.isSome)
      && decide ((e :: es).length + ([] : List Keyword).length + (if ([] : List Keyword).isEmpty then 0 else 1) < 30)) = true := by rfl)
    (hline : (apos.endLine == cpos.line) = true := by rfl) (hs : starEach (e :: es) X.env = (false, eval e X.env) :: starEach es X.env := by rfl) (hplain : (backTo cpos (starEach es X.env)).any (·.1) = false := by rfl) :
    PE X (.Call (.Attribute o name apos) (e :: es) [] cpos) (tBM K T r to t) := by
  subst eK
  exact pe_bm pa slot hty hm ho ha hbase hfew hline hs hplain
end
/-- a model that may be -/
structure Gs (zs : List Str) (D : Md) : Prop where
  nz : NamesOk zs
  nt : ∀ l ∈ D.notes, ∀ n ∈ l, NoteOk zs n
  fl : ∀ f ∈ D.fallen, 0 ≤ f
  my : (D.notes.map List.length).sum ≤ 60
  lg : D.given.length = zs.length
  lf : D.fallen.length = zs.length
  ln : D.notes.length = zs.length
  cs : ∀ (j : Nat) (z : Str), zs[j]? = some z → 0 ≤ cashM (bkOf zs D) j z
theorem Gs.ok {zs : List Str} {D : Md} (g : Gs zs D) : (bkOf zs D).Ok := ⟨g.nz.n0, g.nz.n1, g.nz.nd, g.nz.nm, g.lg, g.ln, g.lf, g.my⟩
theorem Gs.closed {zs : List Str} {D : Md} (g : Gs zs D) : Closed (bkOf zs D) := fun l hl n hn => (g.nt l hl n hn).1
theorem Gs.rows {zs : List Str} {D : Md} (g : Gs zs D) : RowsOk D := fun l hl => Nat.le_trans (len_le_sum hl) g.my
theorem Gs.walks {zs : List Str} {D : Md} (g : Gs zs D) : Walks zs (duesM (bkOf zs D)) := walks_of g.ok g.closed
theorem Gs.left {zs : List Str} {D : Md} (g : Gs zs D) {j : Nat} {l : List (Str × Int)} {f : Int} (el : D.notes[j]? = some l) (ef : D.fallen[j]? = some f) : ∀ n ∈ leftN l f, NoteOk zs n :=
  leftN_ok (g.nt l (List.mem_of_getElem? el)) (g.fl f (List.mem_of_getElem? ef))
theorem Gs.due {zs : List Str} {D : Md} (g : Gs zs D) {n : Str × Int} (h : some n ∈ duesM (bkOf zs D)) : NoteOk zs n := by
  obtain ⟨l, f, hl, hf, hn⟩ := dues_mem h
  exact leftN_ok (g.nt l hl) (g.fl f hf) n hn
/-- what the law's walk goes by -/
abbrev nxD (zs : List Str) (D : Md) : Str → Option Str := nxOf zs (duesM (bkOf zs D))
theorem nxD_at {zs : List Str} {D : Md} {j : Nat} {z : Str} {l : List (Str × Int)} {f : Int} (nd : zs.Nodup) (ej : zs[j]? = some z) (el : D.notes[j]? = some l) (ef : D.fallen[j]? = some f) : nxD zs D z = (leftN l f).head?.map (·.1) := by
  have hj : j < zs.length := (List.getElem?_eq_some_iff.mp ej).1
  have ez : zs[j] = z := (List.getElem?_eq_some_iff.mp ej).2
  have ei : zs.idxOf z = j := by
    rw [← ez]
    exact nd.idxOf_getElem j hj
  show ((duesM (bkOf zs D)).getD (zs.idxOf z) none).map (·.1) = _
  rw [ei, getD_of (dues_at (M := bkOf zs D) el ef)]
end Rc

namespace Rc
open PySem PySem.Spec PyProof.Rows L2 RZ
theorem notes_dp {K : PySem.W.Frag} {H : Hp} {m : Addr} {mx : List V} {l : List (Str × Int)} (h : H m = some (.lst mx)) (d : DtAll K H mx (notesD l)) : Dp K H (.ref m) (.list (notesD l)) := .lst (.inl (.inl h)) (DtAll.dp _ (tup_notes l) d)
theorem shaped_nil : SeqAt.shaped (.list []) = true := by decide +kernel
section
variable {P : Program} {w : World} {K : PySem.W.Frag} {mg : Str → Option Value} {base : Heap}
/-! ### _law_next -/
abbrev sLNx : Stmt := topS 46
theorem scLNx : FnScope ["_law_model_here", "_law_owner", "_law_left_here"] ["_law_model_here", "_law_owner"] (defScope sLNx) := ⟨rfl, rfl, rfl, by decide +kernel, rfl, by decide +kernel, by decide +kernel⟩
def spLNx (K : PySem.W.Frag) : Sp := fun vs H Q _ => ∃ (a : MdA) (D : Md) (zs : List Str) (z : Str), vs = [.ref a.m, .str z] ∧ ModelAt K H zs a D ∧ Gs zs D ∧ z ∈ zs ∧ ∀ H', Same H H' → Q (nxV (nxD zs D z)) H'
theorem ok_lnx {f f1 : Addr} {fd fd1 : FuncData} (F : Fun K "_law_next" "_law_next" sLNx f fd) (LL : Has P w K mg base 2 "_law_left" ["_law_model_here", "_law_owner"] (spLLf K) f1 fd1) : FnOk P w K mg base CX0 3 f fd ["_law_model_here", "_law_owner"] (spLNx K) := by
  refine F.ok scLNx (fun vs H Q E h => ?_) (fun cdv Ar outer s H vs Q E hr h => ?_)
  · obtain ⟨_, _, _, _, rfl, _⟩ := h
    rfl
  · obtain ⟨a, D, zs, z, rfl, hM, g, hz, q⟩ := h
    refine ⟨_, pss_cons (ps_set (i := 2) scLNx.nd rfl (.inl rfl) (pe_call LL.ok hr (by rfl) LL.g LL.kp LL.b .nil pass0 (pa_cons (pv 0) (pa_cons (pv 1) pa_nil))))
      (pss_one (ps_ret (pe_ifExp (pt_cmpR (op_neD hr.units) (pv 2) (pe_lst pa_nil) (nomark _)) (pe_ix ix_tup (pe_ix ix_list (pv 2) pe_int (fun _ _ => rfl)) pe_int (fun _ _ => rfl)) pe_non))), ?_⟩
    have ej := idx_get hz
    obtain ⟨gv, f', l', r, xs, eg, ef, el, er, hr0, hd0⟩ := hM.at_ ej
    have ll := g.rows l' (List.mem_of_getElem? el)
    have en := nxD_at hM.zn ej el ef
    have gl := g.left el ef
    refine ⟨.ref a.m, rfl, .str z, rfl, a, D, zs, z, _, l', f', rfl, hM, ej, el, ef, by omega, fun m mx H1 s1 nm hm dm => ?_⟩
    rw [en] at q
    generalize leftN l' f' = L at dm q gl
    refine ⟨.ref m, rfl, Nat.zero_le _, fun e ne => ?_⟩
    have s2 := same_upd (o := .lst []) ne
    have he : upd H1 e (.lst []) e = some (.lst []) := upd_same
    generalize upd H1 e (.lst []) = H2 at s2 he
    have hm2 := s2 _ _ hm
    have dm2 := DtAll.same s2 _ dm
    refine ⟨.list (notesD L), .list [], notes_dp hm2 dm2, .lst (.inl (.inl he)) .nil, nice_shaped (nice_notes g.nz.nm gl).list, shaped_nil, _, rfl, ?_⟩
    cases L with
    | nil => exact iteF (q H2 (s1.trans s2))
    | cons n t =>
      cases dm2 with
      | cons d1 d2 =>
        rename_i x xr
        obtain ⟨ta, rfl, qt⟩ := note_inv d1
        exact iteT ⟨.ref m, rfl, m, _, 0, .ref ta, rfl, rfl, .inl (.inl hm2), atI_nat (j := 0) rfl, ta, _, 0, .str n.1, rfl, rfl, qt, rfl, q H2 (s1.trans s2)⟩
/-! ### _law_trail -/
abbrev sLTr : Stmt := topS 47
theorem scLTr : FnScope ["_law_model_here", "_law_owner", "_law_found", "_law_here"] ["_law_model_here", "_law_owner"] (defScope sLTr) := ⟨rfl, rfl, rfl, by decide +kernel, rfl, by decide +kernel, by decide +kernel⟩
def spLTr (K : PySem.W.Frag) : Sp := fun vs H Q _ => ∃ (a : MdA) (D : Md) (zs : List Str) (z : Str), vs = [.ref a.m, .str z] ∧ ModelAt K H zs a D ∧ Gs zs D ∧ z ∈ zs ∧
  ∀ T t H', Same H H' → H t = none → H' T = some (.tup [.ref t, nxV (endM zs (nxD zs D) z)]) → H' t = some (.lst ((trailM zs (nxD zs D) z).map V.str)) → Q (.ref T) H'
theorem ok_ltr {f f1 : Addr} {fd fd1 : FuncData} (F : Fun K "_law_trail" "_law_trail" sLTr f fd) (LN : Has P w K mg base 3 "_law_next" ["_law_model_here", "_law_owner"] (spLNx K) f1 fd1) : FnOk P w K mg base CX0 4 f fd ["_law_model_here", "_law_owner"] (spLTr K) := by
  refine F.ok scLTr (fun vs H Q E h => ?_) (fun cdv Ar outer s H vs Q E hr h => ?_)
  · obtain ⟨_, _, _, _, rfl, _⟩ := h
    rfl
  · obtain ⟨a, D, zs, z, rfl, hM, g, hz, q⟩ := h
    refine ⟨_, pss_cons (ps_set (i := 2) scLTr.nd rfl (.inl rfl) (pe_lst (pa_cons (pv 1) pa_nil)))
      (pss_cons (ps_set (i := 3) scLTr.nd rfl (.inl rfl) (pe_call LN.ok hr (by rfl) LN.g LN.kp LN.b .nil pass0 (pa_cons (pv 0) (pa_cons (pv 1) pa_nil))))
      (pss_cons (ps_while PassesOwn.never (PW.pt (pw_and (pt_cmpR op_notN (pv 3) pe_non (nomark _)) (pw_and1 (pt_cmpR op_notIn_seq (pv 3) (pv 2) (by rfl)))))
        (pss_cons (ps_expr (pe_bm PySem.F.plainAttrs_list PySem.F.slot_list_append PySem.F.type_list_append mt_append (pv 2) (pa_cons (pv 3) pa_nil)))
        (pss_one (ps_set (i := 3) scLTr.nd rfl (.inl rfl) (pe_call LN.ok hr (by rfl) LN.g LN.kp LN.b .nil pass0 (pa_cons (pv 0) (pa_cons (pv 3) pa_nil)))))))
      (pss_one (ps_ret (pe_tup (pa_cons (pv 2) (pa_cons (pe_ifExp (pt_cmpR op_isN (pv 3) pe_non (nomark _)) (pe_ix ix_list (pv 2) (pe_un un_neg pe_int) (fun _ _ => rfl)) pe_non) pa_nil))))))), ?_⟩
    have wk := g.walks
    refine ⟨.str z, rfl, by show 1 ≤ sizeLine; decide, fun t nt => ?_⟩
    have s1 := same_upd (o := .lst [V.str z]) nt
    have ht1 : upd H t (.lst [V.str z]) t = some (.lst [V.str z]) := upd_same
    generalize upd H t (.lst [V.str z]) = H1 at s1 ht1
    refine ⟨.ref a.m, rfl, .str z, rfl, a, D, zs, z, rfl, model_same hM s1, g, hz, fun H2 s2 => ?_⟩
    refine ⟨fun k σ H' => ∃ acc o, σ = [some (.ref a.m), some (.str z), some (.ref t), some (nxV o)] ∧ Same H H' ∧ H' t = some (.lst (List.map V.str acc)) ∧ TrailAt zs (nxD zs D) z k acc o,
      ⟨zs.length, [z], nxD zs D z, rfl, s1.trans s2, s2 _ _ ht1, TrailAt.start hz⟩, ?_⟩
    rintro k σ H' ⟨acc, o, rfl, s3, ht, ta⟩
    have lacc : acc.length ≤ 12 := Nat.le_trans (nodup_le _ _ ta.nd ta.sub) wk.lz
    have fin : (o = none ∨ ∃ y, o = some y ∧ y ∈ acc) → tRet (tTup (tCons (tVar 2) (tCons (tIf (tTest (tOp (fun x y H Q => y = .non ∧ Q (.bl (decide (x = .non))) H) (tVar 3) (tC .non))) (tOp (rIxL K) (tVar 2) (tUn (rU fun i => .int (-i)) (tC (.int 1)))) (tC .non)) tNil))) { nx := fun _ H' => Q .non H', rt := Q } [some (.ref a.m), some (.str z), some (.ref t), some (nxV o)] H' := fun hend => by
      obtain ⟨ea, en⟩ := ta.ended hend
      obtain ⟨ini, y, eT, eL⟩ := en.last
      have eL2 := lastM_eq eT
      have ee : endM zs (nxD zs D) z = if o = none then some y else none := by
        unfold endM
        rw [eL2, eL]
      refine ⟨.ref t, rfl, nxV o, rfl, rfl, _, rfl, ?_⟩
      have stop : ∀ v, v = nxV (endM zs (nxD zs D) z) → [V.ref t, v].length ≤ sizeLine ∧ ∀ p, H' p = none → Q (.ref p) (upd H' p (.tup [.ref t, v])) := fun v ev => by
        refine ⟨by show 2 ≤ sizeLine; decide, fun p np => ?_⟩
        rw [ev]
        refine q p t _ (s3.trans (same_upd np)) nt upd_same ?_
        rw [← ea]
        exact same_upd np _ _ ht
      cases o with
      | none =>
        rw [show decide (nxV none = .non) = true from decide_eq_true rfl]
        refine iteT ⟨.ref t, rfl, _, rfl, t, _, -1, .str y, rfl, rfl, .inl (.inl ht), ?_, ?_⟩
        · rw [ea, eT, List.map_append]
          exact atI_last _ _
        · exact stop _ (by rw [ee]; rfl)
      | some x =>
        rw [show decide (nxV (some x) = .non) = false from decide_eq_false (fun c => by cases c)]
        exact iteF (stop _ (by rw [ee]; rfl))
    cases o with
    | none =>
      refine ⟨nxV none, rfl, rfl, _, rfl, ?_⟩
      rw [show decide (nxV none = .non) = true from decide_eq_true rfl]
      exact iteF (iteF (fin (.inl rfl)))
    | some y =>
      refine ⟨nxV (some y), rfl, rfl, _, rfl, ?_⟩
      rw [show decide (nxV (some y) = .non) = false from decide_eq_false (fun c => by cases c)]
      refine iteT ⟨.str y, rfl, .ref t, rfl, t, _, rfl, .inl (.inl (.inl ht)), rfl, flat_strs _, _, rfl, ?_⟩
      show if (!inV (.str y) (acc.map V.str)) = true then _ else _
      rw [inV_strs]
      by_cases hin : y ∈ acc
      · rw [decide_eq_true hin]
        exact iteF (fin (.inr ⟨y, rfl, hin⟩))
      · rw [decide_eq_false hin]
        obtain ⟨k', rfl, ta'⟩ := ta.step wk.ld hin
        refine iteT ⟨fun σ2 H2 => ∃ acc o, σ2 = [some (.ref a.m), some (.str z), some (.ref t), some (nxV o)] ∧ Same H H2 ∧ H2 t = some (.lst (List.map V.str acc)) ∧ TrailAt zs (nxD zs D) z k' acc o, fun σ2 H2 h2 => ⟨k', by omega, h2⟩, ?_⟩
        refine ⟨.ref t, rfl, .inl ⟨rfl, _, .inl (.inl ht)⟩, .str y, rfl, t, _, _, rfl, rfl, ht, by rw [List.length_map]; exact small1000 (by omega), ?_⟩
        have s4 : Same H (upd H' t (.lst (acc.map V.str ++ [.str y]))) := fun c u ec => by
          rw [upd_ne (ne_of_none ec nt)]
          exact s3 c u ec
        have hy : y ∈ zs := by
          obtain ⟨_, x, _, ex⟩ := ta.last
          exact wk.ld x y ex.symm
        refine ⟨.ref a.m, rfl, .str y, rfl, a, D, zs, y, rfl, model_same hM s4, g, hy, fun H5 s5 => ?_⟩
        refine ⟨acc ++ [y], nxD zs D y, rfl, s4.trans s5, s5 _ _ ?_, ta'⟩
        rw [upd_same, List.map_append]
        rfl
/-! ### _law_ring -/
abbrev sLRg : Stmt := topS 48
abbrev nLRg : List Str := ["_law_model_here", "_law_owner", "_law_found", "_law_end", "_law_first", "_law_at", "_law_name_here"]
theorem scLRg : FnScope nLRg ["_law_model_here", "_law_owner"] (defScope sLRg) := ⟨rfl, rfl, rfl, by decide +kernel, rfl, by decide +kernel, by decide +kernel⟩
def spLRg (K : PySem.W.Frag) : Sp := fun vs H Q _ => ∃ (a : MdA) (D : Md) (zs : List Str) (z : Str), vs = [.ref a.m, .str z] ∧ ModelAt K H zs a D ∧ Gs zs D ∧ z ∈ zs ∧ ∀ v H', Same H H' → RingV H H' v (ringM zs (nxD zs D) z) → Q v H'
theorem ok_lrg {f f1 f2 : Addr} {fd fd1 fd2 : FuncData} (F : Fun K "_law_ring" "_law_ring" sLRg f fd) (B2 : Blt2 mg) (LN : Has P w K mg base 3 "_law_next" ["_law_model_here", "_law_owner"] (spLNx K) f1 fd1) (LT : Has P w K mg base 4 "_law_trail" ["_law_model_here", "_law_owner"] (spLTr K) f2 fd2) :
    FnOk P w K mg base CX0 5 f fd ["_law_model_here", "_law_owner"] (spLRg K) := by
  refine F.ok scLRg (fun vs H Q E h => ?_) (fun cdv Ar outer s H vs Q E hr h => ?_)
  · obtain ⟨_, _, _, _, rfl, _⟩ := h
    rfl
  · obtain ⟨a, D, zs, z, rfl, hM, g, hz, q⟩ := h
    have hu := hu_of hr
    have hr3 := hr.mono (show 3 ≤ 4 by decide)
    refine ⟨_, pss_cons (ps_asg (pe_call LT.ok hr (by rfl) LT.g LT.kp LT.b .nil pass0 (pa_cons (pv 0) (pa_cons (pv 1) pa_nil))) (pg_tup rfl (pgs_cons (pg_name (i := 2) scLRg.nd rfl (.inl rfl)) (pgs_cons (pg_name (i := 3) scLRg.nd rfl (.inl rfl)) pgs_nil))))
      (pss_cons (ps_if (PW.pt (pw_or (pt_cmpR op_notN (pv 3) pe_non (nomark _)) (pw_or1 (pt_cmpR op_ne (pe_call LN.ok hr3 (by rfl) LN.g LN.kp LN.b .nil pass0 (pa_cons (pv 0) (pa_cons (pe_ix ix_list (pv 2) (pe_un un_neg pe_int) (fun _ _ => rfl)) pa_nil))) (pv 1) (nomark _))))) (pss_one (ps_ret pe_non)) pss_nil)
      (pss_cons (ps_set (i := 4) scLRg.nd rfl (.inl rfl) (pe_callB (cr_min rfl) (by rfl) B2.min (by decide +kernel) (pa_cons
        (pe_lc (own := [("_law_name_here", 6)]) (g := gName 6) (tt := tYes) (te := tBM K "list" (rIndex K) (tDGet (tVar 0) (tC (.str "order"))) (tCons (tVar 6) tNil)) rfl scLRg.nd (pi_list (pv 2)) (blkOk_by (N := nLRg) (sc := defScope sLRg) (own := [("_law_name_here", 6)]) (by decide +kernel))
          (fun _ _ _ _ _ => pg_name (i := 6) scLRg.nd rfl (.inl rfl) (hf := .inr rfl)) (fun _ _ _ _ _ => pts_nil)
          (fun _ _ _ _ _ => pe_bmK (K := K) rfl PySem.F.plainAttrs_list PySem.F.slot_list_index PySem.F.type_list_index (mt_indexS (K := K) rfl) (pe_dget hu (pv 0) pe_str (fun _ _ => rfl)) (pa_cons (pv 6) pa_nil))) pa_nil)))
      (pss_cons (ps_set (i := 5) scLRg.nd rfl (.inl rfl) (pe_bm PySem.F.plainAttrs_list PySem.F.slot_list_index PySem.F.type_list_index mt_index (pv 2) (pa_cons (pe_ix ix_list (pe_dget hu (pv 0) pe_str (fun _ _ => rfl)) (pv 4) (fun _ _ => rfl)) pa_nil)))
      (pss_one (ps_ret (pe_op op_cat (pe_slice sl_list (pv 2) (po_some (pv 5)) po_none) (pe_slice sl_list (pv 2) po_none (po_some (pv 5))))))))), ?_⟩
    have wk := g.walks
    have en := trail_ended wk.ld hz
    obtain ⟨ini, y, eT, eL⟩ := en.last
    have hyT : y ∈ trailM zs (nxD zs D) z := by
      rw [eT]
      exact List.mem_append.mpr (.inr List.mem_cons_self)
    have hy : y ∈ zs := en.sub y hyT
    have eL2 := lastM_eq eT
    have hzT : z ∈ trailM zs (nxD zs D) z := by
      obtain ⟨r, er⟩ := en.first
      rw [er]
      exact List.mem_cons_self
    have lT : (trailM zs (nxD zs D) z).length ≤ 12 := Nat.le_trans (nodup_le _ _ en.nd en.sub) wk.lz
    have sub := en.sub
    refine ⟨.ref a.m, rfl, .str z, rfl, a, D, zs, z, rfl, hM, g, hz, fun TT t H1 s1 nt hTT ht => ?_⟩
    refine ⟨TT, _, rfl, .inl (.inl hTT), rfl, _, _, rfl, _, _, rfl, rfl, ?_⟩
    have er : ringM zs (nxD zs D) z = if nxD zs D y = some z then some ((trailM zs (nxD zs D) z).drop ((trailM zs (nxD zs D) z).idxOf (firstM zs (trailM zs (nxD zs D) z))) ++ (trailM zs (nxD zs D) z).take ((trailM zs (nxD zs D) z).idxOf (firstM zs (trailM zs (nxD zs D) z)))) else none := by
      unfold ringM
      rw [eL2]
    have ee : endM zs (nxD zs D) z = if nxD zs D y = none then some y else none := by
      unfold endM
      rw [eL2]
    rw [er] at q
    rw [ee]
    have hM1 := model_same hM s1
    generalize trailM zs (nxD zs D) z = TT at hzT lT ht eT hyT q sub
    cases ho : nxD zs D y with
    | none =>
      rw [ho] at q
      refine ⟨.str y, rfl, rfl, _, rfl, ?_⟩
      rw [decide_eq_false (fun c => by cases c)]
      exact iteT (iteT (q .non H1 s1 rfl))
    | some x =>
      rw [ho] at q
      refine ⟨.non, rfl, rfl, _, rfl, ?_⟩
      rw [decide_eq_true rfl]
      refine iteF ⟨.ref a.m, rfl, .ref t, rfl, _, rfl, t, _, -1, .str y, rfl, rfl, .inl (.inl ht), ?_, a, D, zs, y, rfl, hM1, g, hy, fun H2 s2 => ?_⟩
      · rw [eT, List.map_append]
        exact atI_last _ _
      rw [ho]
      have s12 := s1.trans s2
      have hM2 := model_same hM s12
      have ht2 := s2 _ _ ht
      refine ⟨.str z, rfl, rfl, _, rfl, ?_⟩
      by_cases hx : x = z
      · rw [show decide (nxV (some x) = V.str z) = true from decide_eq_true (by rw [hx]; rfl)]
        rw [if_pos (congrArg some hx)] at q
        refine iteF ?_
        refine ⟨.ref t, rfl, t, rfl, ⟨_, .inl (.inl ht2)⟩, fun D0 nD0 => ?_⟩
        refine lc_it (walk_list (K := K) (a := t) (xs := TT.map V.str)) (fun i H' => Same H2 H' ∧ H' D0 = some (.lst (((TT.take i).map fun x => ((zs.idxOf x : Nat) : Int)).map V.int))) ⟨same_upd nD0, upd_same⟩ (fun i H' _ hP => .inl (.inl (hP.1 _ _ ht2)))
          (fun i v H3' H3 hi hP hY => ?_) (fun H3 hP => ?_)
        · obtain ⟨rfl, hv⟩ := hY
          rw [List.length_map] at hi
          have ex : v = .str TT[i] := by
            rw [List.getElem?_map, List.getElem?_eq_getElem hi] at hv
            exact (Option.some.inj hv).symm
          subst ex
          have hM3 := model_same hM2 hP.1
          have hin : TT[i] ∈ zs := sub _ (List.getElem_mem hi)
          refine ⟨rfl, .ref a.m, rfl, a.m, .ref a.lo, rfl, hM3.g0, .inl ⟨rfl, _, .inl (.inl hM3.ho)⟩, _, rfl, a.lo, _, _, zs.idxOf TT[i], .str TT[i], rfl, rfl, .inl (.inl hM3.ho), rfl, flat_strs _, map_get (idx_get hin), by rw [str_eqV]; simp, fun m z' hm e' => ?_, _, hP.2, ?_, fun c o ec => ?_, ?_⟩
          · rw [List.getElem?_map] at e'
            obtain ⟨x', ex, rfl⟩ := Option.map_eq_some_iff.mp e'
            rw [str_eqV]
            exact beq_eq_false_iff_ne.mpr (idx_first hm ex)
          · rw [List.length_map, List.length_map, List.length_take]
            exact small1000 (by omega)
          · rw [upd_ne (ne_of_none ec nD0)]
            exact hP.1 c o ec
          · rw [upd_same, take_succ hi, List.map_append, List.map_append]
            rfl
        · obtain ⟨s3, hD0⟩ := hP
          rw [List.length_map, List.take_length] at hD0
          refine ⟨D0, TT.map fun x => ((zs.idxOf x : Nat) : Int), rfl, .inl (.inl hD0), by rw [List.length_map]; exact List.length_pos_of_mem hzT, fun m hm hmin => ?_⟩
          obtain ⟨f0, hf0, rfl⟩ := List.mem_map.mp hm
          have f0z : f0 ∈ zs := sub f0 hf0
          have e1 : firstM zs TT = f0 := first_min wk.nd (idx_get f0z) hf0 fun x' hx' => by
            have := hmin _ (List.mem_map.mpr ⟨x', hx', rfl⟩)
            omega
          rw [e1] at q
          have hM3 := model_same hM2 s3
          have ht3 := s3 _ _ ht2
          refine ⟨.ref t, rfl, .inl ⟨rfl, _, .inl (.inl ht3)⟩, .ref a.m, rfl, a.m, .ref a.lo, rfl, hM3.g0, _, rfl, a.lo, _, _, .str f0, rfl, rfl, .inl (.inl hM3.ho), atI_nat (map_get (idx_get f0z)), ?_⟩
          refine ⟨t, _, .str f0, TT.idxOf f0, .str f0, rfl, rfl, .inl (.inl ht3), rfl, flat_strs _, map_get (idx_get hf0), by rw [str_eqV]; simp, fun m z' hm e' => ?_, ?_⟩
          · rw [List.getElem?_map] at e'
            obtain ⟨x', ex, rfl⟩ := Option.map_eq_some_iff.mp e'
            rw [str_eqV]
            exact beq_eq_false_iff_ne.mpr (idx_first hm ex)
          · refine ⟨.ref t, rfl, .int (TT.idxOf f0 : Nat), rfl, _, rfl, t, _, rfl, .inl (.inl ht3), fun p1 n1 => ?_⟩
            rw [cut_drop, ← List.map_drop]
            have s4 := same_upd (o := .lst ((TT.drop (TT.idxOf f0)).map V.str)) n1
            refine ⟨.ref t, rfl, .int (TT.idxOf f0 : Nat), rfl, _, rfl, t, _, rfl, .inl (.inl (s4 _ _ ht3)), fun p2 n2 => ?_⟩
            rw [cut_take, ← List.map_take]
            have s5 := same_upd (o := .lst ((TT.take (TT.idxOf f0)).map V.str)) n2
            refine ⟨p1, p2, _, _, rfl, rfl, s5 _ _ upd_same, upd_same, ?_, fun p np => ?_⟩
            · rw [List.length_map, List.length_map, List.length_drop, List.length_take]
              exact small_line (by omega)
            · have s6 := same_upd (o := .lst ((TT.drop (TT.idxOf f0)).map V.str ++ (TT.take (TT.idxOf f0)).map V.str)) np
              refine q (.ref p) _ (s12.trans (s3.trans (s4.trans (s5.trans s6)))) ⟨p, rfl, (s12.trans (s3.trans (s4.trans s5))).free np, ?_⟩
              rw [upd_same, List.map_append]
      · rw [show decide (nxV (some x) = V.str z) = false from decide_eq_false (fun c => hx (V.str.inj c))]
        rw [if_neg (fun c => hx (Option.some.inj c))] at q
        exact iteT (q .non H2 s12 rfl)
end
end Rc

namespace Rc
open PySem PySem.Spec PyProof.Rows L2 RZ
/-! ### the model's own changes -/
section
variable {K : PySem.W.Frag} {H : Hp} {zs : List Str} {a : MdA} {D : Md}
theorem ModelAt.ofm (h : ModelAt K H zs a D) (n0 : 1 ≤ zs.length) : a.df ≠ a.m := fun z => by
  have e := h.hf
  rw [z, h.hm] at e
  have e1 : dct keysM [.ref a.lo, .ref a.dg, .ref a.df, .ref a.dn] = dct zs (D.fallen.map V.int) := HO.dK.inj (Option.some.inj e)
  have l2 := h.lf
  match zs, D.fallen, n0, l2, e1 with
  | z :: r, y :: u, _, _, e1 =>
    rw [List.map_cons, dct_cons] at e1
    unfold keysM at e1
    rw [dct_cons] at e1
    cases e1
/-- another sum fallen -/
theorem ModelAt.setF (hM : ModelAt K H zs a D) (n0 : 1 ≤ zs.length) {j : Nat} (g : Int) : ModelAt K (upd H a.df (.dK (dct zs ((D.fallen.set j g).map V.int)))) zs a { D with fallen := D.fallen.set j g } := by
  have kt : KT H (upd H a.df (.dK (dct zs ((D.fallen.set j g).map V.int)))) := kt_upd hM.hf fun z => z
  have lne : ∀ {c : Addr} {ys : List V}, H c = some (.lst ys) → c ≠ a.df := fun {c ys} e z => by
    rw [z, hM.hf] at e
    cases e
  refine ⟨?_, ?_, ?_, ?_, ?_, fun i r l e1 e2 => ?_, hM.nd, hM.olo, hM.ogf, hM.ogn, hM.ogm, hM.omn, hM.zn, hM.lg, ?_, hM.ln, hM.lr⟩
  · rw [upd_ne (hM.ofm n0).symm]
    exact hM.hm
  · rw [upd_ne (lne hM.ho)]
    exact hM.ho
  · rw [upd_ne hM.ogf]
    exact hM.hg
  · rw [upd_same]
  · rw [upd_ne (hM.ofn n0).symm]
    exact hM.hn
  · obtain ⟨xs, e3, d3⟩ := hM.rows i r l e1 e2
    refine ⟨xs, ?_, DtAll.keepT kt _ (tup_notes l) d3⟩
    rw [upd_ne (lne e3)]
    exact e3
  · show (D.fallen.set _ _).length = _
    rw [List.length_set]
    exact hM.lf
/-- one note more -/
theorem ModelAt.app (hM : ModelAt K H zs a D) {j : Nat} {r t : Addr} {xs : List V} {l : List (Str × Int)} {y : Str} {n : Int} (er : a.rs[j]? = some r) (el : D.notes[j]? = some l) (hr0 : H r = some (.lst xs)) (hd0 : DtAll K H xs (notesD l)) (nt : H t = none) :
    ModelAt K (upd (upd H t (.tup [.str y, .int n])) r (.lst (xs ++ [.ref t]))) zs a { D with notes := D.notes.set j (l ++ [(y, n)]) } ∧ ButF a H (upd (upd H t (.tup [.str y, .int n])) r (.lst (xs ++ [.ref t]))) := by
  have tr : t ≠ r := (ne_of_none hr0 nt).symm
  have rm : r ∈ a.rs := List.mem_of_getElem? er
  have bf' : ButF a H (upd (upd H t (.tup [V.str y, V.int n])) r (.lst (xs ++ [V.ref t]))) := fun b o nf e => by
    have nb : b ≠ r := fun z => nf (.inr (by rw [z]; exact rm))
    rw [upd_ne nb, upd_ne (ne_of_none e nt)]
    exact e
  have keepD : ∀ {b : Addr} {o : HO}, b ≠ r → H b = some o → upd (upd H t (.tup [V.str y, V.int n])) r (.lst (xs ++ [V.ref t])) b = some o := fun {b o} n e => by
    rw [upd_ne n, upd_ne (ne_of_none e nt)]
    exact e
  have dne : ∀ {b : Addr} {kvs : List (Key × V)}, H b = some (.dK kvs) → b ≠ r := fun {b kvs} e z => by
    rw [z, hr0] at e
    cases e
  have hkt := bf'.kt hM
  refine ⟨⟨keepD (dne hM.hm) hM.hm, keepD (fun z => hM.olo (by rw [z]; exact rm)) hM.ho, keepD (dne hM.hg) hM.hg, keepD (dne hM.hf) hM.hf, keepD (dne hM.hn) hM.hn, fun i r' l' e1 e2 => ?_, hM.nd, hM.olo, hM.ogf, hM.ogn, hM.ogm, hM.omn, hM.zn, hM.lg, hM.lf, ?_, hM.lr⟩, bf'⟩
  · by_cases hi : i = j
    · have er' : r' = r := by
        rw [hi, er] at e1
        exact (Option.some.inj e1).symm
      subst er'
      have e2' : (D.notes.set j (l ++ [(y, n)]))[i]? = some l' := e2
      have hj : j < D.notes.length := (List.getElem?_eq_some_iff.mp el).1
      rw [hi, List.getElem?_set_self hj] at e2'
      cases e2'
      refine ⟨_, upd_same, ?_⟩
      unfold notesD
      rw [List.map_append]
      refine (DtAll.keepT hkt _ (tup_notes l) hd0).append (.cons (.tup (.inl (.inl ?_)) (.cons (.str _) (.cons (.int _) .nil))) .nil)
      rw [upd_ne tr, upd_same]
    · have e2' : (D.notes.set j (l ++ [(y, n)]))[i]? = some l' := e2
      rw [List.getElem?_set_ne (fun c => hi c.symm)] at e2'
      obtain ⟨xs', e3, d3⟩ := hM.rows i r' l' e1 e2'
      have nr' : r' ≠ r := fun c => by
        obtain ⟨h1, k1⟩ := List.getElem?_eq_some_iff.mp e1
        obtain ⟨h2, k2⟩ := List.getElem?_eq_some_iff.mp er
        exact hi ((List.getElem_inj hM.nd).mp (k1.trans (c.trans k2.symm)))
      exact ⟨xs', keepD nr' e3, DtAll.keepT hkt _ (tup_notes l') d3⟩
  · show (D.notes.set _ _).length = _
    rw [List.length_set]
    exact hM.ln
end
/-! ### where nothing has fallen yet -/
theorem Gd.gs {zs : List Str} {D : Md} {k : Nat} (h : Gd zs D k) (nz : NamesOk zs) (lg : D.given.length = zs.length) (ln : D.notes.length = zs.length) : Gs zs D := by
  refine ⟨nz, h.nt, fun f hf => ?_, Nat.le_trans h.my h.k1, lg, ?_, ln, fun j z ej => ?_⟩
  · rw [h.zf] at hf
    rw [List.eq_of_mem_replicate hf]
    exact Int.le_refl _
  · rw [h.zf]
    exact List.length_replicate
  · have hj : j < zs.length := (List.getElem?_eq_some_iff.mp ej).1
    have hg : j < D.given.length := by omega
    have hf : D.fallen[j]? = some 0 := by
      rw [h.zf]
      show (List.replicate zs.length (0 : Int))[j]? = some 0
      rw [List.getElem?_replicate, if_pos hj]
    rw [cash_eq]
    unfold cashD
    rw [h.sums, getD_of (List.getElem?_eq_getElem hg), getD_of hf]
    have := (h.gv _ (List.getElem_mem hg)).1
    omega
/-! ### what a fall does -/
theorem sum_zip_set {α : Type} (F : List (Str × Int) × Int → Int) : ∀ (L : List (List (Str × Int))) (fs : List Int) (j : Nat) (l : List (Str × Int)) (f x : Int), L[j]? = some l → fs[j]? = some f →
    ((L.zip (fs.set j x)).map F).sum = ((L.zip fs).map F).sum + (F (l, x) - F (l, f))
  | [], _, _, _, _, _, h, _ => by simp at h
  | _ :: _, [], _, _, _, _, _, h => by simp at h
  | a :: L, b :: fs, 0, l, f, x, h1, h2 => by
    simp at h1 h2
    subst h1 h2
    simp only [List.set_cons_zero, List.zip_cons_cons, List.map_cons, List.sum_cons]
    omega
  | a :: L, b :: fs, j + 1, l, f, x, h1, h2 => by
    have ih := sum_zip_set (α := α) F L fs j l f x (by simpa using h1) (by simpa using h2)
    simp only [List.set_cons_succ, List.zip_cons_cons, List.map_cons, List.sum_cons]
    omega
def fellD (D : Md) (j : Nat) (x : Int) : Md := { D with fallen := D.fallen.set j x }
theorem fellD_cash {zs : List Str} {D : Md} {j : Nat} {z t : Str} {l r : List (Str × Int)} {f m b : Int} (g : Gs zs D) (ej : zs[j]? = some z) (el : D.notes[j]? = some l) (ef : D.fallen[j]? = some f) (e : leftN l f = (t, b) :: r) (m0 : 0 ≤ m) (mb : m ≤ b)
    {i : Nat} {y : Str} (ei : zs[i]? = some y) : cashM (bkOf zs (fellD D j (f + m))) i y = cashM (bkOf zs D) i y + (if t = y then m else 0) - (if i = j then m else 0) := by
  have f0 := g.fl f (List.mem_of_getElem? ef)
  obtain ⟨_, h2⟩ := fall_one (fun n hn => (g.nt l (List.mem_of_getElem? el) n hn).2.1) f0 m0 mb e
  have e1 : fallTo (bkOf zs (fellD D j (f + m))) y = fallTo (bkOf zs D) y + (if t = y then m else 0) := by
    show ((D.notes.zip (D.fallen.set j (f + m))).map fun p => sumTo y (goneN p.1 p.2)).sum = ((D.notes.zip D.fallen).map fun p => sumTo y (goneN p.1 p.2)).sum + _
    rw [sum_zip_set (α := Nat) (fun p => sumTo y (goneN p.1 p.2)) D.notes D.fallen j l f (f + m) el ef]
    show _ + (sumTo y (goneN l (f + m)) - sumTo y (goneN l f)) = _
    rw [h2 y]
    omega
  have e2 : (bkOf zs (fellD D j (f + m))).drops.getD i 0 = (bkOf zs D).drops.getD i 0 + (if i = j then m else 0) := by
    show (D.fallen.set j (f + m)).getD i 0 = D.fallen.getD i 0 + _
    by_cases h : i = j
    · subst h
      rw [if_pos rfl, getD_of ef]
      have hj : i < D.fallen.length := (List.getElem?_eq_some_iff.mp ef).1
      rw [getD_of (List.getElem?_set_self hj)]
    · rw [if_neg h, List.getD_eq_getElem?_getD, List.getElem?_set_ne (fun c => h c.symm), List.getD_eq_getElem?_getD]
      omega
  unfold cashM
  rw [e1, e2]
  show (bkOf zs D).gifts.getD i 0 + _ - _ = _
  omega
theorem moreAt_one (z : Str) (m : Int) (y : Str) : moreAt [(z, m)] y = if z = y then m else 0 := by
  unfold moreAt
  by_cases h : z = y <;> simp [h]
theorem fell_eq {zs : List Str} {D : Md} {j : Nat} {z : Str} {f m : Int} (nd : zs.Nodup) (lf : D.fallen.length = zs.length) (ej : zs[j]? = some z) (ef : D.fallen[j]? = some f) : fallM (bkOf zs D) [(z, m)] = bkOf zs (fellD D j (f + m)) := by
  have e : ((zs.zip D.fallen).map fun p => p.2 + moreAt [(z, m)] p.1) = D.fallen.set j (f + m) := by
    refine List.ext_getElem? fun i => ?_
    rw [List.getElem?_map]
    by_cases hi : i < zs.length
    · have hf : i < D.fallen.length := by omega
      rw [List.getElem?_zip_eq_some (z := (zs[i], D.fallen[i])) |>.mpr ⟨List.getElem?_eq_getElem hi, List.getElem?_eq_getElem hf⟩]
      show some (D.fallen[i] + moreAt [(z, m)] zs[i]) = _
      rw [moreAt_one]
      obtain ⟨hj, ez⟩ := List.getElem?_eq_some_iff.mp ej
      obtain ⟨hjf, ev⟩ := List.getElem?_eq_some_iff.mp ef
      by_cases h : i = j
      · subst h
        rw [if_pos ez.symm, List.getElem?_set_self hf, ev]
      · rw [if_neg (fun c => h ((List.getElem_inj nd).mp (c.symm.trans ez.symm))), List.getElem?_set_ne (fun c => h c.symm), List.getElem?_eq_getElem hf, Int.add_zero]
    · rw [List.getElem?_eq_none (by rw [List.length_zip]; omega), List.getElem?_eq_none (by rw [List.length_set]; omega)]
      rfl
  show Bk.mk zs D.given D.notes ((zs.zip D.fallen).map fun p => p.2 + moreAt [(z, m)] p.1) = _
  rw [e]
  rfl
/-- some of a due note falls: to oneself, or by cash -/
theorem Gs.fall {zs : List Str} {D : Md} {j : Nat} {z t : Str} {l r : List (Str × Int)} {f m b : Int} (g : Gs zs D) (ej : zs[j]? = some z) (el : D.notes[j]? = some l) (ef : D.fallen[j]? = some f) (e : leftN l f = (t, b) :: r) (m0 : 0 ≤ m) (mb : m ≤ b)
    (hc : t = z ∨ m ≤ cashM (bkOf zs D) j z) : Gs zs (fellD D j (f + m)) ∧ FallOk (bkOf zs D) [(z, m)] := by
  have f0 := g.fl f (List.mem_of_getElem? ef)
  obtain ⟨h1, _⟩ := fall_one (fun n hn => (g.nt l (List.mem_of_getElem? el) n hn).2.1) f0 m0 mb e
  have cs : ∀ (i : Nat) (y : Str), zs[i]? = some y → 0 ≤ cashM (bkOf zs (fellD D j (f + m))) i y := fun i y ei => by
    rw [fellD_cash g ej el ef e m0 mb ei]
    have c0 := g.cs i y ei
    by_cases h : i = j
    · subst h
      have ey : y = z := Option.some.inj (ei.symm.trans ej)
      subst ey
      rw [if_pos rfl]
      rcases hc with hc | hc
      · rw [if_pos hc]
        omega
      · have : 0 ≤ (if t = y then m else 0) := by split <;> omega
        omega
    · rw [if_neg h]
      have : 0 ≤ (if t = y then m else 0) := by split <;> omega
      omega
  refine ⟨⟨g.nz, g.nt, fun x hx => ?_, g.my, g.lg, ?_, g.ln, cs⟩, ?_, fun i y ei => ?_⟩
  · rcases List.mem_or_eq_of_mem_set hx with hx | hx
    · exact g.fl x hx
    · omega
  · show (D.fallen.set _ _).length = _
    rw [List.length_set]
    exact g.lf
  · intro p hp
    rw [List.mem_singleton.mp hp]
    exact ⟨j, l, f, ej, el, ef, m0, h1⟩
  · rw [fell_eq g.nz.nd g.lf ej ef]
    exact cs i y ei
end Rc

namespace Rc
open PySem PySem.Spec PyProof.Rows L2 RZ
/-! ### what is told, as data -/
def ringD : Option (List Str) → PyData
  | none => .none
  | some r => .list (r.map .str)
def endD : Option Str → PyData
  | none => .none
  | some z => .str z
theorem RingV.dt {K : PySem.W.Frag} {H H' : Hp} {v : V} {o : Option (List Str)} (h : RingV H H' v o) : Dt K H' v (ringD o) := by
  cases o with
  | none =>
    have e : v = .non := h
    subst e
    exact .non
  | some r =>
    obtain ⟨a, rfl, _, e⟩ := h
    exact .lst (.inl (.inl e)) (DtAll.strs r)
theorem end_dt {K : PySem.W.Frag} {H : Hp} (o : Option Str) : Dt K H (nxV o) (endD o) := by
  cases o with
  | none => exact .non
  | some z => exact .str z
theorem NiceD.mono {d : PyData} {n m : Nat} (h : NiceD d n) (hm : n ≤ m) : NiceD d m := ⟨h.sh, h.lv, h.nd, h.dp, Nat.le_trans h.bk hm, h.cl⟩
theorem nice_none : NiceD .none 0 :=
  ⟨by simp only [PyData.showable], by simp only [PyData.leavesShort], by simp only [PyData.hasDict], by simp only [PyData.depth]; omega, by simp only [PyData.bulk]; omega, by simp only [PyData.canLay0]⟩
/-- nice and shallow -/
structure NiceS (d : PyData) (n : Nat) : Prop where
  ok : NiceD d n
  dp : d.depth ≤ 4
theorem niceS_none : NiceS .none 200 := ⟨nice_none.mono (by decide), by simp only [PyData.depth]; omega⟩
theorem niceS_names {zs : List Str} (h : ∀ z ∈ zs, nameT z = true) (l : zs.length ≤ 12) : NiceS (.list (zs.map .str)) 200 := by
  refine ⟨(nice_names h).list.mono (by omega), ?_⟩
  simp only [PyData.depth]
  have := dep_map (f := PyData.str) (n := 0) (l := zs) fun _ _ => by simp only [PyData.depth]; omega
  omega
theorem niceS_name {z : Str} (h : nameT z = true) : NiceS (.str z) 200 := ⟨(nice_name h).mono (by decide), by simp only [PyData.depth]; omega⟩
theorem niceS_due {zs : List Str} (hz : ∀ z ∈ zs, nameT z = true) {o : Option (Str × Int)} (h : ∀ n, o = some n → NoteOk zs n) : NiceS (dueD o) 200 := by
  cases o with
  | none => exact niceS_none
  | some n =>
    obtain ⟨a, b⟩ := nice_note hz (h n rfl)
    exact ⟨a.mono (by decide), by show (noteD n).depth ≤ 4; omega⟩
theorem niceS_ring {o : Option (List Str)} (h : ∀ r, o = some r → (∀ z ∈ r, nameT z = true) ∧ r.length ≤ 12) : NiceS (ringD o) 200 := by
  cases o with
  | none => exact niceS_none
  | some r =>
    obtain ⟨a, b⟩ := h r rfl
    exact niceS_names a b
theorem niceS_end {o : Option Str} (h : ∀ z, o = some z → nameT z = true) : NiceS (endD o) 200 := by
  cases o with
  | none => exact niceS_none
  | some z => exact niceS_name (h z rfl)
inductive NiceL : List PyData → Prop
  | nil : NiceL []
  | cons {d : PyData} {ds : List PyData} : NiceS d 200 → NiceL ds → NiceL (d :: ds)
theorem NiceL.all : ∀ {ds : List PyData}, NiceL ds → NiceA ds (201 * ds.length)
  | _, .nil => NiceA.nil
  | _, .cons (ds := ds) a b => by
    have c := NiceA.cons a.ok a.dp (NiceL.all b)
    rw [List.length_cons]
    have e : 201 * (ds.length + 1) = 200 + 1 + 201 * ds.length := by omega
    rw [e]
    exact c
theorem NiceL.top {ds : List PyData} (h : NiceL ds) (l : ds.length ≤ 30) : NiceD (.list ds) 8000 := h.all.list.mono (by omega)
/-! ### rings and trails are of persons -/
theorem ring_names {zs : List Str} {nx : Str → Option Str} {z : Str} (nm : ∀ z ∈ zs, nameT z = true) (lz : zs.length ≤ 12) (c : Leads zs nx) (hz : z ∈ zs) : ∀ r, ringM zs nx z = some r → (∀ y ∈ r, nameT y = true) ∧ r.length ≤ 12 := fun r h => by
  have en := trail_ended c hz
  unfold ringM at h
  split at h
  · have e := Option.some.inj h
    subst e
    refine ⟨fun y hy => nm y (en.sub y ?_), ?_⟩
    · rcases List.mem_append.mp hy with hy | hy
      · exact List.mem_of_mem_drop hy
      · exact List.mem_of_mem_take hy
    · rw [List.length_append, List.length_drop, List.length_take]
      have := Nat.le_trans (nodup_le _ _ en.nd en.sub) lz
      omega
  · cases h
theorem trail_names {zs : List Str} {nx : Str → Option Str} {z : Str} (nm : ∀ z ∈ zs, nameT z = true) (lz : zs.length ≤ 12) (c : Leads zs nx) (hz : z ∈ zs) : (∀ y ∈ trailM zs nx z, nameT y = true) ∧ (trailM zs nx z).length ≤ 12 := by
  have en := trail_ended c hz
  exact ⟨fun y hy => nm y (en.sub y hy), Nat.le_trans (nodup_le _ _ en.nd en.sub) lz⟩
theorem end_names {zs : List Str} {nx : Str → Option Str} {z : Str} (nm : ∀ z ∈ zs, nameT z = true) (c : Leads zs nx) (hz : z ∈ zs) : ∀ y, endM zs nx z = some y → nameT y = true := fun y h => by
  have en := trail_ended c hz
  obtain ⟨ini, x, e1, _⟩ := en.last
  unfold endM at h
  split at h
  · have e := Option.some.inj h
    rw [lastM_eq e1] at e
    subst e
    exact nm _ (en.sub _ (by rw [e1]; exact List.mem_append.mpr (.inr List.mem_cons_self)))
  · cases h
/-! ### a note to oneself is a ring -/
theorem self_trail {zs : List Str} {nx : Str → Option Str} {z : Str} (h : nx z = some z) : trailM zs nx z = [z] := by
  unfold trailM
  rw [h, trailF_in List.mem_cons_self]
theorem self_last {zs : List Str} {nx : Str → Option Str} {z : Str} (h : nx z = some z) : lastM zs nx z = z := lastM_eq (ini := []) (self_trail h)
theorem self_ring {zs : List Str} {nx : Str → Option Str} {z : Str} (h : nx z = some z) (hz : z ∈ zs) : ringM zs nx z = some [z] := by
  obtain ⟨f, r, _, e1, e2, _⟩ := find_some (T := [z]) hz List.mem_cons_self
  have ef : f = z := List.mem_singleton.mp e2
  unfold ringM
  rw [self_last h, if_pos h, self_trail h, e1, ef]
  simp
theorem self_end {zs : List Str} {nx : Str → Option Str} {z : Str} (h : nx z = some z) : endM zs nx z = none := by
  unfold endM
  rw [self_last h, h]
  rfl
/-- x[0] if x != [] else None, x a list of notes -/
def tFirst (K : PySem.W.Frag) (i : Nat) : TE := fun σ H Q => ∃ (m : Addr) (mx : List V) (l : List (Str × Int)) (zs : List Str), σ[i]? = some (some (.ref m)) ∧ H m = some (.lst mx) ∧ DtAll K H mx (notesD l) ∧ (∀ n ∈ l, NoteOk zs n) ∧ (∀ z ∈ zs, nameT z = true) ∧
  ∀ v H', Same H H' → Dt K H' v (dueD l.head?) → Q v H'
end Rc

namespace Rc
open PySem PySem.Spec PyProof.Rows L2 RZ
/-! ### the most that can be paid, cleared -/
def mostP (M : Bk) (j : Nat) (z : Str) : Int := match (duesM M).getD j none with
  | none => 0
  | some n => if cashM M j z < n.2 then cashM M j z else n.2
def amtAt (zs : List Str) (os : List (Option (Str × Int))) (y : Str) : Int := match os.getD (zs.idxOf y) none with
  | none => 0
  | some n => n.2
def leastI : List Int → Int
  | [] => 0
  | x :: r => r.foldl (fun a b => if b < a then b else a) x
theorem least_fold : ∀ (r : List Int) (x : Int), (r.foldl (fun a b => if b < a then b else a) x = x ∨ r.foldl (fun a b => if b < a then b else a) x ∈ r) ∧ r.foldl (fun a b => if b < a then b else a) x ≤ x ∧ ∀ y ∈ r, r.foldl (fun a b => if b < a then b else a) x ≤ y
  | [], x => ⟨.inl rfl, Int.le_refl _, fun y hy => by cases hy⟩
  | b :: r, x => by
    obtain ⟨h1, h2, h3⟩ := least_fold r (if b < x then b else x)
    rw [List.foldl_cons]
    refine ⟨?_, ?_, fun y hy => ?_⟩
    · rcases h1 with h1 | h1
      · rw [h1]
        by_cases c : b < x
        · rw [if_pos c]
          exact .inr List.mem_cons_self
        · rw [if_neg c]
          exact .inl rfl
      · exact .inr (List.mem_cons_of_mem _ h1)
    · refine Int.le_trans h2 ?_
      split <;> omega
    · rcases List.mem_cons.mp hy with hy | hy
      · subst hy
        refine Int.le_trans h2 ?_
        split <;> omega
      · exact h3 y hy
theorem least_mem {ns : List Int} (h : ns ≠ []) : leastI ns ∈ ns ∧ ∀ y ∈ ns, leastI ns ≤ y := by
  cases ns with
  | nil => exact absurd rfl h
  | cons x r =>
    obtain ⟨h1, h2, h3⟩ := least_fold r x
    refine ⟨?_, fun y hy => ?_⟩
    · rcases h1 with h1 | h1
      · exact List.mem_cons.mpr (.inl h1)
      · exact List.mem_cons_of_mem _ h1
    · rcases List.mem_cons.mp hy with hy | hy
      · subst hy
        exact h2
      · exact h3 y hy
theorem least_uniq {ns : List Int} {m : Int} (h1 : m ∈ ns) (h2 : ∀ y ∈ ns, m ≤ y) : m = leastI ns := by
  obtain ⟨a, b⟩ := least_mem (ns := ns) (fun e => by rw [e] at h1; cases h1)
  have := h2 _ a
  have := b _ h1
  omega
def mostC (zs : List Str) (os : List (Option (Str × Int))) (z : Str) : Int := match ringM zs (nxOf zs os) z with
  | none => 0
  | some r => leastI (r.map (amtAt zs os))
theorem mostC_none {zs : List Str} {os : List (Option (Str × Int))} {z : Str} (h : ringM zs (nxOf zs os) z = none) : mostC zs os z = 0 := by
  unfold mostC
  rw [h]
theorem mostC_some {zs : List Str} {os : List (Option (Str × Int))} {z : Str} {r : List Str} (h : ringM zs (nxOf zs os) z = some r) : mostC zs os z = leastI (r.map (amtAt zs os)) := by
  unfold mostC
  rw [h]
theorem mostP_none {M : Bk} {j : Nat} {z : Str} (h : (duesM M).getD j none = none) : mostP M j z = 0 := by
  unfold mostP
  rw [h]
theorem mostP_some {M : Bk} {j : Nat} {z : Str} {n : Str × Int} (h : (duesM M).getD j none = some n) : mostP M j z = if cashM M j z < n.2 then cashM M j z else n.2 := by
  unfold mostP
  rw [h]
end Rc

namespace Rc
open PySem PySem.Spec PyProof.Rows L2 RZ
/-! ### bounds, for what is shown -/
structure Gb (D : Md) : Prop where
  gv : ∀ g ∈ D.given, 0 ≤ g ∧ g ≤ 100 * 10 ^ 58
  fw : ∀ (j : Nat) (l : List (Str × Int)) (f : Int), D.notes[j]? = some l → D.fallen[j]? = some f → f ≤ wholeN l
theorem wholeN_le {zs : List Str} : ∀ {l : List (Str × Int)}, (∀ n ∈ l, NoteOk zs n) → wholeN l ≤ (l.length : Int) * 10 ^ 58
  | [], _ => by simp [wholeN]
  | n :: r, h => by
    have ih := wholeN_le fun m hm => h m (List.mem_cons_of_mem _ hm)
    have h1 : n.2 ≤ 10 ^ 58 := (h n List.mem_cons_self).2.2
    rw [wholeN_cons, List.length_cons]
    have e : ((r.length + 1 : Nat) : Int) * 10 ^ 58 = (r.length : Int) * 10 ^ 58 + 10 ^ 58 := by
      rw [Int.natCast_add, Int.add_mul]
      rfl
    rw [e]
    omega
theorem sumTo_le (z : Str) : ∀ {l : List (Str × Int)} {f : Int}, (∀ n ∈ l, 1 ≤ n.2) → 0 ≤ f → 0 ≤ sumTo z (goneN l f) ∧ sumTo z (goneN l f) ≤ wholeN l
  | [], f, _, _ => ⟨Int.le_refl _, Int.le_refl _⟩
  | (t, a) :: r, f, h, f0 => by
    have h1 : 1 ≤ a := h _ List.mem_cons_self
    have hp : 0 ≤ partOf a f ∧ partOf a f ≤ f ∧ partOf a f ≤ a := by
      unfold partOf
      split <;> omega
    obtain ⟨i1, i2⟩ := sumTo_le z (l := r) (f := f - partOf a f) (fun m hm => h m (List.mem_cons_of_mem _ hm)) (by omega)
    rw [goneN_cons, sumTo_app, sumTo_one z t _ hp.1, wholeN_cons]
    have : 0 ≤ (if t = z then partOf a f else 0) ∧ (if t = z then partOf a f else 0) ≤ a := by
      split <;> omega
    exact ⟨by omega, by show _ ≤ a + wholeN r; omega⟩
theorem sums_le (z : Str) : ∀ {L : List (List (Str × Int) × Int)}, (∀ p ∈ L, (∀ n ∈ p.1, 1 ≤ n.2) ∧ 0 ≤ p.2) → 0 ≤ (L.map fun p => sumTo z (goneN p.1 p.2)).sum ∧ (L.map fun p => sumTo z (goneN p.1 p.2)).sum ≤ (L.map fun p => wholeN p.1).sum
  | [], _ => ⟨Int.le_refl _, Int.le_refl _⟩
  | p :: r, h => by
    obtain ⟨h1, h2⟩ := h p List.mem_cons_self
    obtain ⟨a, b⟩ := sumTo_le z h1 h2
    obtain ⟨i1, i2⟩ := sums_le z (L := r) fun q hq => h q (List.mem_cons_of_mem _ hq)
    simp only [List.map_cons, List.sum_cons]
    omega
theorem wholes_le {zs : List Str} : ∀ {L : List (List (Str × Int) × Int)}, (∀ p ∈ L, ∀ n ∈ p.1, NoteOk zs n) → (L.map fun p => wholeN p.1).sum ≤ (((L.map fun p => p.1.length).sum : Nat) : Int) * 10 ^ 58
  | [], _ => by simp
  | p :: r, h => by
    have h1 := wholeN_le (h p List.mem_cons_self)
    have ih := wholes_le (L := r) fun q hq => h q (List.mem_cons_of_mem _ hq)
    simp only [List.map_cons, List.sum_cons]
    rw [Int.natCast_add, Int.add_mul]
    omega
theorem Gs.fallTo {zs : List Str} {D : Md} (g : Gs zs D) (z : Str) : fallTo (bkOf zs D) z ≤ 60 * 10 ^ 58 := by
  have h1 := (sums_le z (L := D.notes.zip D.fallen) fun p hp => by
    obtain ⟨a, b⟩ := List.of_mem_zip hp
    exact ⟨fun n hn => (g.nt _ a n hn).2.1, g.fl _ b⟩).2
  have h2 := wholes_le (zs := zs) (L := D.notes.zip D.fallen) fun p hp => g.nt _ (List.of_mem_zip hp).1
  have h3 : ((D.notes.zip D.fallen).map fun p => p.1.length) = D.notes.map List.length := by
    rw [show (fun p : List (Str × Int) × Int => p.1.length) = List.length ∘ Prod.fst from rfl, ← List.map_map, List.map_fst_zip (by rw [g.ln, g.lf]; exact Nat.le_refl _)]
  rw [h3] at h2
  have h4 := g.my
  have h5 : ((D.notes.map List.length).sum : Int) * 10 ^ 58 ≤ 60 * 10 ^ 58 := Int.mul_le_mul_of_nonneg_right (by omega) (by decide)
  show ((D.notes.zip D.fallen).map fun p => sumTo z (goneN p.1 p.2)).sum ≤ _
  omega
theorem big_of {i : Int} (h0 : 0 ≤ i) (h1 : i ≤ 1000 * 10 ^ 58) : BigOk i := by
  have e : (1000 : Int) * 10 ^ 58 < 2 ^ 300 := by decide
  have e2 : ((2 ^ 300 : Nat) : Int) = 2 ^ 300 := by decide
  unfold BigOk
  omega
theorem Gb.bigs {zs : List Str} {D : Md} (b : Gb D) (g : Gs zs D) {j : Nat} {z : Str} {gv f : Int} {l : List (Str × Int)} (ej : zs[j]? = some z) (eg : D.given[j]? = some gv) (ef : D.fallen[j]? = some f) (el : D.notes[j]? = some l) :
    BigOk gv ∧ BigOk f ∧ BigOk (cashM (bkOf zs D) j z) := by
  obtain ⟨g0, g1⟩ := b.gv gv (List.mem_of_getElem? eg)
  have f0 := g.fl f (List.mem_of_getElem? ef)
  have f1 := b.fw j l f el ef
  have w1 := wholeN_le (g.nt l (List.mem_of_getElem? el))
  have ll := g.rows l (List.mem_of_getElem? el)
  have w2 : (l.length : Int) * 10 ^ 58 ≤ 60 * 10 ^ 58 := Int.mul_le_mul_of_nonneg_right (by omega) (by decide)
  have c0 := g.cs j z ej
  have c1 := g.fallTo z
  have ec : cashM (bkOf zs D) j z = gv + fallTo (bkOf zs D) z - f := by
    unfold cashM
    show D.given.getD j 0 + _ - D.fallen.getD j 0 = _
    rw [getD_of eg, getD_of ef]
  refine ⟨big_of g0 (by omega), big_of f0 (by omega), big_of c0 (by rw [ec]; omega)⟩
theorem Gd.gb {zs : List Str} {D : Md} {k : Nat} (h : Gd zs D k) : Gb D := by
  refine ⟨fun g hg => ?_, fun j l f el ef => ?_⟩
  · obtain ⟨a, b⟩ := h.gv g hg
    have k1 := h.k1
    have : (k : Int) * 10 ^ 58 ≤ 60 * 10 ^ 58 := Int.mul_le_mul_of_nonneg_right (by omega) (by decide)
    exact ⟨a, by omega⟩
  · have hf := List.mem_of_getElem? ef
    rw [h.zf] at hf
    rw [List.eq_of_mem_replicate hf]
    exact wholeN_nonneg fun n hn => (h.nt l (List.mem_of_getElem? el) n hn).2.1
theorem Gb.fell {D : Md} {j : Nat} {l : List (Str × Int)} {x : Int} (b : Gb D) (el : D.notes[j]? = some l) (hx : x ≤ wholeN l) : Gb (fellD D j x) := by
  refine ⟨b.gv, fun i l' f' el' ef' => ?_⟩
  have ef2 : (D.fallen.set j x)[i]? = some f' := ef'
  by_cases h : i = j
  · subst h
    have e : l' = l := Option.some.inj (Eq.trans (Eq.symm (show D.notes[i]? = some l' from el')) el)
    obtain ⟨hl, e2⟩ := List.getElem?_eq_some_iff.mp ef2
    rw [List.getElem_set_self] at e2
    rw [e, ← e2]
    exact hx
  · rw [List.getElem?_set_ne (fun c => h c.symm)] at ef2
    exact b.fw i l' f' el' ef2
theorem Gs.key {zs : List Str} {D : Md} (g : Gs zs D) : KeyOk (bkOf zs D) := by
  have ln : ∀ n : Str × Int, (noteD n).depth = 1 := fun n => by simp [noteD, PyData.depth, PyData.depthAll]
  have ls : ∀ l, (stackD l).depth ≤ 2 := fun l => by
    unfold stackD notesD
    simp only [PyData.depth]
    have := dep_map (f := noteD) (n := 1) (l := l) fun n _ => Nat.le_of_eq (ln n)
    omega
  have c1 : PyData.canLayAll0 (zs.map .str) = true := (nice_names g.nz.nm).cl
  have c2 : ∀ l : List Int, PyData.canLayAll0 (l.map .int) = true := fun l => lay_map fun x _ => by simp only [PyData.canLay0]
  have c3 : PyData.canLayAll0 (D.notes.map stackD) = true := lay_map fun l hl => by
    unfold stackD
    simp only [PyData.canLay0]
    exact (nice_notes g.nz.nm (g.nt l hl)).cl
  unfold KeyOk SeqAt.shaped
  have ec : (keyD (bkOf zs D)).canLay0 = true := by
    show (PyData.tuple [.tuple (zs.map .str), .tuple (D.given.map .int), .tuple (D.notes.map stackD), .tuple (D.fallen.map .int)]).canLay0 = true
    simp only [PyData.canLay0, PyData.canLayAll0, c1, c2, c3, Bool.and_self]
  have ed : (keyD (bkOf zs D)).depth ≤ 64 := by
    show (PyData.tuple [.tuple (zs.map .str), .tuple (D.given.map .int), .tuple (D.notes.map stackD), .tuple (D.fallen.map .int)]).depth ≤ 64
    simp only [PyData.depth, PyData.depthAll]
    have d1 := dep_map (f := PyData.str) (n := 0) (l := zs) fun _ _ => by simp only [PyData.depth]; omega
    have d2 := dep_map (f := PyData.int) (n := 0) (l := D.given) fun _ _ => by simp only [PyData.depth]; omega
    have d3 := dep_map (f := stackD) (n := 2) (l := D.notes) fun l _ => ls l
    have d4 := dep_map (f := PyData.int) (n := 0) (l := D.fallen) fun _ _ => by simp only [PyData.depth]; omega
    omega
  rw [ec, decide_eq_true ed]
  rfl
theorem key_eqv {M : Bk} (h : KeyOk M) : PyData.eqv (keyD M) (keyD M) = true := SeqAt.eqv_refl _ (SeqAt.canLay_of_shaped h)
theorem fold_eq (zs : List Str) : ∀ (ds : List Deed) (D : Md), ds.foldl stepM (bkOf zs D) = bkOf zs (ds.foldl (doneD zs) D)
  | [], _ => rfl
  | d :: r, D => by
    rw [List.foldl_cons, List.foldl_cons, step_eq, fold_eq zs r]
/-! ### rings hang together -/
def Chain (nx : Str → Option Str) (T : List Str) : Prop := ∀ (i : Nat) (x y : Str), T[i]? = some x → T[i + 1]? = some y → nx x = some y
theorem chain_snoc {nx : Str → Option Str} {ini : List Str} {l y : Str} (c : Chain nx (ini ++ [l])) (h : nx l = some y) : Chain nx (ini ++ [l] ++ [y]) := fun i a b h1 h2 => by
  have lb : i + 1 < (ini ++ [l] ++ [y]).length := (List.getElem?_eq_some_iff.mp h2).1
  rw [List.length_append] at lb
  have l1 : [y].length = 1 := rfl
  rw [List.getElem?_append_left (by omega)] at h1
  by_cases hi : i + 1 < (ini ++ [l]).length
  · rw [List.getElem?_append_left hi] at h2
    exact c i a b h1 h2
  · have ei : i = ini.length := by
      rw [List.length_append] at hi lb
      have l2 : [l].length = 1 := rfl
      omega
    subst ei
    rw [List.getElem?_append_right (by rw [List.length_append]; exact Nat.le_refl _)] at h2
    rw [List.getElem?_append_right (Nat.le_refl _)] at h1
    simp at h1 h2
    rw [← h1, ← h2]
    exact h
theorem trail_chain {nx : Str → Option Str} : ∀ (k : Nat) (ini : List Str) (l : Str) (d : Option Str), Chain nx (ini ++ [l]) → d = nx l → Chain nx (trailF nx k (ini ++ [l]) d)
  | 0, _, _, _, c, _ => c
  | k + 1, ini, l, none, c, _ => c
  | k + 1, ini, l, some y, c, e => by
    simp only [trailF]
    split
    · exact c
    · exact trail_chain k (ini ++ [l]) y (nx y) (chain_snoc c e.symm) rfl
theorem trailM_chain (zs : List Str) (nx : Str → Option Str) (z : Str) : Chain nx (trailM zs nx z) :=
  trail_chain zs.length [] z (nx z) (fun i x y _ h => by simp at h) rfl
/-- each person of a ring has a due note -/
theorem ring_due {zs : List Str} {nx : Str → Option Str} {z : Str} {r : List Str} (ld : Leads zs nx) (hz : z ∈ zs) (h : ringM zs nx z = some r) : ∀ y ∈ r, y ∈ zs ∧ ∃ x, nx y = some x := fun y hy => by
  have en := trail_ended ld hz
  have ch := trailM_chain zs nx z
  unfold ringM at h
  split at h
  · rename_i hl
    have e := Option.some.inj h
    subst e
    have hyT : y ∈ trailM zs nx z := by
      rcases List.mem_append.mp hy with hy | hy
      · exact List.mem_of_mem_drop hy
      · exact List.mem_of_mem_take hy
    refine ⟨en.sub y hyT, ?_⟩
    obtain ⟨i, hi, e⟩ := List.getElem_of_mem hyT
    by_cases hl' : i + 1 < (trailM zs nx z).length
    · exact ⟨_, ch i y _ (by rw [List.getElem?_eq_getElem hi, e]) (List.getElem?_eq_getElem hl')⟩
    · obtain ⟨ini, l, eT, _⟩ := en.last
      have el : y = l := by
        have h1 : (trailM zs nx z)[i]? = some y := by rw [List.getElem?_eq_getElem hi, e]
        rw [eT] at h1 hi hl'
        rw [List.length_append] at hi hl'
        have l1 : [l].length = 1 := rfl
        rw [List.getElem?_append_right (by omega)] at h1
        have : i - ini.length = 0 := by omega
        rw [this] at h1
        simpa using h1.symm
      rw [lastM_eq eT] at hl
      exact ⟨z, el ▸ hl⟩
  · cases h
end Rc

namespace Rc
open PySem PySem.Spec PyProof.Rows L2 RZ
section
variable {P : Program} {w : World} {K : PySem.W.Frag} {mg : Str → Option Value} {base : Heap}
abbrev sLDs : Stmt := topS 49
theorem scLDs : FnScope ["_law_pot_here", "_law_names_here", "_law_many", "_law_size", "_law_found", "_law_k"] ["_law_pot_here", "_law_names_here", "_law_many", "_law_size"] (defScope sLDs) := ⟨rfl, rfl, rfl, by decide +kernel, rfl, by decide +kernel, by decide +kernel⟩
def spLDs (K : PySem.W.Frag) : Sp := fun vs H Q _ => ∃ (p nl : Addr) (zs : List Str) (m : Nat) (sz : Int), vs = [.ref p, .ref nl, .int (m : Nat), .int sz] ∧ (sz = 0 ∨ sz = 1) ∧ Pot H p ∧ nl ≠ p ∧ H nl = some (.lst (List.map V.str zs)) ∧ 1 ≤ zs.length ∧ zs.length ≤ 1000 ∧ m ≤ 60 ∧
  ∀ r xs ds H', H r = none → r ≠ p → H' r = some (.lst xs) → DtAll K H' xs (deedsD ds) → ds.length = m → (∀ d ∈ ds, d.Ok zs) → Pot H' p → But p H H' → Q (.ref r) H'
theorem ok_lds {f fT fA fM : Addr} {fd fdT fdA fdM : FuncData} (F : Fun K "_law_deeds" "_law_deeds" sLDs f fd) (B2 : Blt2 mg) (T : HasTake P w K mg base fT fdT) (A : HasAmong P w K mg base fA fdA)
    (AM : Has P w K mg base 2 "_law_amount" ["_law_pot_here", "_law_size"] spLAm fM fdM) : FnOk P w K mg base CX0 3 f fd ["_law_pot_here", "_law_names_here", "_law_many", "_law_size"] (spLDs K) := by
  refine F.ok scLDs (fun vs H Q E h => ?_) (fun cdv Ar outer s H vs Q E hr h => ?_)
  · obtain ⟨_, _, _, _, _, rfl, _⟩ := h
    rfl
  · obtain ⟨p, nl, zs, m, sz, rfl, hsz, hp, np, hn, z0, z1, hm, q⟩ := h
    have hr1 := hr.mono (show 1 ≤ 2 by decide)
    refine ⟨_, pss_cons (ps_set (i := 4) scLDs.nd rfl (.inl rfl) (pe_lst pa_nil))
      (pss_cons (ps_for PassesOwn.never rfl (pi_range1 (by rfl) B2.range (pa_cons (pv 2) pa_nil)) (pg_name (i := 5) scLDs.nd rfl (.inl rfl))
        (pss_one (ps_if (pt_cmpR op_eq (pe_call T.ok hr1 (by rfl) T.g T.kp T.b .nil pass0 (pa_cons (pv 0) (pa_cons pe_int pa_nil))) pe_int (nomark _))
          (pss_one (ps_expr (pe_bm PySem.F.plainAttrs_list PySem.F.slot_list_append PySem.F.type_list_append mt_append (pv 4) (pa_cons (pe_tup (pa_cons pe_str (pa_cons (pe_call A.ok hr (by rfl) A.g A.kp A.b .nil pass0 (pa_cons (pv 0) (pa_cons (pv 1) pa_nil)))
            (pa_cons (pe_call AM.ok hr (by rfl) AM.g AM.kp AM.b .nil pass0 (pa_cons (pv 0) (pa_cons (pv 3) pa_nil))) pa_nil)))) pa_nil))))
          (pss_one (ps_expr (pe_bm PySem.F.plainAttrs_list PySem.F.slot_list_append PySem.F.type_list_append mt_append (pv 4) (pa_cons (pe_tup (pa_cons pe_str (pa_cons (pe_call A.ok hr (by rfl) A.g A.kp A.b .nil pass0 (pa_cons (pv 0) (pa_cons (pv 1) pa_nil)))
            (pa_cons (pe_call A.ok hr (by rfl) A.g A.kp A.b .nil pass0 (pa_cons (pv 0) (pa_cons (pv 1) pa_nil))) (pa_cons (pe_call AM.ok hr (by rfl) AM.g AM.kp AM.b .nil pass0 (pa_cons (pv 0) (pa_cons (pv 3) pa_nil))) pa_nil))))) pa_nil)))))))
      (pss_one (ps_ret (pv 4)))), ?_⟩
    refine ⟨Nat.zero_le _, fun r nr => ?_⟩
    have rp : r ≠ p := by
      obtain ⟨x, y, e, _⟩ := hp
      exact (ne_of_none e nr).symm
    have rn : nl ≠ r := ne_of_none hn nr
    refine ⟨_, rfl, _, rfl, by omega, by omega, ?_⟩
    refine for_it walk_range (fun i σ H' => ∃ xs ds y5, σ = [some (.ref p), some (.ref nl), some (.int (m : Nat)), some (.int sz), some (.ref r), y5] ∧ H' r = some (.lst xs) ∧ DtAll K H' xs (deedsD ds) ∧ ds.length = i ∧ (∀ d ∈ ds, d.Ok zs) ∧ Pot H' p ∧ But p H H')
      ⟨[], [], _, rfl, upd_same, .nil, rfl, fun z hz => absurd hz List.not_mem_nil, hp.new nr, But.new nr⟩ (fun _ _ _ _ _ => trivial) (fun i x σ H1' H1 hi hP hY => ?_) (fun σ H1 hP => ?_)
    · obtain ⟨rfl, rfl⟩ := hY
      obtain ⟨xs, ds, y5, rfl, hr1', dd, ld, od, hp1, hb1⟩ := hP
      have hi' : i < m := by simpa using hi
      have lx : xs.length = i := by
        rw [dd.len]
        unfold deedsD
        rw [List.length_map, ld]
      have potr : ∀ H', Pot H' p → ∀ o, Pot (upd H' r o) p := fun H' hp' o => by
        obtain ⟨x, y, e, rr⟩ := hp'
        exact ⟨x, y, by rw [upd_ne rp.symm]; exact e, rr⟩
      -- the row with one deed more
      have more : ∀ (H' : Hp) (t : Addr) (us : List V) (d : Deed), Pot H' p → But p H1 H' → H' t = none → (∀ H'', KT H' H'' → H'' t = some (.tup us) → Dt K H'' (.ref t) (deedD d)) → d.Ok zs →
          ∃ xs' ds' y5', [some (V.ref p), some (.ref nl), some (.int (m : Nat)), some (.int sz), some (.ref r), some (.int (0 + (i : Nat)))] = [some (.ref p), some (.ref nl), some (.int (m : Nat)), some (.int sz), some (.ref r), y5'] ∧
            upd (upd H' t (.tup us)) r (.lst (xs ++ [.ref t])) r = some (.lst xs') ∧ DtAll K (upd (upd H' t (.tup us)) r (.lst (xs ++ [.ref t]))) xs' (deedsD ds') ∧ ds'.length = i + 1 ∧ (∀ d ∈ ds', d.Ok zs) ∧ Pot (upd (upd H' t (.tup us)) r (.lst (xs ++ [.ref t]))) p ∧
            But p H (upd (upd H' t (.tup us)) r (.lst (xs ++ [.ref t]))) := fun H' t us d hp' hb' nt hd ok => by
        have hr' := hb' _ _ rp hr1'
        have tr : t ≠ r := (ne_of_none hr' nt).symm
        have kt : KT H' (upd (upd H' t (.tup us)) r (.lst (xs ++ [.ref t]))) := (kt_same (same_upd nt)).trans (kt_upd (o := .lst xs) (by rw [upd_ne tr.symm]; exact hr') fun z => z)
        have k1 : KT H1 H' := fun b o e t' => hb' b o (fun z => by
          obtain ⟨x, y, e', _⟩ := hp1
          rw [z, e'] at e
          cases e
          exact t') e
        refine ⟨xs ++ [.ref t], ds ++ [d], _, rfl, upd_same, ?_, by rw [List.length_append, ld]; rfl, fun d' h' => ?_, potr _ (hp'.new nt) _, fun b o n e => ?_⟩
        · unfold deedsD
          rw [List.map_append]
          exact (DtAll.keepT (k1.trans kt) _ (tup_deeds ds) dd).append (.cons (hd _ kt (by rw [upd_ne tr, upd_same])) .nil)
        · rcases List.mem_append.mp h' with h' | h'
          · exact od d' h'
          · rw [List.mem_singleton.mp h']
            exact ok
        · have br : b ≠ r := ne_of_none e nr
          have e2 := hb' _ _ n (hb1 _ _ n e)
          rw [upd_ne br, upd_ne (ne_of_none e2 nt)]
          exact e2
      have lzs : 0 < (zs.map V.str).length := by
        rw [List.length_map]
        omega
      have lzs2 : (zs.map V.str).length ≤ 1000 := by
        rw [List.length_map]
        exact z1
      have memS : ∀ {v : V}, v ∈ zs.map V.str → ∃ z ∈ zs, v = .str z := fun {v} h => by
        obtain ⟨z, hz, rfl⟩ := List.mem_map.mp h
        exact ⟨z, hz, rfl⟩
      refine ⟨.ref p, rfl, p, 3, rfl, hp1, litM _ (by decide) (by decide), fun k H2 k0 k1 hp2 hb2 => ⟨rfl, _, rfl, ite2 (fun e => ?_) (fun e => ?_)⟩⟩
      · refine ⟨.ref r, rfl, .inl ⟨rfl, _, .inl (.inl (hb2 _ _ rp hr1'))⟩, .ref p, rfl, .ref nl, rfl, p, _, rfl, hp2, .inr ⟨nl, _, rfl, np, hb2 _ _ np (hb1 _ _ np hn), lzs, lzs2, fun v H3 hv hp3 hb3 => ?_⟩⟩
        obtain ⟨z, hz, rfl⟩ := memS hv
        refine ⟨.ref p, rfl, .int sz, rfl, p, sz, rfl, hsz, hp3, fun n H4 hn4 hp4 hb4 => ⟨by show 3 ≤ sizeLine; decide, fun t nt => ?_⟩⟩
        have hb14 := hb2.trans (hb3.trans hb4)
        refine ⟨r, xs, _, rfl, rfl, by rw [upd_ne (ne_of_none (hb14 _ _ rp hr1') nt)]; exact hb14 _ _ rp hr1', small1000 (by omega), ?_⟩
        exact more H4 t _ (.give z n) hp4 hb14 nt (fun H'' _ ht => .tup (.inl (.inl ht)) (.cons (.str _) (.cons (.str _) (.cons (.int _) .nil)))) ⟨hz, hn4⟩
      · refine ⟨.ref r, rfl, .inl ⟨rfl, _, .inl (.inl (hb2 _ _ rp hr1'))⟩, .ref p, rfl, .ref nl, rfl, p, _, rfl, hp2, .inr ⟨nl, _, rfl, np, hb2 _ _ np (hb1 _ _ np hn), lzs, lzs2, fun v H3 hv hp3 hb3 => ?_⟩⟩
        obtain ⟨z, hz, rfl⟩ := memS hv
        refine ⟨.ref p, rfl, .ref nl, rfl, p, _, rfl, hp3, .inr ⟨nl, _, rfl, np, (hb2.trans hb3) _ _ np (hb1 _ _ np hn), lzs, lzs2, fun v' H5 hv' hp5 hb5 => ?_⟩⟩
        obtain ⟨y, hy, rfl⟩ := memS hv'
        refine ⟨.ref p, rfl, .int sz, rfl, p, sz, rfl, hsz, hp5, fun n H4 hn4 hp4 hb4 => ⟨by show 4 ≤ sizeLine; decide, fun t nt => ?_⟩⟩
        have hb14 := hb2.trans (hb3.trans (hb5.trans hb4))
        refine ⟨r, xs, _, rfl, rfl, by rw [upd_ne (ne_of_none (hb14 _ _ rp hr1') nt)]; exact hb14 _ _ rp hr1', small1000 (by omega), ?_⟩
        exact more H4 t _ (.put z y n) hp4 hb14 nt (fun H'' _ ht => .tup (.inl (.inl ht)) (.cons (.str _) (.cons (.str _) (.cons (.str _) (.cons (.int _) .nil))))) ⟨hz, hy, hn4⟩
    · obtain ⟨xs, ds, y5, rfl, hr1', dd, ld, od, hp1, hb1⟩ := hP
      exact ⟨.ref r, rfl, q r xs ds H1 nr rp hr1' dd (by simpa using ld) od hp1 hb1⟩
end
end Rc

namespace Rc
open PySem PySem.Spec PyProof.Rows L2 RZ
section
variable {P : Program} {w : World} {K : PySem.W.Frag} {mg : Str → Option Value} {base : Heap}
/-! ### _law_cash -/
abbrev sLCs : Stmt := topS 45
abbrev nLCs : List Str := ["_law_model_here", "_law_owner", "_law_found", "_law_name_here", "_law_goal", "_law_coins"]
theorem scLCs : FnScope nLCs ["_law_model_here", "_law_owner"] (defScope sLCs) := ⟨rfl, rfl, rfl, by decide +kernel, rfl, by decide +kernel, by decide +kernel⟩
def spLCs (K : PySem.W.Frag) : Sp := fun vs H Q _ => ∃ (a : MdA) (D : Md) (zs : List Str) (z : Str) (j : Nat), vs = [.ref a.m, .str z] ∧ ModelAt K H zs a D ∧ zs[j]? = some z ∧ RowsOk D ∧ ∀ H', Same H H' → Q (.int (cashD D j z)) H'
theorem ok_lcs {f fp : Addr} {fd fdp : FuncData} (F : Fun K "_law_cash" "_law_cash" sLCs f fd) (B3 : Blt3 mg) (PT : Has P w K mg base 1 "_law_parted" ["_law_model_here", "_law_owner"] (spLPt K) fp fdp) : FnOk P w K mg base CX0 2 f fd ["_law_model_here", "_law_owner"] (spLCs K) := by
  refine F.ok scLCs (fun vs H Q E h => ?_) (fun cdv Ar outer s H vs Q E hr h => ?_)
  · obtain ⟨_, _, _, _, _, rfl, _⟩ := h
    rfl
  · obtain ⟨a, D, zs, z, j, rfl, hM, ej, ro, q⟩ := h
    have hu := hu_of hr
    refine ⟨_, pss_cons (ps_set (i := 2) scLCs.nd rfl (.inl rfl) (pe_op op_sub (pe_dget hu (pe_dget hu (pv 0) pe_str (fun _ _ => rfl)) (pv 1) (fun _ _ => rfl)) (pe_dget hu (pe_dget hu (pv 0) pe_str (fun _ _ => rfl)) (pv 1) (fun _ _ => rfl))))
      (pss_cons (ps_for PassesOwn.never rfl (pi_list (pe_dget hu (pv 0) pe_str (fun _ _ => rfl))) (pg_name (i := 3) scLCs.nd rfl (.inl rfl))
        (pss_one (ps_set (i := 2) scLCs.nd rfl (.inl rfl) (pe_op op_add (pv 2) (pe_callB (cr_sum rfl) (by rfl) B3.sum (by decide +kernel) (pa_cons
          (pe_lc (own := [("_law_goal", 4), ("_law_coins", 5)]) (g := gTup K 2 (gCons (gName 4) (gCons (gName 5) gNil))) rfl scLCs.nd
            (pi_list (pe_ix ix_tup (pe_call PT.ok hr (by rfl) PT.g PT.kp PT.b .nil pass0 (pa_cons (pv 0) (pa_cons (pv 3) pa_nil))) pe_int (fun _ _ => rfl)))
            (blkOk_by (N := nLCs) (sc := defScope sLCs) (own := [("_law_goal", 4), ("_law_coins", 5)]) (by decide +kernel))
            (fun _ _ _ _ _ => pg_tup rfl (pgs_cons (pg_name (i := 4) scLCs.nd rfl (.inl rfl) (hf := .inr rfl)) (pgs_cons (pg_name (i := 5) scLCs.nd rfl (.inl rfl) (hf := .inr rfl)) pgs_nil)))
            (fun _ _ _ _ _ => pts_one (pt_cmpR op_eq (pv 4) (pv 1) (nomark _))) (fun _ _ _ _ _ => pv 5)) pa_nil))))))
      (pss_one (ps_ret (pv 2)))), ?_⟩
    obtain ⟨gv, f', l', r, xs, eg, ef, el', er, hr0, hd0⟩ := hM.at_ ej
    refine ⟨.ref a.m, rfl, a.m, .ref a.dg, rfl, hM.g1, .str z, rfl, a.dg, .int gv, rfl, hM.gg ej eg, .ref a.m, rfl, a.m, .ref a.df, rfl, hM.g2, .str z, rfl, a.df, .int f', rfl, hM.gf ej ef, _, _, rfl, rfl, ?_⟩
    refine ⟨.ref a.m, rfl, a.m, .ref a.lo, rfl, hM.g0, a.lo, rfl, ⟨_, .inl (.inl hM.ho)⟩, ?_⟩
    refine for_it (walk_list (K := K) (a := a.lo) (xs := zs.map V.str)) (fun i σ H' => ∃ y3 y4 y5, σ = [some (.ref a.m), some (.str z), some (.int (gv - f' + (((D.notes.zip D.fallen).take i).map fun p => sumTo z (goneN p.1 p.2)).sum)), y3, y4, y5] ∧ Same H H')
      ⟨_, _, _, by simp; rfl, Same.refl _⟩ (fun i σ H' _ hP => ?_) (fun i x σ H2' H2 hi hP hY => ?_) (fun σ H' hP => ?_)
    · obtain ⟨_, _, _, _, s1⟩ := hP
      exact .inl (.inl (s1 _ _ hM.ho))
    · obtain ⟨rfl, hx⟩ := hY
      obtain ⟨y3, y4, y5, rfl, s2⟩ := hP
      rw [List.length_map] at hi
      have exx : x = .str zs[i] := by
        rw [List.getElem?_map, List.getElem?_eq_getElem hi] at hx
        exact (Option.some.inj hx).symm
      subst exx
      have hs : i < D.notes.length := by rw [hM.ln]; exact hi
      have hdr : i < D.fallen.length := by rw [hM.lf]; exact hi
      have ll := ro _ (List.getElem_mem hs)
      refine ⟨_, rfl, .ref a.m, rfl, .str zs[i], rfl, a, D, zs, _, i, _, _, rfl, model_same hM s2, List.getElem?_eq_getElem hi, List.getElem?_eq_getElem hs, List.getElem?_eq_getElem hdr, by omega, fun t g m gx mx H4 s4 ht ng nm hg hm dg dm => ?_⟩
      refine ⟨t, _, 0, .ref g, rfl, rfl, .inl (.inl ht), rfl, g, rfl, ⟨_, .inl (.inl hg)⟩, fun D' nD => ?_⟩
      generalize hG : goneN D.notes[i] D.fallen[i] = G at dg
      have lg : gx.length = G.length := by
        rw [dg.len]
        unfold notesD
        rw [List.length_map]
      have lG : G.length ≤ 60 := by
        rw [← hG]
        exact Nat.le_trans (goneN_len _ _) ll
      refine lc_it (walk_list (K := K) (a := g) (xs := gx)) (fun i' H' => Same H4 H' ∧ H' D' = some (.lst (((G.take i').filter fun n => decide (n.1 = z)).map fun n => .int n.2))) ⟨same_upd nD, upd_same⟩ (fun i' H' _ hP => hP.1.seq (.inl (.inl hg)))
        (fun i' x' H5' H5 hi' hP hY => ?_) (fun H5 hP => ?_)
      · obtain ⟨rfl, hx'⟩ := hY
        obtain ⟨hil, dn⟩ := (DtAll.same hP.1 _ dg).notes_get hx'
        obtain ⟨na, rfl, qn⟩ := note_inv dn
        refine ⟨na, _, rfl, qn, rfl, _, _, rfl, _, _, rfl, rfl, rfl, _, rfl, _, rfl, rfl, _, rfl, ?_⟩
        have tk := take_succ hil
        by_cases hz : G[i'].1 = z
        · rw [show decide (V.str G[i'].1 = V.str z) = true from decide_eq_true (by rw [hz])]
          refine iteT ⟨_, rfl, _, hP.2, ?_, fun c o ec => ?_, ?_⟩
          · rw [List.length_map]
            have := List.length_filter_le (fun n : Str × Int => decide (n.1 = z)) (G.take i')
            rw [List.length_take] at this
            exact small1000 (by omega)
          · rw [upd_ne (ne_of_none ec nD)]
            exact hP.1 c o ec
          · rw [upd_same, tk, List.filter_append, List.map_append]
            simp [hz]
        · rw [show decide (V.str G[i'].1 = V.str z) = false from decide_eq_false (fun c => hz (V.str.inj c))]
          refine iteF ⟨hP.1, ?_⟩
          rw [hP.2, tk, List.filter_append]
          simp [hz]
      · refine ⟨D', (G.filter fun n => decide (n.1 = z)).map (·.2), rfl, .inl (.inl ?_), _, _, rfl, rfl, ?_⟩
        · rw [hP.2, lg, List.take_length, List.map_map]
          rfl
        refine ⟨some (.str zs[i]), y4, y5, ?_, s2.trans (s4.trans hP.1)⟩
        have tk : (D.notes.zip D.fallen).take (i + 1) = (D.notes.zip D.fallen).take i ++ [(D.notes[i], D.fallen[i])] := by
          rw [List.take_add_one, List.getElem?_zip_eq_some (z := (D.notes[i], D.fallen[i])) |>.mpr ⟨List.getElem?_eq_getElem hs, List.getElem?_eq_getElem hdr⟩]
          rfl
        rw [tk, List.map_append, List.sum_append]
        simp only [List.map_cons, List.map_nil, List.sum_cons, List.sum_nil, Int.add_zero]
        rw [hG, ← Int.add_assoc]
        rfl
    · obtain ⟨y3, y4, y5, rfl, s2⟩ := hP
      refine ⟨_, rfl, ?_⟩
      rw [List.take_of_length_le (by rw [List.length_zip, hM.ln, hM.lf, Nat.min_self, List.length_map]; exact Nat.le_refl _)]
      have ec : cashD D j z = gv - f' + ((D.notes.zip D.fallen).map fun p => sumTo z (goneN p.1 p.2)).sum := by
        unfold cashD sumsD
        rw [getD_of eg, getD_of ef]
      rw [← ec]
      exact q _ s2
end
end Rc

namespace Rc
open PySem PySem.Spec PyProof.Rows L2 RZ
section
variable {P : Program} {w : World} {K : PySem.W.Frag} {mg : Str → Option Value} {base : Heap}
/-! ### _law_done -/
abbrev sLDn : Stmt := topS 50
theorem scLDn : FnScope ["_law_model_here", "_law_deed"] ["_law_model_here", "_law_deed"] (defScope sLDn) := ⟨rfl, rfl, rfl, by decide +kernel, rfl, by decide +kernel, by decide +kernel⟩
def spLDn (K : PySem.W.Frag) : Sp := fun vs H Q _ => ∃ (a : MdA) (D : Md) (zs : List Str) (v : V) (d : Deed), vs = [.ref a.m, v] ∧ ModelAt K H zs a D ∧ Dt K H v (deedD d) ∧ d.Ok zs ∧ zs.length ≤ 13 ∧ RowsOk D ∧ ∀ H', ButF a H H' → ModelAt K H' zs a (doneD zs D d) → Q .non H'
theorem ok_ldn {f : Addr} {fd : FuncData} (F : Fun K "_law_done" "_law_done" sLDn f fd) : FnOk P w K mg base CX0 1 f fd ["_law_model_here", "_law_deed"] (spLDn K) := by
  refine F.ok scLDn (fun vs H Q E h => ?_) (fun cdv Ar outer s H vs Q E hr h => ?_)
  · obtain ⟨_, _, _, _, _, rfl, _⟩ := h
    rfl
  · obtain ⟨a, D, zs, v, d, rfl, hM, hd, od, lz, ro, q⟩ := h
    have hu := hu_of hr
    refine ⟨_, pss_one (ps_if (pt_cmpR op_eq (pe_ix ix_tupD (pv 1) pe_int (fun _ _ => rfl)) pe_str (nomark _))
      (pss_one (ps_dput hu (pe_dget hu (pv 0) pe_str (fun _ _ => rfl)) (pe_ix ix_tupD (pv 1) pe_int (fun _ _ => rfl))
        (pe_op op_add (pe_dget hu (pe_dget hu (pv 0) pe_str (fun _ _ => rfl)) (pe_ix ix_tupD (pv 1) pe_int (fun _ _ => rfl)) (fun _ _ => rfl)) (pe_ix ix_tupD (pv 1) pe_int (fun _ _ => rfl))) rfl))
      (pss_one (ps_expr (pe_bm PySem.F.plainAttrs_list PySem.F.slot_list_append PySem.F.type_list_append mt_append (pe_dget hu (pe_dget hu (pv 0) pe_str (fun _ _ => rfl)) (pe_ix ix_tupD (pv 1) pe_int (fun _ _ => rfl)) (fun _ _ => rfl))
        (pa_cons (pe_tup (pa_cons (pe_ix ix_tupD (pv 1) pe_int (fun _ _ => rfl)) (pa_cons (pe_ix ix_tupD (pv 1) pe_int (fun _ _ => rfl)) pa_nil))) pa_nil))))), ?_⟩
    cases d with
    | give z n =>
      have ej := idx_get od.1
      obtain ⟨gv, f', l', r, xs, eg, ef, el, er, hr0, hd0⟩ := hM.at_ ej
      refine ⟨v, rfl, _, 0, .str "give", hd, rfl, rfl, fun v0 d0 => ?_⟩
      cases d0
      refine ⟨rfl, _, rfl, ?_⟩
      rw [decide_eq_true rfl]
      refine iteT ⟨.ref a.m, rfl, a.m, .ref a.dg, rfl, hM.g1, v, rfl, _, 1, .str z, hd, rfl, rfl, fun v1 d1 => ?_⟩
      cases d1
      refine ⟨a.dg, .int gv, rfl, hM.gg ej eg, v, rfl, _, 2, .int n, hd, rfl, rfl, fun v2 d2 => ?_⟩
      cases d2
      refine ⟨_, _, rfl, rfl, .ref a.m, rfl, a.m, .ref a.dg, rfl, hM.g1, v, rfl, _, 1, .str z, hd, rfl, rfl, fun v3 d3 => ?_⟩
      cases d3
      have hj : zs.idxOf z < D.given.length := by
        rw [hM.lg]
        exact List.idxOf_lt_length_of_mem od.1
      refine ⟨a.dg, _, rfl, DPut.k (k := Sum.inr z) hM.hg (by rw [dct_len (by rw [List.length_map, hM.lg])]; exact small1000 (by omega)), ?_⟩
      rw [dct_put hM.zn ej (by rw [List.length_map]; exact hj), map_set V.int]
      have bf' : ButF a H (upd H a.dg (.dK (dct zs ((D.given.set (zs.idxOf z) (gv + n)).map V.int)))) := fun b o nf e => by
        rw [upd_ne (fun z => nf (.inl z))]
        exact e
      have rne : ∀ r ∈ a.rs, r ≠ a.dg := fun r hr z => by
        obtain ⟨i, hi, e'⟩ := List.getElem_of_mem hr
        have hn : i < D.notes.length := by
          rw [hM.ln, ← hM.lr]
          exact hi
        obtain ⟨xs, e1, _⟩ := hM.rows i r _ (by rw [List.getElem?_eq_getElem hi, e']) (List.getElem?_eq_getElem hn)
        rw [z, hM.hg] at e1
        cases e1
      have lone : a.lo ≠ a.dg := fun z => by
        have := hM.ho
        rw [z, hM.hg] at this
        cases this
      refine q _ bf' ⟨?_, ?_, ?_, ?_, ?_, fun i r l e1 e2 => ?_, hM.nd, hM.olo, hM.ogf, hM.ogn, hM.ogm, hM.omn, hM.zn, ?_, hM.lf, hM.ln, hM.lr⟩
      · rw [upd_ne hM.ogm.symm]
        exact hM.hm
      · rw [upd_ne lone]
        exact hM.ho
      · rw [upd_same]
        show _ = some (HO.dK (dct zs ((D.given.set (zs.idxOf z) (D.given.getD (zs.idxOf z) 0 + n)).map V.int)))
        rw [getD_of eg]
      · rw [upd_ne hM.ogf.symm]
        exact hM.hf
      · rw [upd_ne hM.ogn.symm]
        exact hM.hn
      · obtain ⟨xs, e3, d3⟩ := hM.rows i r l e1 e2
        refine ⟨xs, ?_, DtAll.keepT (bf'.kt hM) _ (tup_notes l) d3⟩
        rw [upd_ne (rne r (List.mem_of_getElem? e1))]
        exact e3
      · show (D.given.set _ _).length = _
        rw [List.length_set]
        exact hM.lg
    | put z y n =>
      have ej := idx_get od.1
      obtain ⟨gv, f', l', r, xs, eg, ef, el, er, hr0, hd0⟩ := hM.at_ ej
      refine ⟨v, rfl, _, 0, .str "put", hd, rfl, rfl, fun v0 d0 => ?_⟩
      cases d0
      refine ⟨rfl, _, rfl, ?_⟩
      rw [decide_eq_false give_ne_put]
      refine iteF ⟨.ref a.m, rfl, a.m, .ref a.dn, rfl, hM.g3, v, rfl, _, 1, .str z, hd, rfl, rfl, fun v1 d1 => ?_⟩
      cases d1
      refine ⟨a.dn, .ref r, rfl, hM.gn ej er, .inl ⟨rfl, _, .inl (.inl hr0)⟩, v, rfl, _, 2, .str y, hd, rfl, rfl, fun v2 d2 => ?_⟩
      cases d2
      refine ⟨v, rfl, _, 3, .int n, hd, rfl, rfl, fun v3 d3 => ?_⟩
      cases d3
      refine ⟨by show 2 ≤ sizeLine; decide, fun t nt => ?_⟩
      have tr : t ≠ r := (ne_of_none hr0 nt).symm
      have lx : xs.length ≤ 60 := by
        rw [hd0.len]
        unfold notesD
        rw [List.length_map]
        exact ro _ (List.mem_of_getElem? el)
      refine ⟨r, xs, _, rfl, rfl, by rw [upd_ne tr.symm]; exact hr0, small1000 (by omega), ?_⟩
      have rm : r ∈ a.rs := List.mem_of_getElem? er
      have bf' : ButF a H (upd (upd H t (.tup [V.str y, V.int n])) r (.lst (xs ++ [V.ref t]))) := fun b o nf e => by
        have nb : b ≠ r := fun z => nf (.inr (by rw [z]; exact rm))
        rw [upd_ne nb, upd_ne (ne_of_none e nt)]
        exact e
      have keepD : ∀ {b : Addr} {o : HO}, b ≠ r → H b = some o → upd (upd H t (.tup [V.str y, V.int n])) r (.lst (xs ++ [V.ref t])) b = some o := fun {b o} n e => by
        rw [upd_ne n, upd_ne (ne_of_none e nt)]
        exact e
      have dne : ∀ {b : Addr} {kvs : List (Key × V)}, H b = some (.dK kvs) → b ≠ r := fun {b kvs} e z => by
        rw [z, hr0] at e
        cases e
      refine q _ bf' ⟨keepD (dne hM.hm) hM.hm, keepD (fun z => hM.olo (by rw [z]; exact rm)) hM.ho, keepD (dne hM.hg) hM.hg, keepD (dne hM.hf) hM.hf, keepD (dne hM.hn) hM.hn, fun i r' l e1 e2 => ?_, hM.nd, hM.olo, hM.ogf, hM.ogn, hM.ogm, hM.omn, hM.zn, hM.lg, hM.lf, ?_, hM.lr⟩
      · have hkt := bf'.kt hM
        by_cases hi : i = zs.idxOf z
        · have er' : r' = r := by
            rw [hi, er] at e1
            exact (Option.some.inj e1).symm
          subst er'
          have e2' : (D.notes.set (zs.idxOf z) (D.notes.getD (zs.idxOf z) [] ++ [(y, n)]))[i]? = some l := e2
          rw [hi, List.getElem?_set_self (by rw [hM.ln]; exact List.idxOf_lt_length_of_mem od.1), getD_of el] at e2'
          cases e2'
          refine ⟨_, upd_same, ?_⟩
          unfold notesD
          rw [List.map_append]
          refine (DtAll.keepT hkt _ (tup_notes l') hd0).append (.cons (.tup (.inl (.inl ?_)) (.cons (.str _) (.cons (.int _) .nil))) .nil)
          rw [upd_ne tr, upd_same]
        · have e2' : (D.notes.set (zs.idxOf z) (D.notes.getD (zs.idxOf z) [] ++ [(y, n)]))[i]? = some l := e2
          rw [List.getElem?_set_ne (fun c => hi c.symm)] at e2'
          obtain ⟨xs', e3, d3⟩ := hM.rows i r' l e1 e2'
          have nr' : r' ≠ r := fun c => by
            obtain ⟨h1, k1⟩ := List.getElem?_eq_some_iff.mp e1
            obtain ⟨h2, k2⟩ := List.getElem?_eq_some_iff.mp er
            exact hi ((List.getElem_inj hM.nd).mp (k1.trans (c.trans k2.symm)))
          exact ⟨xs', keepD nr' e3, DtAll.keepT hkt _ (tup_notes l) d3⟩
      · show (D.notes.set _ _).length = _
        rw [List.length_set]
        exact hM.ln
end
end Rc

namespace Rc
open PySem PySem.Spec PyProof.Rows L2 RZ
section
variable {P : Program} {w : World} {K : PySem.W.Frag} {mg : Str → Option Value} {base : Heap}
/-! ### _law_booked -/
abbrev sLBk : Stmt := topS 51
theorem scLBk : FnScope ["_law_tome", "_law_deeds_here", "_law_deed"] ["_law_tome", "_law_deeds_here"] (defScope sLBk) := ⟨rfl, rfl, rfl, by decide +kernel, rfl, by decide +kernel, by decide +kernel⟩
def spLBk (K : PySem.W.Frag) (C : Addr) : Sp := fun vs H Q _ => ∃ (b : Addr) (M : Bk) (dl : Addr) (xs : List V) (ds : List Deed), vs = [.ref b, .ref dl] ∧ BookAt K C H b M ∧ M.Ok ∧ H dl = some (.lst xs) ∧ DtAll K H xs (deedsD ds) ∧ (∀ d ∈ ds, d.Ok M.names) ∧ manyM M + ds.length ≤ 60 ∧
  ∀ b' H', Same H H' → BookAt K C H' b' (ds.foldl stepM M) → Q (.ref b') H'
theorem ok_lbk {f f1 f2 C : Addr} {fd fd1 fd2 : FuncData} (F : Fun K "_law_booked" "_law_booked" sLBk f fd) (T : ClsF K C) (GV : HasM P w K mg base C 6 "give" ["self", "who", "amount"] (spGive K C) f1 fd1) (PU : HasM P w K mg base C 6 "put" ["self", "who", "to", "amount"] (spPut K C) f2 fd2) :
    FnOk P w K mg base CX0 7 f fd ["_law_tome", "_law_deeds_here"] (spLBk K C) := by
  refine F.ok scLBk (fun vs H Q E h => ?_) (fun cdv Ar outer s H vs Q E hr h => ?_)
  · obtain ⟨_, _, _, _, _, rfl, _⟩ := h
    rfl
  · obtain ⟨b, M, dl, xs, ds, rfl, hb, ok, hl, hd, od, hm, q⟩ := h
    refine ⟨_, pss_cons (ps_for PassesOwn.never rfl (pi_list (pv 1)) (pg_name (i := 2) scLBk.nd rfl (.inl rfl))
      (pss_one (ps_set (i := 0) scLBk.nd rfl (.inl rfl) (pe_ifExp (pt_cmpR op_eq (pe_ix ix_tupD (pv 2) pe_int (fun _ _ => rfl)) pe_str (nomark _))
        (pe_meth (pv 0) T.cl GV.m GV.ok hr GV.b .nil pass0 (pa_cons (pe_ix ix_tupD (pv 2) pe_int (fun _ _ => rfl)) (pa_cons (pe_ix ix_tupD (pv 2) pe_int (fun _ _ => rfl)) pa_nil)))
        (pe_meth (pv 0) T.cl PU.m PU.ok hr PU.b .nil pass0 (pa_cons (pe_ix ix_tupD (pv 2) pe_int (fun _ _ => rfl)) (pa_cons (pe_ix ix_tupD (pv 2) pe_int (fun _ _ => rfl)) (pa_cons (pe_ix ix_tupD (pv 2) pe_int (fun _ _ => rfl)) pa_nil))))))))
      (pss_one (ps_ret (pv 0))), ?_⟩
    have lx : xs.length = ds.length := by
      rw [hd.len]
      unfold deedsD
      rw [List.length_map]
    refine ⟨.ref dl, rfl, dl, rfl, ⟨_, .inl (.inl hl)⟩, ?_⟩
    refine for_it (walk_list (K := K) (a := dl) (xs := xs)) (fun i σ H' => ∃ b' y2, σ = [some (.ref b'), some (.ref dl), y2] ∧ Same H H' ∧ BookAt K C H' b' ((ds.take i).foldl stepM M)) ⟨b, _, rfl, Same.refl _, hb⟩ (fun i σ H' _ hP => ?_) (fun i x σ H1' H1 hi hP hY => ?_) (fun σ H' hP => ?_)
    · obtain ⟨_, _, _, s1, _⟩ := hP
      exact .inl (.inl (s1 _ _ hl))
    · obtain ⟨rfl, hx⟩ := hY
      obtain ⟨b', y2, rfl, s1, hb1⟩ := hP
      have hid : i < ds.length := by omega
      obtain ⟨ok1, mm1, nm1⟩ := dfold_ok (ds.take i) ok (fun d hd => od d (List.mem_of_mem_take hd)) (by rw [List.length_take]; omega)
      have oki : ds[i].Ok ((ds.take i).foldl stepM M).names := by
        rw [nm1]
        exact od _ (List.getElem_mem hid)
      obtain ⟨v', g1, d1⟩ := (DtAll.same s1 _ hd).get (n := i) (d := deedD ds[i]) (map_get (List.getElem?_eq_getElem hid))
      rw [hx] at g1
      cases g1
      have tk := take_succ hid
      have ef : (ds.take (i + 1)).foldl stepM M = stepM ((ds.take i).foldl stepM M) ds[i] := by
        rw [tk, List.foldl_append]
        rfl
      rw [List.length_take] at mm1
      obtain ⟨dx, tn, on, wg, ws, wd, e, h1, hn, h2, h3, h4⟩ := hb1.ex
      cases hdd : ds[i] with
      | give z n =>
        rw [hdd] at d1 oki ef
        refine ⟨x, rfl, _, 0, .str "give", d1, rfl, rfl, fun v0 d0 => ?_⟩
        cases d0
        refine ⟨rfl, _, rfl, ?_⟩
        rw [decide_eq_true rfl]
        refine iteT ⟨.ref b', rfl, b', dx, _, rfl, e, bf_no (NoF.mk' (by decide +kernel)), x, rfl, _, 1, .str z, d1, rfl, rfl, fun v1 d1' => ?_⟩
        cases d1'
        refine ⟨x, rfl, _, 2, .int n, d1, rfl, rfl, fun v2 d2 => ?_⟩
        cases d2
        refine ⟨b', _, z, _, n, rfl, hb1, ok1, idx_get oki.1, oki.2.1, fun b2 H2 s2 nb hb2 => ?_⟩
        refine ⟨b2, _, rfl, s1.trans s2, ?_⟩
        rw [ef]
        exact hb2
      | put z y n =>
        rw [hdd] at d1 oki ef
        refine ⟨x, rfl, _, 0, .str "put", d1, rfl, rfl, fun v0 d0 => ?_⟩
        cases d0
        refine ⟨rfl, _, rfl, ?_⟩
        rw [decide_eq_false give_ne_put]
        refine iteF ⟨.ref b', rfl, b', dx, _, rfl, e, bf_no (NoF.mk' (by decide +kernel)), x, rfl, _, 1, .str z, d1, rfl, rfl, fun v1 d1' => ?_⟩
        cases d1'
        refine ⟨x, rfl, _, 2, .str y, d1, rfl, rfl, fun v2 d2 => ?_⟩
        cases d2
        refine ⟨x, rfl, _, 3, .int n, d1, rfl, rfl, fun v3 d3 => ?_⟩
        cases d3
        refine ⟨b', _, z, y, _, _, n, rfl, hb1, ok1, idx_get oki.1, idx_get oki.2.1, oki.2.2.1, by omega, fun b2 H2 s2 nb hb2 => ?_⟩
        refine ⟨b2, _, rfl, s1.trans s2, ?_⟩
        rw [ef]
        exact hb2
    · obtain ⟨b', y2, rfl, s1, hb1⟩ := hP
      rw [lx, List.take_length] at hb1
      exact ⟨.ref b', rfl, q b' H' s1 hb1⟩
end
end Rc

namespace Rc
open PySem PySem.Spec PyProof.Rows L2 RZ
section
variable {P : Program} {w : World} {K : PySem.W.Frag} {mg : Str → Option Value} {base : Heap}
/-! ### _law_alike, whatever has fallen -/
abbrev sLAl : Stmt := topS 52
abbrev nLAl : List Str := ["_law_model_here", "_law_tome", "_law_owner", "_law_told", "_law_wanted"]
theorem scLAl : FnScope nLAl ["_law_model_here", "_law_tome"] (defScope sLAl) := ⟨rfl, rfl, rfl, by decide +kernel, rfl, by decide +kernel, by decide +kernel⟩
def spLAl (K : PySem.W.Frag) (C : Addr) : Sp := fun vs H Q _ => ∃ (a : MdA) (D : Md) (zs : List Str) (b : Addr), vs = [.ref a.m, .ref b] ∧ ModelAt K H zs a D ∧ BookAt K C H b (bkOf zs D) ∧ Gs zs D ∧ Gb D ∧ ∀ H', Same H H' → Q (.bl true) H'
def toldD (g f c : Int) (l p : List (Str × Int)) : PyData := .list [.int g, .int f, .int c, .list (notesD l), .list (notesD p)]
theorem notes_depth {zs : List Str} (hz : ∀ z ∈ zs, nameT z = true) : ∀ {l : List (Str × Int)}, (∀ n ∈ l, NoteOk zs n) → PyData.depthAll (notesD l) ≤ 1
  | [], _ => Nat.zero_le _
  | a :: r, h => by
    show PyData.depthAll (noteD a :: notesD r) ≤ 1
    simp only [PyData.depthAll]
    have h1 := (nice_note hz (h a List.mem_cons_self)).2
    have h2 := notes_depth hz fun n hn => h n (List.mem_cons_of_mem _ hn)
    omega
theorem nice_told {zs : List Str} (hz : ∀ z ∈ zs, nameT z = true) {g f c : Int} {l p : List (Str × Int)} (hg : BigOk g) (hf : BigOk f) (hc : BigOk c) (hl : ∀ n ∈ l, NoteOk zs n) (ll : l.length ≤ 60) (hp : ∀ n ∈ p, NoteOk zs n) (lp : p.length ≤ 60) : NiceD (toldD g f c l p) 8000 := by
  have nl := (nice_notes hz hl).list
  have np := (nice_notes hz hp).list
  have dl : (PyData.list (notesD l)).depth ≤ 4 := by
    simp only [PyData.depth]
    have := notes_depth hz hl
    omega
  have dp : (PyData.list (notesD p)).depth ≤ 4 := by
    simp only [PyData.depth]
    have := notes_depth hz hp
    omega
  have z4 : ∀ i : Int, (PyData.int i).depth ≤ 4 := fun i => by simp only [PyData.depth]; omega
  have a := (NiceA.cons (nice_int hg) (z4 _) (NiceA.cons (nice_int hf) (z4 _) (NiceA.cons (nice_int hc) (z4 _) (NiceA.cons nl dl (NiceA.cons np dp NiceA.nil))))).list
  exact ⟨a.sh, a.lv, a.nd, a.dp, Nat.le_trans a.bk (by omega), a.cl⟩
theorem ok_lal {f f1 f2 f3 f4 f5 f6 f7 f8 C : Addr} {fd fd1 fd2 fd3 fd4 fd5 fd6 fd7 fd8 : FuncData} (F : Fun K "_law_alike" "_law_alike" sLAl f fd) (T : ClsF K C) (B2 : Blt2 mg)
    (PE1 : HasM P w K mg base C 1 "persons" ["self"] (spPersons K C) f1 fd1) (GV : HasM P w K mg base C 4 "given" ["self", "who"] (spNum K C Bk.gifts) f2 fd2) (FL : HasM P w K mg base C 4 "fallen" ["self", "who"] (spNum K C Bk.drops) f3 fd3)
    (CS : HasM P w K mg base C 5 "cash" ["self", "who"] (spCalc K C cashM) f4 fd4) (NT : HasM P w K mg base C 4 "notes" ["self", "who"] (spRow K C fun l _ => l) f5 fd5) (PL : HasM P w K mg base C 5 "pile" ["self", "who"] (spRow K C leftN) f6 fd6)
    (LC : Has P w K mg base 2 "_law_cash" ["_law_model_here", "_law_owner"] (spLCs K) f7 fd7) (LL : Has P w K mg base 2 "_law_left" ["_law_model_here", "_law_owner"] (spLLf K) f8 fd8) :
    FnG P w K mg base CX0 6 f fd ["_law_model_here", "_law_tome"] (spLAl K C) := by
  refine okG0 F scLAl (fun vs H Q E h => ?_) (fun cdv Ar outer s H vs Q E hr hgd h => ?_)
  · obtain ⟨_, _, _, _, rfl, _⟩ := h
    rfl
  · obtain ⟨a, D, zs, b, rfl, hM, hb, g, gb, q⟩ := h
    have nz := g.nz
    have hu := hu_of hr
    have hr1 := hr.mono (show 1 ≤ 5 by decide)
    have hr2 := hr.mono (show 2 ≤ 5 by decide)
    have hr4 := hr.mono (show 4 ≤ 5 by decide)
    refine ⟨_, pss_cons (ps_if (pt_cmpR (op_neD hr.units) (pe_meth0 (pv 1) T.cl PE1.m PE1.ok hr1 PE1.b .nil pass0) (pe_dget hu (pv 0) pe_str (fun _ _ => rfl)) (nomark _)) (pss_one (ps_ret pe_bl)) pss_nil)
      (pss_cons (ps_for PassesOwn.never rfl (pi_list (pe_dget hu (pv 0) pe_str (fun _ _ => rfl))) (pg_name (i := 2) scLAl.nd rfl (.inl rfl))
        (pss_cons (ps_set (i := 3) scLAl.nd rfl (.inl rfl) (pe_lst (pa_cons (pe_meth (pv 1) T.cl GV.m GV.ok hr4 GV.b .nil pass0 (pa_cons (pv 2) pa_nil)) (pa_cons (pe_meth (pv 1) T.cl FL.m FL.ok hr4 FL.b .nil pass0 (pa_cons (pv 2) pa_nil))
          (pa_cons (pe_meth (pv 1) T.cl CS.m CS.ok hr CS.b .nil pass0 (pa_cons (pv 2) pa_nil)) (pa_cons (pe_meth (pv 1) T.cl NT.m NT.ok hr4 NT.b .nil pass0 (pa_cons (pv 2) pa_nil)) (pa_cons (pe_meth (pv 1) T.cl PL.m PL.ok hr PL.b .nil pass0 (pa_cons (pv 2) pa_nil)) pa_nil)))))))
        (pss_cons (ps_set (i := 4) scLAl.nd rfl (.inl rfl) (pe_lst (pa_cons (pe_dget hu (pe_dget hu (pv 0) pe_str (fun _ _ => rfl)) (pv 2) (fun _ _ => rfl)) (pa_cons (pe_dget hu (pe_dget hu (pv 0) pe_str (fun _ _ => rfl)) (pv 2) (fun _ _ => rfl))
          (pa_cons (pe_call LC.ok hr2 (by rfl) LC.g LC.kp LC.b .nil pass0 (pa_cons (pv 0) (pa_cons (pv 2) pa_nil))) (pa_cons (pe_dget hu (pe_dget hu (pv 0) pe_str (fun _ _ => rfl)) (pv 2) (fun _ _ => rfl)) pa_nil))))))
        (pss_one (ps_if (pt_cmpR op_ne (pe_callB (call_repr hr hgd) (by rfl) B2.repr (by decide +kernel) (pa_cons (pv 3) pa_nil))
          (pe_callB (call_repr hr hgd) (by rfl) B2.repr (by decide +kernel) (pa_cons (pe_op op_cat (pv 4) (pe_lst (pa_cons (pe_call LL.ok hr2 (by rfl) LL.g LL.kp LL.b .nil pass0 (pa_cons (pv 0) (pa_cons (pv 2) pa_nil))) pa_nil))) pa_nil)) (nomark _))
          (pss_one (ps_ret pe_bl)) pss_nil)))))
      (pss_one (ps_ret pe_bl))), ?_⟩
    obtain ⟨dx, tn, on, wg, ws, wd, e, h1, hn, h2, h3, h4⟩ := hb.ex
    have okb := g.ok
    have nn := nice_names nz.nm
    refine ⟨.ref b, rfl, b, dx, _, rfl, e, bf_no (NoF.mk' (by decide +kernel)), b, _, rfl, hb, fun l nl => ?_⟩
    have s1 := same_upd (o := .lst ((bkOf zs D).names.map V.str)) nl
    have hM1 := model_same hM s1
    refine ⟨.ref a.m, rfl, a.m, .ref a.lo, rfl, hM1.g0, .list (zs.map .str), .list (zs.map .str), .lst (.inl (.inl upd_same)) (DpAll.strs zs), .lst (.inl (.inl hM1.ho)) (DpAll.strs zs), nice_shaped nn.list, nice_shaped nn.list, _, rfl, ?_⟩
    rw [SeqAt.eqv_refl _ nn.list.cl]
    refine iteF ?_
    refine ⟨.ref a.m, rfl, a.m, .ref a.lo, rfl, hM1.g0, a.lo, rfl, ⟨_, .inl (.inl hM1.ho)⟩, ?_⟩
    refine for_it (walk_list (K := K) (a := a.lo) (xs := zs.map V.str)) (fun i σ H' => ∃ y2 y3 y4, σ = [some (.ref a.m), some (.ref b), y2, y3, y4] ∧ Same H H') ⟨_, _, _, rfl, s1⟩ (fun i σ H' _ hP => ?_) (fun i x σ H2' H2 hi hP hY => ?_) (fun σ H' hP => ?_)
    · obtain ⟨_, _, _, _, s2⟩ := hP
      exact .inl (.inl (s2 _ _ hM.ho))
    · obtain ⟨rfl, hx⟩ := hY
      obtain ⟨y2, y3, y4, rfl, s2⟩ := hP
      rw [List.length_map] at hi
      have exx : x = .str zs[i] := by
        rw [List.getElem?_map, List.getElem?_eq_getElem hi] at hx
        exact (Option.some.inj hx).symm
      subst exx
      have ej : zs[i]? = some zs[i] := List.getElem?_eq_getElem hi
      obtain ⟨gv, f', l', r, xs, eg, ef, el, er, hr0, hd0⟩ := hM.at_ ej
      have hl' := g.nt l' (List.mem_of_getElem? el)
      have ll' := g.rows l' (List.mem_of_getElem? el)
      have gl := g.left el ef
      have lp : (leftN l' f').length ≤ 60 := Nat.le_trans (leftN_len _ _) ll'
      obtain ⟨bg, bff, bc⟩ := gb.bigs g ej eg ef el
      generalize hc : cashM (bkOf zs D) i zs[i] = cc at bc
      generalize hpl : leftN l' f' = pl at gl lp
      have noB : ∀ {m : Str}, ((m == "names") || (m == "gifts") || (m == "stacks") || (m == "drops")) = false → (bf (.ref tn) wg ws wd).lookup m = none := fun h => bf_no (NoF.mk' h)
      -- told
      refine ⟨.ref b, rfl, b, dx, _, rfl, s2 _ _ e, noB (by decide +kernel), .str zs[i], rfl, b, _, _, i, gv, rfl, book_same hb s2, nz, ej, eg, fun H3 s3 => ?_⟩
      have s23 := s2.trans s3
      refine ⟨.ref b, rfl, b, dx, _, rfl, s23 _ _ e, noB (by decide +kernel), .str zs[i], rfl, b, _, _, i, f', rfl, book_same hb s23, nz, ej, ef, fun H4 s4 => ?_⟩
      have s24 := s23.trans s4
      refine ⟨.ref b, rfl, b, dx, _, rfl, s24 _ _ e, noB (by decide +kernel), .str zs[i], rfl, b, _, _, i, rfl, book_same hb s24, okb, ej, fun H5 s5 => ?_⟩
      rw [hc]
      have s25 := s24.trans s5
      refine ⟨.ref b, rfl, b, dx, _, rfl, s25 _ _ e, noB (by decide +kernel), .str zs[i], rfl, b, _, _, i, l', f', rfl, book_same hb s25, nz, ej, el, ef, by omega, fun r1 x1 H6 s6 nr1 hr1' d1 => ?_⟩
      have s26 := s25.trans s6
      refine ⟨.ref b, rfl, b, dx, _, rfl, s26 _ _ e, noB (by decide +kernel), .str zs[i], rfl, b, _, _, i, l', f', rfl, book_same hb s26, nz, ej, el, ef, by omega, fun r2 x2 H7 s7 nr2 hr2' d2 => ⟨by show 5 ≤ sizeLine; decide, fun t1 nt1 => ?_⟩⟩
      rw [hpl] at d2
      have s8 := same_upd (o := .lst [V.int gv, V.int f', V.int cc, V.ref r1, V.ref r2]) nt1
      have s28 := s26.trans (s7.trans s8)
      generalize hH8 : upd H7 t1 (.lst [V.int gv, V.int f', V.int cc, V.ref r1, V.ref r2]) = H8 at s8 s28
      have ht1 : H8 t1 = some (.lst [V.int gv, V.int f', V.int cc, V.ref r1, V.ref r2]) := by
        rw [← hH8, upd_same]
      have hM8 := model_same hM s28
      -- wanted
      refine ⟨.ref a.m, rfl, a.m, .ref a.dg, rfl, hM8.g1, .str zs[i], rfl, a.dg, .int gv, rfl, hM8.gg ej eg, .ref a.m, rfl, a.m, .ref a.df, rfl, hM8.g2, .str zs[i], rfl, a.df, .int f', rfl, hM8.gf ej ef, .ref a.m, rfl, .str zs[i], rfl, a, D, zs, _, i, rfl, hM8, ej, g.rows, fun H9 s9 => ?_⟩
      have ec2 : cashD D i zs[i] = cc := by
        rw [← cash_eq zs]
        exact hc
      rw [ec2]
      have s29 := s28.trans s9
      have hM9 := model_same hM s29
      refine ⟨.ref a.m, rfl, a.m, .ref a.dn, rfl, hM9.g3, .str zs[i], rfl, a.dn, .ref r, rfl, hM9.gn ej er, by show 4 ≤ sizeLine; decide, fun t2 nt2 => ?_⟩
      have s10 := same_upd (o := .lst [V.int gv, V.int f', V.int cc, V.ref r]) nt2
      generalize hH10 : upd H9 t2 (.lst [V.int gv, V.int f', V.int cc, V.ref r]) = H10 at s10
      have ht2 : H10 t2 = some (.lst [V.int gv, V.int f', V.int cc, V.ref r]) := by
        rw [← hH10, upd_same]
      have s210 := s29.trans s10
      have dTold : Dt K H10 (.ref t1) (toldD gv f' cc l' pl) := .lst (.inl (.inl (s10 _ _ (s9 _ _ ht1)))) (.cons (.int _) (.cons (.int _) (.cons (.int _) (.cons (.lst (.inl (.inl ((s9.trans s10) _ _ (s8 _ _ (s7 _ _ hr1'))))) (DtAll.same ((s7.trans s8).trans (s9.trans s10)) _ d1))
        (.cons (.lst (.inl (.inl ((s9.trans s10) _ _ (s8 _ _ hr2')))) (DtAll.same (s8.trans (s9.trans s10)) _ d2)) .nil)))))
      have nt := nice_told nz.nm bg bff bc hl' ll' gl lp
      have dp20 : (toldD gv f' cc l' pl).depth ≤ 20 := by
        have := nt.dp
        omega
      refine ⟨.ref t1, rfl, .ref t1, toldD gv f' cc l' pl, rfl, dTold, nt.sh, .inl nt.nd, dp20, nice_fits nt (Nat.le_refl _), ?_⟩
      have hM10 := model_same hM s210
      refine ⟨.ref t2, rfl, .ref a.m, rfl, .str zs[i], rfl, a, D, zs, _, i, l', f', rfl, hM10, ej, el, ef, by omega, fun m mx H11 s11 nm hm dm => ⟨by show 1 ≤ sizeLine; decide, fun t3 nt3 => ?_⟩⟩
      rw [hpl] at dm
      have s12 := s11.trans (same_upd (o := .lst [V.ref m]) nt3)
      refine ⟨t2, t3, _, _, rfl, rfl, s12 _ _ ht2, upd_same, by show 4 + 1 ≤ sizeLine; decide, fun t4 nt4 => ?_⟩
      have s13 := same_upd (o := .lst ([V.int gv, V.int f', V.int cc, V.ref r] ++ [V.ref m])) nt4
      have s1013 := s12.trans s13
      have hMr : ∀ {H' : Hp}, Same H H' → Dt K H' (.ref r) (.list (notesD l')) := fun {H'} sm => .lst (.inl (.inl (sm _ _ hr0))) (DtAll.same sm _ hd0)
      have dW : Dt K (upd (upd H11 t3 (.lst [V.ref m])) t4 (.lst ([V.int gv, V.int f', V.int cc, V.ref r] ++ [V.ref m]))) (.ref t4) (toldD gv f' cc l' pl) := .lst (.inl (.inl upd_same)) (.cons (.int _) (.cons (.int _) (.cons (.int _) (.cons (hMr (s210.trans s1013))
        (.cons (.lst (.inl (.inl (s13 _ _ (same_upd nt3 _ _ hm)))) (DtAll.same ((same_upd nt3).trans s13) _ dm)) .nil)))))
      refine ⟨_, _, rfl, dW, nt.sh, .inl nt.nd, dp20, nice_fits nt (Nat.le_refl _), rfl, _, rfl, ?_⟩
      exact iteNS rfl ⟨_, _, _, rfl, s210.trans s1013⟩
    · obtain ⟨_, _, _, rfl, s2⟩ := hP
      exact q _ s2
end
end Rc

namespace Rc
open PySem PySem.Spec PyProof.Rows L2 RZ
def mostW (zs : List Str) (D : Md) (wd z : Str) : Int := if wd = "pay" then mostP (bkOf zs D) (zs.idxOf z) z else mostC zs (duesM (bkOf zs D)) z
theorem pay_ne_clear : ¬ (V.str ("clear" : Str)) = V.str ("pay" : Str) := fun e => absurd (V.str.inj e) (by decide +kernel)
theorem clear_ne : ¬ ("clear" : Str) = "pay" := by decide +kernel
def stepW (p : Str × Str) : PyData := .tuple [.str p.1, .str p.2]
theorem tup_stepW (p : Str × Str) : tupD (stepW p) = true := by simp [stepW, tupD, tupDs]
def kindsW : List Str := ["pay", "clear"]
def stepsAt (zs : List Str) (D : Md) (z : Str) : List (Str × Str) := (kindsW.filter fun k => decide (0 < mostW zs D k z)).map fun k => (k, z)
def stepsW (zs : List Str) (D : Md) : List (Str × Str) := zs.flatMap (stepsAt zs D)
def fallAll (zs : List Str) (D : Md) (r : List Str) (m : Int) : Md := r.foldl (fun D y => fellD D (zs.idxOf y) (D.fallen.getD (zs.idxOf y) 0 + m)) D
theorem steps_len (zs : List Str) (D : Md) (z : Str) : (stepsAt zs D z).length ≤ 2 := by
  unfold stepsAt
  rw [List.length_map]
  exact List.length_filter_le _ _
end Rc

namespace Rc
open PySem PySem.Spec PyProof.Rows L2 RZ
/-! ### a ring goes round -/
theorem chain_tail {nx : Str → Option Str} {x : Str} {r : List Str} (c : Chain nx (x :: r)) : Chain nx r := fun i a b h1 h2 => c (i + 1) a b (by simpa using h1) (by simpa using h2)
theorem chain_map {nx : Str → Option Str} : ∀ (r : List Str) (x : Str), Chain nx (x :: r) → (x :: r).map nx = r.map some ++ [nx (r.getLastD x)]
  | [], x, _ => rfl
  | y :: r, x, c => by
    have ih := chain_map r y (chain_tail c)
    have e : nx x = some y := c 0 x y rfl rfl
    rw [List.map_cons, ih, e, List.map_cons]
    show some y :: (r.map some ++ [nx (r.getLastD y)]) = some y :: (r.map some) ++ [nx ((y :: r).getLastD x)]
    have : (y :: r).getLastD x = r.getLastD y := by cases r <;> simp [List.getLastD]
    rw [this]
    rfl
theorem ring_perm {zs : List Str} {nx : Str → Option Str} {z : Str} {r : List Str} (ld : Leads zs nx) (hz : z ∈ zs) (h : ringM zs nx z = some r) : (r.map nx).Perm (r.map some) ∧ r.Nodup ∧ (∀ y ∈ r, y ∈ zs) ∧ r ≠ [] := by
  have en := trail_ended ld hz
  have ch := trailM_chain zs nx z
  unfold ringM at h
  split at h
  · rename_i hl
    have e := Option.some.inj h
    subst e
    generalize hi : (trailM zs nx z).idxOf (firstM zs (trailM zs nx z)) = i
    obtain ⟨tl, eT⟩ := en.first
    have eL : tl.getLastD z = lastM zs nx z := by
      unfold lastM
      rw [eT]
      cases tl with
      | nil => rfl
      | cons a b => simp
    have p1 : ((trailM zs nx z).drop i ++ (trailM zs nx z).take i).Perm (trailM zs nx z) := by
      have := List.perm_append_comm (l₁ := (trailM zs nx z).drop i) (l₂ := (trailM zs nx z).take i)
      rw [List.take_append_drop] at this
      exact this
    have p2 : ((trailM zs nx z).map nx).Perm ((trailM zs nx z).map some) := by
      rw [eT] at ch ⊢
      rw [chain_map tl z ch, eL, hl, List.map_cons]
      exact List.perm_append_comm
    refine ⟨(p1.map nx).trans (p2.trans (p1.map some).symm), p1.symm.nodup en.nd, fun y hy => en.sub y (p1.mem_iff.mp hy), fun c => ?_⟩
    have := p1.length_eq
    rw [c, eT] at this
    simp at this
  · cases h
theorem ring_count {nx : Str → Option Str} {r : List Str} (p : (r.map nx).Perm (r.map some)) (nd : r.Nodup) (y : Str) : (r.filter fun x => decide (nx x = some y)).length = if y ∈ r then 1 else 0 := by
  have h1 := p.count_eq (some y)
  have h2 : (r.map nx).count (some y) = (r.filter fun x => decide (nx x = some y)).length := by
    rw [List.count, List.countP_map, List.countP_eq_length_filter]
    refine congrArg List.length (List.filter_congr fun x _ => ?_)
    show (nx x == some y) = decide (nx x = some y)
    by_cases h : nx x = some y
    · rw [h]
      simp
    · rw [decide_eq_false h]
      exact beq_false_of_ne h
  have h3 : (r.map some).count (some y) = r.count y := by
    rw [List.count, List.countP_map, List.count]
    congr 1
  rw [← h2, h1, h3]
  exact nd.count
/-! ### falling of several -/
theorem fell_cash {zs : List Str} {D : Md} {j : Nat} {t : Str} {l r : List (Str × Int)} {f m b : Int} (hn : ∀ n ∈ l, 1 ≤ n.2) (f0 : 0 ≤ f) (el : D.notes[j]? = some l) (ef : D.fallen[j]? = some f) (e : leftN l f = (t, b) :: r) (m0 : 0 ≤ m) (mb : m ≤ b)
    (i : Nat) (y : Str) : cashM (bkOf zs (fellD D j (f + m))) i y = cashM (bkOf zs D) i y + (if t = y then m else 0) - (if i = j then m else 0) := by
  obtain ⟨_, h2⟩ := fall_one hn f0 m0 mb e
  have e1 : fallTo (bkOf zs (fellD D j (f + m))) y = fallTo (bkOf zs D) y + (if t = y then m else 0) := by
    show ((D.notes.zip (D.fallen.set j (f + m))).map fun p => sumTo y (goneN p.1 p.2)).sum = ((D.notes.zip D.fallen).map fun p => sumTo y (goneN p.1 p.2)).sum + _
    rw [sum_zip_set (α := Nat) (fun p => sumTo y (goneN p.1 p.2)) D.notes D.fallen j l f (f + m) el ef]
    show _ + (sumTo y (goneN l (f + m)) - sumTo y (goneN l f)) = _
    rw [h2 y]
    omega
  have e2 : (bkOf zs (fellD D j (f + m))).drops.getD i 0 = (bkOf zs D).drops.getD i 0 + (if i = j then m else 0) := by
    show (D.fallen.set j (f + m)).getD i 0 = D.fallen.getD i 0 + _
    by_cases h : i = j
    · subst h
      rw [if_pos rfl, getD_of ef]
      have hj : i < D.fallen.length := (List.getElem?_eq_some_iff.mp ef).1
      rw [getD_of (List.getElem?_set_self hj)]
    · rw [if_neg h, List.getD_eq_getElem?_getD, List.getElem?_set_ne (fun c => h c.symm), List.getD_eq_getElem?_getD]
      omega
  unfold cashM
  rw [e1, e2]
  show (bkOf zs D).gifts.getD i 0 + _ - _ = _
  omega
theorem fallAll_cons (zs : List Str) (D : Md) (x : Str) (r : List Str) (m : Int) : fallAll zs D (x :: r) m = fallAll zs (fellD D (zs.idxOf x) (D.fallen.getD (zs.idxOf x) 0 + m)) r m := rfl
theorem fallAll_keeps (zs : List Str) (m : Int) : ∀ (r : List Str) (D : Md), (fallAll zs D r m).given = D.given ∧ (fallAll zs D r m).notes = D.notes ∧ (fallAll zs D r m).fallen.length = D.fallen.length
  | [], _ => ⟨rfl, rfl, rfl⟩
  | x :: r, D => by
    rw [fallAll_cons]
    obtain ⟨a, b, c⟩ := fallAll_keeps zs m r (fellD D (zs.idxOf x) (D.fallen.getD (zs.idxOf x) 0 + m))
    refine ⟨a, b, c.trans ?_⟩
    show (D.fallen.set _ _).length = _
    rw [List.length_set]
theorem fallAll_at {zs : List Str} (nd : zs.Nodup) (m : Int) : ∀ (r : List Str) (D : Md), r.Nodup → (∀ y ∈ r, y ∈ zs) → D.fallen.length = zs.length → ∀ (i : Nat) (y : Str) (f : Int), zs[i]? = some y → D.fallen[i]? = some f →
    (fallAll zs D r m).fallen[i]? = some (f + if y ∈ r then m else 0)
  | [], D, _, _, _, i, y, f, _, ef => by
    show D.fallen[i]? = _
    rw [ef]
    simp
  | x :: r, D, nr, sub, lf, i, y, f, ei, ef => by
    obtain ⟨n1, n2⟩ := List.nodup_cons.mp nr
    rw [fallAll_cons]
    have hx := sub x List.mem_cons_self
    have ex := idx_get hx
    have hxl : zs.idxOf x < D.fallen.length := by
      rw [lf]
      exact List.idxOf_lt_length_of_mem hx
    have ih := fallAll_at nd m r (fellD D (zs.idxOf x) (D.fallen.getD (zs.idxOf x) 0 + m)) n2 (fun y hy => sub y (List.mem_cons_of_mem _ hy)) (by show (D.fallen.set _ _).length = _; rw [List.length_set]; exact lf) i y
    by_cases h : i = zs.idxOf x
    · subst h
      have exy : x = y := Option.some.inj (ex.symm.trans ei)
      subst exy
      have e2 : (fellD D (zs.idxOf x) (D.fallen.getD (zs.idxOf x) 0 + m)).fallen[zs.idxOf x]? = some (f + m) := by
        show (D.fallen.set _ _)[_]? = _
        rw [List.getElem?_set_self hxl, getD_of ef]
      rw [ih _ ei e2, if_neg n1, if_pos List.mem_cons_self]
      congr 1
      omega
    · have hne : ¬ y = x := fun c => h (by
        rw [← c]
        obtain ⟨hi, e⟩ := List.getElem?_eq_some_iff.mp ei
        rw [← e]
        exact (nd.idxOf_getElem i hi).symm)
      have e2 : (fellD D (zs.idxOf x) (D.fallen.getD (zs.idxOf x) 0 + m)).fallen[i]? = some f := by
        show (D.fallen.set _ _)[_]? = _
        rw [List.getElem?_set_ne (fun c => h c.symm)]
        exact ef
      rw [ih _ ei e2]
      congr 1
      have : (y ∈ x :: r) ↔ y ∈ r := by
        rw [List.mem_cons]
        exact ⟨fun c => c.resolve_left hne, .inr⟩
      simp only [this]
/-- each of some persons has a due note of at least so much -/
def DuesOf (zs : List Str) (D : Md) (nx : Str → Option Str) (m : Int) (r : List Str) : Prop := ∀ x ∈ r, ∃ l f t b rest, D.notes[zs.idxOf x]? = some l ∧ D.fallen[zs.idxOf x]? = some f ∧ (∀ n ∈ l, 1 ≤ n.2) ∧ 0 ≤ f ∧ leftN l f = (t, b) :: rest ∧ m ≤ b ∧ nx x = some t
theorem fallAll_cash {zs : List Str} (nd : zs.Nodup) {nx : Str → Option Str} {m : Int} (m0 : 0 ≤ m) : ∀ (r : List Str) (D : Md), r.Nodup → (∀ y ∈ r, y ∈ zs) → DuesOf zs D nx m r → ∀ (i : Nat) (y : Str), zs[i]? = some y →
    cashM (bkOf zs (fallAll zs D r m)) i y = cashM (bkOf zs D) i y + m * ((r.filter fun x => decide (nx x = some y)).length : Int) - (if y ∈ r then m else 0)
  | [], D, _, _, _, i, y, _ => by
    show cashM (bkOf zs D) i y = _
    simp
  | x :: r, D, nr, sub, du, i, y, ei => by
    obtain ⟨n1, n2⟩ := List.nodup_cons.mp nr
    rw [fallAll_cons]
    obtain ⟨l, f, t, b, rest, el, ef, hn, f0, eL, mb, ex⟩ := du x List.mem_cons_self
    rw [getD_of ef]
    have du2 : DuesOf zs (fellD D (zs.idxOf x) (f + m)) nx m r := fun x' hx' => by
      obtain ⟨l2, f2, t2, b2, rest2, el2, ef2, hn2, f02, eL2, mb2, ex2⟩ := du x' (List.mem_cons_of_mem _ hx')
      have hne : zs.idxOf x ≠ zs.idxOf x' := fun c => by
        have e1 := idx_get (sub x List.mem_cons_self)
        have e2 := idx_get (sub x' (List.mem_cons_of_mem _ hx'))
        rw [c, e2] at e1
        exact n1 (Option.some.inj e1 ▸ hx')
      refine ⟨l2, f2, t2, b2, rest2, el2, ?_, hn2, f02, eL2, mb2, ex2⟩
      show (D.fallen.set _ _)[_]? = _
      rw [List.getElem?_set_ne hne]
      exact ef2
    rw [fallAll_cash nd m0 r _ n2 (fun y hy => sub y (List.mem_cons_of_mem _ hy)) du2 i y ei, fell_cash hn f0 el ef eL m0 mb i y]
    have hix : (i = zs.idxOf x) ↔ y = x := by
      obtain ⟨hi, e⟩ := List.getElem?_eq_some_iff.mp ei
      refine ⟨fun c => ?_, fun c => ?_⟩
      · have := idx_get (sub x List.mem_cons_self)
        rw [← c, ei] at this
        exact Option.some.inj this
      · rw [← c, ← e]
        exact (nd.idxOf_getElem i hi).symm
    rw [List.filter_cons, ex]
    have c1 : (if t = y then m else 0) + m * ((r.filter fun x => decide (nx x = some y)).length : Int) = m * (((if decide (some t = some y) = true then x :: r.filter fun x => decide (nx x = some y) else r.filter fun x => decide (nx x = some y)).length : Nat) : Int) := by
      by_cases h : t = y
      · rw [if_pos h, if_pos (decide_eq_true (congrArg some h)), List.length_cons, Int.natCast_add, Int.mul_add]
        simp
        omega
      · rw [if_neg h, if_neg (by simp [h])]
        omega
    have c2 : (if i = zs.idxOf x then m else 0) + (if y ∈ r then m else 0) = (if y ∈ x :: r then m else 0) := by
      by_cases h : y = x
      · subst h
        rw [if_pos (hix.mpr rfl), if_neg n1, if_pos List.mem_cons_self]
        omega
      · rw [if_neg (fun c => h (hix.mp c))]
        have : (y ∈ x :: r) ↔ y ∈ r := by
          rw [List.mem_cons]
          exact ⟨fun c => c.resolve_left h, .inr⟩
        simp only [this]
        omega
    omega
theorem moreAt_all (m : Int) (y : Str) : ∀ r : List Str, moreAt (r.map fun x => (x, m)) y = if y ∈ r then m else 0
  | [] => rfl
  | x :: r => by
    have ih := moreAt_all m y r
    unfold moreAt at ih ⊢
    rw [List.map_cons]
    by_cases h : x = y
    · rw [List.find?_cons_of_pos (by simp [h]), if_pos (by rw [h]; exact List.mem_cons_self)]
      rfl
    · rw [List.find?_cons_of_neg (by simp [h]), ih]
      have : (y ∈ x :: r) ↔ y ∈ r := by
        rw [List.mem_cons]
        exact ⟨fun c => c.resolve_left fun e => h e.symm, .inr⟩
      simp only [this]
theorem fallAll_eq {zs : List Str} {D : Md} {r : List Str} {m : Int} (nd : zs.Nodup) (lf : D.fallen.length = zs.length) (nr : r.Nodup) (sub : ∀ y ∈ r, y ∈ zs) : fallM (bkOf zs D) (r.map fun x => (x, m)) = bkOf zs (fallAll zs D r m) := by
  obtain ⟨a, b, c⟩ := fallAll_keeps zs m r D
  have e : ((zs.zip D.fallen).map fun p => p.2 + moreAt (r.map fun x => (x, m)) p.1) = (fallAll zs D r m).fallen := by
    refine List.ext_getElem? fun i => ?_
    rw [List.getElem?_map]
    by_cases hi : i < zs.length
    · have hf : i < D.fallen.length := by omega
      rw [List.getElem?_zip_eq_some (z := (zs[i], D.fallen[i])) |>.mpr ⟨List.getElem?_eq_getElem hi, List.getElem?_eq_getElem hf⟩, fallAll_at nd m r D nr sub lf i zs[i] D.fallen[i] (List.getElem?_eq_getElem hi) (List.getElem?_eq_getElem hf)]
      show some (D.fallen[i] + moreAt (r.map fun x => (x, m)) zs[i]) = _
      rw [moreAt_all]
    · rw [List.getElem?_eq_none (by rw [List.length_zip]; omega), List.getElem?_eq_none (by omega)]
      rfl
  show Bk.mk zs D.given D.notes ((zs.zip D.fallen).map fun p => p.2 + moreAt (r.map fun x => (x, m)) p.1) = Bk.mk zs (fallAll zs D r m).given (fallAll zs D r m).notes (fallAll zs D r m).fallen
  rw [e, a, b]
/-- a ring that is cleared -/
theorem clear_ok {zs : List Str} {D : Md} {z : Str} {m : Int} {r : List Str} (g : Gs zs D) (gb : Gb D) (hz : z ∈ zs) (m1 : 1 ≤ m) (hR : ringM zs (nxD zs D) z = some r) (mm : m ≤ leastI (r.map (amtAt zs (duesM (bkOf zs D))))) :
    Gs zs (fallAll zs D r m) ∧ Gb (fallAll zs D r m) ∧ FallOk (bkOf zs D) (r.map fun x => (x, m)) ∧ r.Nodup ∧ (∀ y ∈ r, y ∈ zs) := by
  have wk := g.walks
  obtain ⟨p, nr, sub, ne⟩ := ring_perm wk.ld hz hR
  have rd := ring_due wk.ld hz hR
  have du : DuesOf zs D (nxD zs D) m r := fun x hx => by
    obtain ⟨hxz, t, ht⟩ := rd x hx
    have hj : zs.idxOf x < zs.length := List.idxOf_lt_length_of_mem hxz
    have h1 : zs.idxOf x < D.notes.length := by rw [g.ln]; exact hj
    have h2 : zs.idxOf x < D.fallen.length := by rw [g.lf]; exact hj
    have el := List.getElem?_eq_getElem h1
    have ef := List.getElem?_eq_getElem h2
    have hnx : nxD zs D x = some t := ht
    rw [nxD_at g.nz.nd (idx_get hxz) el ef] at hnx
    cases hL : leftN D.notes[zs.idxOf x] D.fallen[zs.idxOf x] with
    | nil =>
      rw [hL] at hnx
      cases hnx
    | cons n rest =>
      obtain ⟨t', b⟩ := n
      rw [hL] at hnx
      have e1 : t' = t := Option.some.inj hnx
      subst e1
      have ea : amtAt zs (duesM (bkOf zs D)) x = b := by
        unfold amtAt
        have eo : (duesM (bkOf zs D)).getD (zs.idxOf x) none = (leftN D.notes[zs.idxOf x] D.fallen[zs.idxOf x]).head? := getD_of (dues_at (M := bkOf zs D) el ef)
        rw [eo, hL]
        rfl
      have hb : m ≤ b := by
        have := (least_mem (ns := r.map (amtAt zs (duesM (bkOf zs D)))) (by simpa using ne)).2 _ (List.mem_map.mpr ⟨x, hx, rfl⟩)
        omega
      exact ⟨_, _, t', b, rest, el, ef, fun n hn => (g.nt _ (List.getElem_mem h1) n hn).2.1, g.fl _ (List.getElem_mem h2), hL, hb, ht⟩
  obtain ⟨ka, kb, kc⟩ := fallAll_keeps zs m r D
  have cs : ∀ (i : Nat) (y : Str), zs[i]? = some y → 0 ≤ cashM (bkOf zs (fallAll zs D r m)) i y := fun i y ei => by
    rw [fallAll_cash g.nz.nd (by omega) r D nr sub du i y ei, ring_count p nr y]
    have c0 := g.cs i y ei
    by_cases h : y ∈ r
    · rw [if_pos h, if_pos h]
      simp
      omega
    · rw [if_neg h, if_neg h]
      simp
      omega
  have at_ : ∀ (i : Nat) (f' : Int), (fallAll zs D r m).fallen[i]? = some f' → ∃ y f, zs[i]? = some y ∧ D.fallen[i]? = some f ∧ f' = f + if y ∈ r then m else 0 := fun i f' e => by
    have hi : i < (fallAll zs D r m).fallen.length := (List.getElem?_eq_some_iff.mp e).1
    have hif : i < D.fallen.length := by omega
    have hiz : i < zs.length := by
      rw [← g.lf]
      exact hif
    have := fallAll_at g.nz.nd m r D nr sub g.lf i zs[i] D.fallen[i] (List.getElem?_eq_getElem hiz) (List.getElem?_eq_getElem hif)
    rw [e] at this
    exact ⟨_, _, List.getElem?_eq_getElem hiz, List.getElem?_eq_getElem hif, Option.some.inj this⟩
  have fw : ∀ (i : Nat) (y : Str) (l : List (Str × Int)) (f : Int), zs[i]? = some y → D.notes[i]? = some l → D.fallen[i]? = some f → y ∈ r → f + m ≤ wholeN l := fun i y l f ei el ef hy => by
    obtain ⟨l2, f2, t2, b2, rest2, el2, ef2, hn2, f02, eL2, mb2, _⟩ := du y hy
    have e : zs.idxOf y = i := by
      obtain ⟨hi, e⟩ := List.getElem?_eq_some_iff.mp ei
      rw [← e]
      exact g.nz.nd.idxOf_getElem i hi
    rw [e, el] at el2
    rw [e, ef] at ef2
    have e1 := Option.some.inj el2
    have e2 := Option.some.inj ef2
    subst e1 e2
    exact (fall_one hn2 f02 (by omega) mb2 eL2).1
  refine ⟨⟨g.nz, by rw [kb]; exact g.nt, fun x hx => ?_, by rw [kb]; exact g.my, by rw [ka]; exact g.lg, by rw [kc]; exact g.lf, by rw [kb]; exact g.ln, cs⟩, ⟨by rw [ka]; exact gb.gv, fun i l f' el' ef' => ?_⟩, ⟨fun q hq => ?_, fun i y ei => ?_⟩, nr, sub⟩
  · obtain ⟨i, hi, e⟩ := List.getElem_of_mem hx
    obtain ⟨y, f, _, ef, e2⟩ := at_ i x (by rw [List.getElem?_eq_getElem hi, e])
    have f0 := g.fl f (List.mem_of_getElem? ef)
    rw [e2]
    split <;> omega
  · rw [kb] at el'
    obtain ⟨y, f, ei, ef, e2⟩ := at_ i f' ef'
    rw [e2]
    by_cases hy : y ∈ r
    · rw [if_pos hy]
      exact fw i y l f ei el' ef hy
    · rw [if_neg hy, Int.add_zero]
      exact gb.fw i l f el' ef
  · obtain ⟨x, hx, rfl⟩ := List.mem_map.mp hq
    obtain ⟨l, f, t, b, rest, el, ef, hn, f0, eL, mb, ex⟩ := du x hx
    exact ⟨_, l, f, idx_get (sub x hx), el, ef, by show 0 ≤ m; omega, (fall_one hn f0 (by omega) mb eL).1⟩
  · rw [fallAll_eq g.nz.nd g.lf nr sub]
    exact cs i y ei
end Rc

namespace Rc
open PySem PySem.Spec PyProof.Rows L2 RZ
theorem ring_least {M : Bk} (ok : M.Ok) (cl : Closed M) {z : Str} (hz : z ∈ M.names) {r : List Str} (h : ringM M.names (nxM M) z = some r) : r ≠ [] ∧ r.length ≤ 12 ∧ (∀ y ∈ r, y ∈ M.names ∧ ∃ x, nxM M y = some x) := by
  have wk := walks_of ok cl
  obtain ⟨_, nr, sub, ne⟩ := ring_perm wk.ld hz h
  exact ⟨ne, Nat.le_trans (nodup_le _ _ nr sub) wk.lz, ring_due wk.ld hz h⟩
structure ClearOk (M : Bk) (z : Str) (m : Int) (r : List Str) : Prop where
  ok : M.Ok
  cl : Closed M
  hz : z ∈ M.names
  m1 : 1 ≤ m
  ring : ringM M.names (nxM M) z = some r
  most : m ≤ leastI (r.map (amtAt M.names (duesM M)))
  nd : r.Nodup
  fo : FallOk M (r.map fun x => (x, m))
end Rc

namespace Rc
open PySem PySem.Spec PyProof.Rows L2 RZ
theorem stepW_inv {K : PySem.W.Frag} {H : Hp} {v : V} {n : Str × Str} (h : Dt K H v (stepW n)) : ∃ a, v = .ref a ∧ SqT K H a [.str n.1, .str n.2] := by
  obtain ⟨a, xs, rfl, q, d⟩ := h.tup_inv
  cases d with
  | cons d1 d2 =>
    cases d1
    cases d2 with
    | cons d3 d4 =>
      cases d3
      cases d4
      exact ⟨a, rfl, q⟩
theorem butD_kp {H H' : Hp} {x : Addr} {kvs : List (Key × V)} (b : But x H H') (h : H x = some (.dK kvs)) : Kp H H' := fun c o e f => b c o (fun z => by
  rw [z, h] at e
  cases e
  exact f) e
def kindOf (W : List (Str × Str)) (k : Str) : List Str := (W.filter fun p => decide (p.1 = k)).map (·.2)
theorem kind_mem {zs : List Str} {D : Md} {k z : Str} (h : z ∈ kindOf (stepsW zs D) k) : z ∈ zs ∧ 0 < mostW zs D k z := by
  unfold kindOf at h
  obtain ⟨p, hp, rfl⟩ := List.mem_map.mp h
  obtain ⟨h1, h2⟩ := List.mem_filter.mp hp
  unfold stepsW at h1
  obtain ⟨y, hy, h3⟩ := List.mem_flatMap.mp h1
  unfold stepsAt at h3
  obtain ⟨q, hq, rfl⟩ := List.mem_map.mp h3
  obtain ⟨_, h4⟩ := List.mem_filter.mp hq
  have h2' : q = k := of_decide_eq_true h2
  subst h2'
  exact ⟨hy, of_decide_eq_true h4⟩
theorem mem_kind {zs : List Str} {D : Md} {k z : Str} (hk : k ∈ kindsW) (h : z ∈ zs) (h0 : 0 < mostW zs D k z) : z ∈ kindOf (stepsW zs D) k := by
  unfold kindOf stepsW stepsAt
  exact List.mem_map.mpr ⟨(k, z), List.mem_filter.mpr ⟨List.mem_flatMap.mpr ⟨z, h, List.mem_map.mpr ⟨k, List.mem_filter.mpr ⟨hk, decide_eq_true h0⟩, rfl⟩⟩, decide_eq_true rfl⟩, rfl⟩
theorem steps_le (zs : List Str) (D : Md) : ∀ l : List Str, (l.flatMap (stepsAt zs D)).length ≤ 2 * l.length
  | [] => Nat.le_refl _
  | z :: r => by
    rw [List.flatMap_cons, List.length_append, List.length_cons]
    have := steps_le zs D r
    have := steps_len zs D z
    omega
/-! ### who stands in a round -/
def rd (as : List Str) (i : Nat) : Str := as.getD (i % as.length) Str.empty
def Round (nx : Str → Option Str) (as : List Str) : Prop := ∀ i, nx (rd as i) = some (rd as (i + 1))
theorem rd_at {as : List Str} {i : Nat} (h : i < as.length) : as[i]? = some (rd as i) := by
  unfold rd
  rw [Nat.mod_eq_of_lt h, List.getD_eq_getElem?_getD, List.getElem?_eq_getElem h]
  rfl
theorem rd_mem {as : List Str} (h : 0 < as.length) (i : Nat) : rd as i ∈ as := by
  have hl := Nat.mod_lt i h
  unfold rd
  rw [List.getD_eq_getElem?_getD, List.getElem?_eq_getElem hl]
  exact List.getElem_mem hl
theorem round_at {nx : Str → Option Str} {as T : List Str} (hr : Round nx as) (h0 : T[0]? = some (rd as 0)) (ch : Chain nx T) : ∀ i, i < T.length → T[i]? = some (rd as i)
  | 0, _ => h0
  | i + 1, h => by
    have ih := round_at hr h0 ch i (by omega)
    have e1 := List.getElem?_eq_getElem h
    have := ch i _ _ ih e1
    rw [hr i] at this
    rw [e1, ← Option.some.inj this]
theorem round_ring {zs : List Str} {nx : Str → Option Str} {as : List Str} (ld : Leads zs nx) (nd : as.Nodup) (h0 : 0 < as.length) (hz : rd as 0 ∈ zs) (hr : Round nx as) : ∃ r, ringM zs nx (rd as 0) = some r := by
  have en := trail_ended ld hz
  have ch := trailM_chain zs nx (rd as 0)
  obtain ⟨tl, eT⟩ := en.first
  obtain ⟨ini, y, eT2, ed⟩ := en.last
  have eL := lastM_eq eT2
  have hT := round_at (T := trailM zs nx (rd as 0)) hr (by rw [eT]; rfl) ch
  have nT := en.nd
  have bk := en.back
  have lT : (trailM zs nx (rd as 0)).length = ini.length + 1 := by rw [eT2, List.length_append]; rfl
  have hy : y = rd as ini.length := by
    have := hT ini.length (by omega)
    rw [eT2, List.getElem?_append_right (Nat.le_refl _), Nat.sub_self] at this
    exact Option.some.inj this
  have hle : ini.length + 1 ≤ as.length := Decidable.byContradiction fun c => by
    have h1 := hT as.length (by omega)
    have h2 := hT 0 (by omega)
    have e : rd as as.length = rd as 0 := by
      unfold rd
      rw [Nat.mod_self, Nat.zero_mod]
    rw [e, ← h2] at h1
    have := (List.getElem?_inj (by omega) nT).mp h1
    omega
  have hb : rd as (ini.length + 1) ∈ trailM zs nx (rd as 0) := by
    refine bk _ ?_
    rw [eL, hy]
    exact hr _
  have hfull : ini.length + 1 = as.length := Decidable.byContradiction fun c => by
    obtain ⟨i, hi, e⟩ := List.getElem_of_mem hb
    have h1 := hT i hi
    rw [List.getElem?_eq_getElem hi, e] at h1
    have h2 := rd_at (as := as) (i := ini.length + 1) (by omega)
    have h3 := rd_at (as := as) (i := i) (by omega)
    rw [Option.some.inj h1, ← h3] at h2
    have := (List.getElem?_inj (by omega) nd).mp h2
    omega
  have e0 : nx (lastM zs nx (rd as 0)) = some (rd as 0) := by
    rw [eL, hy, hr, hfull]
    congr 1
    unfold rd
    rw [Nat.mod_self, Nat.zero_mod]
  unfold ringM
  rw [if_pos e0]
  exact ⟨_, rfl⟩
theorem ring_pos {zs : List Str} {D : Md} {z : Str} {r : List Str} (g : Gs zs D) (hz : z ∈ zs) (hR : ringM zs (nxD zs D) z = some r) : 0 < mostW zs D "clear" z ∧ mostW zs D "clear" z ≤ 10 ^ 58 ∧ mostW zs D "clear" z = leastI (r.map (amtAt zs (duesM (bkOf zs D)))) := by
  have wk := g.walks
  obtain ⟨_, _, _, ne⟩ := ring_perm wk.ld hz hR
  have rdu := ring_due wk.ld hz hR
  have em : mostW zs D "clear" z = leastI (r.map (amtAt zs (duesM (bkOf zs D)))) := by
    unfold mostW
    rw [if_neg (fun c => pay_ne_clear (congrArg V.str c.symm).symm)]
    exact mostC_some hR
  have ne2 : r.map (amtAt zs (duesM (bkOf zs D))) ≠ [] := by simpa using ne
  obtain ⟨hm, _⟩ := least_mem ne2
  obtain ⟨x, hx, ex⟩ := List.mem_map.mp hm
  obtain ⟨hxz, t, ht⟩ := rdu x hx
  have ht2 : ((duesM (bkOf zs D)).getD (zs.idxOf x) none).map (·.1) = some t := ht
  have ha : 1 ≤ amtAt zs (duesM (bkOf zs D)) x ∧ amtAt zs (duesM (bkOf zs D)) x ≤ 10 ^ 58 := by
    cases h : (duesM (bkOf zs D)).getD (zs.idxOf x) none with
    | none =>
      rw [h] at ht2
      cases ht2
    | some n =>
      have gn : 1 ≤ n.2 ∧ n.2 ≤ 10 ^ 58 := (g.due (getD_mem h)).2
      have ea : amtAt zs (duesM (bkOf zs D)) x = n.2 := by
        unfold amtAt
        rw [h]
      rw [ea]
      exact gn
  rw [ex] at ha
  rw [em]
  exact ⟨by omega, ha.2, rfl⟩
/-! ### the first notes -/
def noteAt (zs : List Str) (j : Nat) : Deed → Option (Str × Int)
  | .give _ _ => none
  | .put z y n => if zs.idxOf z = j then some (y, n) else none
theorem notes_fold (zs : List Str) (j : Nat) : ∀ (ds : List Deed) (D : Md) (l : List (Str × Int)), D.notes[j]? = some l → (ds.foldl (doneD zs) D).notes[j]? = some (l ++ ds.filterMap (noteAt zs j))
  | [], D, l, h => by
    rw [List.filterMap_nil, List.append_nil]
    exact h
  | d :: r, D, l, h => by
    rw [List.foldl_cons]
    cases d with
    | give z n =>
      rw [notes_fold zs j r _ l (by exact h), List.filterMap_cons]
      rfl
    | put z y n =>
      by_cases hj : zs.idxOf z = j
      · have e : (doneD zs D (.put z y n)).notes[j]? = some (l ++ [(y, n)]) := by
          show (D.notes.set (zs.idxOf z) (D.notes.getD (zs.idxOf z) [] ++ [(y, n)]))[j]? = _
          rw [hj, List.getElem?_set_self (List.getElem?_eq_some_iff.mp h).1, getD_of h]
        rw [notes_fold zs j r _ _ e, List.filterMap_cons]
        have en : noteAt zs j (.put z y n) = some (y, n) := if_pos hj
        rw [en, List.append_assoc]
        rfl
      · have e : (doneD zs D (.put z y n)).notes[j]? = some l := by
          show (D.notes.set (zs.idxOf z) (D.notes.getD (zs.idxOf z) [] ++ [(y, n)]))[j]? = _
          rw [List.getElem?_set_ne hj]
          exact h
        rw [notes_fold zs j r _ _ e, List.filterMap_cons]
        have en : noteAt zs j (.put z y n) = none := if_neg hj
        rw [en]
/-- the first deeds: each puts a note to the next one -/
def roundDs (as : List Str) (ns : List Int) : List Deed := (List.range ns.length).map fun i => .put (rd as i) (rd as (i + 1)) (ns.getD i 0)
theorem roundDs_snoc (as : List Str) (ns : List Int) (n : Int) : roundDs as (ns ++ [n]) = roundDs as ns ++ [.put (rd as ns.length) (rd as (ns.length + 1)) n] := by
  unfold roundDs
  rw [List.length_append, show [n].length = 1 from rfl, List.range_succ, List.map_append]
  congr 1
  · refine List.map_congr_left fun i hi => ?_
    have hi' := List.mem_range.mp hi
    rw [List.getD_eq_getElem?_getD, List.getElem?_append_left hi', List.getD_eq_getElem?_getD]
  · show [Deed.put _ _ ((ns ++ [n]).getD ns.length 0)] = _
    rw [List.getD_eq_getElem?_getD, List.getElem?_append_right (Nat.le_refl _), Nat.sub_self]
    rfl
theorem idx_inj {zs : List Str} {x y : Str} (hx : x ∈ zs) (hy : y ∈ zs) (h : zs.idxOf x = zs.idxOf y) : x = y := by
  have e1 := idx_get hx
  rw [h, idx_get hy] at e1
  exact (Option.some.inj e1).symm
theorem rd_inj {as : List Str} (nd : as.Nodup) {i k : Nat} (hk : k < as.length) (h : rd as k = rd as i) : k = i % as.length := by
  have hl := Nat.mod_lt i (show 0 < as.length by omega)
  have e1 := rd_at hk
  have e2 := rd_at hl
  have e3 : rd as (i % as.length) = rd as i := by
    unfold rd
    rw [Nat.mod_mod]
  rw [e3, ← h, ← e1] at e2
  exact ((List.getElem?_inj hl nd).mp e2).symm
theorem round_md {zs as : List Str} {ns : List Int} {rest : List Deed} (nz : NamesOk zs) (nd : as.Nodup) (sub : ∀ y ∈ as, y ∈ zs) (h0 : 0 < as.length) (ln : ns.length = as.length) {k : Nat} (gd : Gd zs (mdAt zs (roundDs as ns ++ rest)) k) : Round (nxD zs (mdAt zs (roundDs as ns ++ rest))) as := fun i => by
  have hm := sub _ (rd_mem h0 i)
  have hj : zs.idxOf (rd as i) < zs.length := List.idxOf_lt_length_of_mem hm
  have e0 : (newMd zs.length).notes[zs.idxOf (rd as i)]? = some [] := by
    show (List.replicate zs.length [])[_]? = _
    rw [List.getElem?_replicate, if_pos hj]
  have el : (mdAt zs (roundDs as ns ++ rest)).notes[zs.idxOf (rd as i)]? = _ := notes_fold zs (zs.idxOf (rd as i)) (roundDs as ns ++ rest) _ _ e0
  rw [List.nil_append, List.filterMap_append] at el
  have ef : (mdAt zs (roundDs as ns ++ rest)).fallen[zs.idxOf (rd as i)]? = some 0 := by
    rw [gd.zf]
    show (List.replicate zs.length 0)[_]? = _
    rw [List.getElem?_replicate, if_pos hj]
  rw [nxD_at nz.nd (idx_get hm) el ef, left_zero fun n hn => (gd.nt _ (List.mem_of_getElem? el) n hn).2.1]
  have all : ∀ n ∈ (roundDs as ns).filterMap (noteAt zs (zs.idxOf (rd as i))), n.1 = rd as (i + 1) := fun n hn => by
    obtain ⟨d, hd, e⟩ := List.mem_filterMap.mp hn
    unfold roundDs at hd
    obtain ⟨k', hk', rfl⟩ := List.mem_map.mp hd
    have hk2 := List.mem_range.mp hk'
    have e' : (if zs.idxOf (rd as k') = zs.idxOf (rd as i) then some (rd as (k' + 1), ns.getD k' 0) else none) = some n := e
    split at e'
    · rename_i hc
      have := rd_inj nd (by omega) (idx_inj (sub _ (rd_mem h0 k')) hm hc)
      rw [← Option.some.inj e', this]
      show rd as (i % as.length + 1) = _
      unfold rd
      rw [Nat.mod_add_mod]
    · cases e'
  have hne : (roundDs as ns).filterMap (noteAt zs (zs.idxOf (rd as i))) ≠ [] := fun c => by
    have hl := Nat.mod_lt i h0
    have e3 : rd as (i % as.length) = rd as i := by
      unfold rd
      rw [Nat.mod_mod]
    have hm2 : (rd as (i % as.length + 1), ns.getD (i % as.length) 0) ∈ (roundDs as ns).filterMap (noteAt zs (zs.idxOf (rd as i))) := by
      refine List.mem_filterMap.mpr ⟨.put (rd as (i % as.length)) (rd as (i % as.length + 1)) (ns.getD (i % as.length) 0), ?_, if_pos (by rw [e3])⟩
      unfold roundDs
      exact List.mem_map.mpr ⟨i % as.length, List.mem_range.mpr (by omega), rfl⟩
    rw [c] at hm2
    cases hm2
  cases h : (roundDs as ns).filterMap (noteAt zs (zs.idxOf (rd as i))) with
  | nil => exact absurd h hne
  | cons n r =>
    show some n.1 = _
    rw [all n (by rw [h]; exact List.mem_cons_self)]
end Rc

namespace Rc
open PySem PySem.Spec PyProof.Rows L2 RZ
/-! ### the settled one is the greatest -/
theorem part_mono {a f g : Int} (h : f ≤ g) : partOf a f ≤ partOf a g ∧ f - partOf a f ≤ g - partOf a g := by
  unfold partOf
  constructor <;> (repeat' split) <;> omega
theorem sumTo_gone (y t : Str) (a f : Int) (r : List (Str × Int)) (h : 0 ≤ partOf a f) : sumTo y (goneN ((t, a) :: r) f) = (if t = y then partOf a f else 0) + sumTo y (goneN r (f - partOf a f)) := by
  rw [goneN_cons, sumTo_app, sumTo_one y t _ h]
theorem part_nonneg {a f : Int} (ha : 1 ≤ a) (hf : 0 ≤ f) : 0 ≤ partOf a f ∧ 0 ≤ f - partOf a f := by
  unfold partOf
  constructor <;> (repeat' split) <;> omega
theorem gone_mono (y : Str) : ∀ {l : List (Str × Int)} {f g : Int}, (∀ n ∈ l, 1 ≤ n.2) → 0 ≤ f → f ≤ g → sumTo y (goneN l f) ≤ sumTo y (goneN l g)
  | [], _, _, _, _, _ => Int.le_refl _
  | (t, a) :: r, f, g, hn, hf, hg => by
    have ha : 1 ≤ a := hn (t, a) List.mem_cons_self
    obtain ⟨p1, p2⟩ := part_nonneg ha hf
    obtain ⟨q1, q2⟩ := part_nonneg ha (show 0 ≤ g by omega)
    obtain ⟨m1, m2⟩ := part_mono (a := a) hg
    rw [sumTo_gone y t a f r p1, sumTo_gone y t a g r q1]
    have ih := gone_mono y (l := r) (fun n hn' => hn n (List.mem_cons_of_mem _ hn')) p2 m2
    split <;> omega
/-- a sum over some persons -/
def sumOn (S : List Str) (h : Str → Int) : Int := (S.map h).sum
theorem sumOn_add (S : List Str) (h k : Str → Int) : sumOn S (fun y => h y + k y) = sumOn S h + sumOn S k := by
  induction S with
  | nil => rfl
  | cons y r ih =>
    unfold sumOn at ih ⊢
    simp only [List.map_cons, List.sum_cons]
    omega
theorem sumOn_le {S : List Str} {h k : Str → Int} (hh : ∀ y ∈ S, h y ≤ k y) : sumOn S h ≤ sumOn S k := by
  induction S with
  | nil => exact Int.le_refl _
  | cons y r ih =>
    have h1 := hh y List.mem_cons_self
    have h2 := ih fun z hz => hh z (List.mem_cons_of_mem _ hz)
    unfold sumOn at h2 ⊢
    simp only [List.map_cons, List.sum_cons]
    omega
theorem sumOn_one {S : List Str} (nd : S.Nodup) (t : Str) {m : Int} (h : 0 ≤ m) : sumOn S (fun y => if t = y then m else 0) ≤ m ∧ (t ∉ S → sumOn S (fun y => if t = y then m else 0) = 0) := by
  induction S with
  | nil => exact ⟨h, fun _ => rfl⟩
  | cons y r ih =>
    obtain ⟨n1, n2⟩ := List.nodup_cons.mp nd
    obtain ⟨i1, i2⟩ := ih n2
    unfold sumOn at i1 i2 ⊢
    simp only [List.map_cons, List.sum_cons]
    by_cases e : t = y
    · subst e
      rw [if_pos rfl, i2 n1]
      exact ⟨by omega, fun c => absurd List.mem_cons_self c⟩
    · rw [if_neg e]
      exact ⟨by omega, fun c => by rw [i2 fun z => c (List.mem_cons_of_mem _ z)]; rfl⟩
theorem sumOn_congr {S : List Str} {h k : Str → Int} (hh : ∀ y ∈ S, h y = k y) : sumOn S h = sumOn S k :=
  Int.le_antisymm (sumOn_le fun y hy => Int.le_of_eq (hh y hy)) (sumOn_le fun y hy => Int.le_of_eq (hh y hy).symm)
/-- what more falls to some persons is no more than what more falls -/
theorem gone_on {S : List Str} (nd : S.Nodup) : ∀ {l : List (Str × Int)} {f g : Int}, (∀ n ∈ l, 1 ≤ n.2) → 0 ≤ f → f ≤ g → sumOn S (fun y => sumTo y (goneN l g) - sumTo y (goneN l f)) ≤ g - f
  | [], f, g, _, _, hg => by
    have : sumOn S (fun y => sumTo y (goneN [] g) - sumTo y (goneN [] f)) = sumOn S (fun _ => 0) := sumOn_congr fun y _ => by
      rw [goneN_nil, goneN_nil, sumTo_nil]
      rfl
    rw [this]
    have h0 : sumOn S (fun _ => 0) ≤ 0 := by
      have := (sumOn_one nd Str.empty (m := 0) (Int.le_refl _)).1
      have e : sumOn S (fun y => if Str.empty = y then (0 : Int) else 0) = sumOn S (fun _ => 0) := sumOn_congr fun y _ => by split <;> rfl
      omega
    omega
  | (t, a) :: r, f, g, hn, hf, hg => by
    have ha : 1 ≤ a := hn (t, a) List.mem_cons_self
    obtain ⟨p1, p2⟩ := part_nonneg ha hf
    obtain ⟨q1, q2⟩ := part_nonneg ha (show 0 ≤ g by omega)
    obtain ⟨m1, m2⟩ := part_mono (a := a) hg
    have ih := gone_on nd (l := r) (fun n hn' => hn n (List.mem_cons_of_mem _ hn')) p2 m2
    have e : sumOn S (fun y => sumTo y (goneN ((t, a) :: r) g) - sumTo y (goneN ((t, a) :: r) f)) = sumOn S (fun y => (if t = y then partOf a g - partOf a f else 0) + (sumTo y (goneN r (g - partOf a g)) - sumTo y (goneN r (f - partOf a f)))) := sumOn_congr fun y _ => by
      rw [sumTo_gone y t a f r p1, sumTo_gone y t a g r q1]
      split <;> omega
    rw [e, sumOn_add]
    have := (sumOn_one nd t (m := partOf a g - partOf a f) (by omega)).1
    omega
/-- less, where the due note is to none of them -/
theorem gone_less {S : List Str} (nd : S.Nodup) {l r : List (Str × Int)} {f g b : Int} {t : Str} (hn : ∀ n ∈ l, 1 ≤ n.2) (hf : 0 ≤ f) (hg : f < g) (e : leftN l f = (t, b) :: r) (b1 : 1 ≤ b) (ht : t ∉ S) :
    sumOn S (fun y => sumTo y (goneN l g) - sumTo y (goneN l f)) < g - f := by
  by_cases hb : b ≤ g - f
  · obtain ⟨_, h2⟩ := fall_one (m := b) hn hf (by omega) (Int.le_refl _) e
    have h3 := gone_on nd (l := l) (f := f + b) (g := g) hn (by omega) (by omega)
    have e2 : sumOn S (fun y => sumTo y (goneN l g) - sumTo y (goneN l f)) = sumOn S (fun y => sumTo y (goneN l g) - sumTo y (goneN l (f + b))) := sumOn_congr fun y hy => by
      have hne : ¬ t = y := fun c => ht (by rw [c]; exact hy)
      rw [h2 y, if_neg hne]
      omega
    omega
  · obtain ⟨_, h2⟩ := fall_one (m := g - f) hn hf (by omega) (by omega) e
    have eg : f + (g - f) = g := by omega
    rw [eg] at h2
    have e2 : sumOn S (fun y => sumTo y (goneN l g) - sumTo y (goneN l f)) = sumOn S (fun _ => 0) := sumOn_congr fun y hy => by
      have hne : ¬ t = y := fun c => ht (by rw [c]; exact hy)
      rw [h2 y, if_neg hne]
      omega
    have h0 : sumOn S (fun _ => 0) ≤ 0 := by
      have := (sumOn_one nd Str.empty (m := 0) (Int.le_refl _)).1
      have e : sumOn S (fun y => if Str.empty = y then (0 : Int) else 0) = sumOn S (fun _ => 0) := sumOn_congr fun y _ => by split <;> rfl
      omega
    omega
/-! ### some whose due notes stay among them are led into a ring -/
theorem stay_ring {zs S : List Str} {nx : Str → Option Str} (ld : Leads zs nx) {z0 : Str} (h0 : z0 ∈ S) (sub : ∀ y ∈ S, y ∈ zs) (st : ∀ y ∈ S, ∃ x, nx y = some x ∧ x ∈ S) : ∃ z r, z ∈ zs ∧ ringM zs nx z = some r := by
  have en := trail_ended ld (sub _ h0)
  have ch := trailM_chain zs nx z0
  obtain ⟨tl, eT⟩ := en.first
  obtain ⟨ini, y, eT2, ed⟩ := en.last
  have eL := lastM_eq eT2
  have nT := en.nd
  have bk := en.back
  -- all of the trail are among them
  have allS : ∀ (i : Nat) (x : Str), (trailM zs nx z0)[i]? = some x → x ∈ S := fun i => by
    induction i with
    | zero =>
      intro x hx
      rw [eT] at hx
      exact Option.some.inj hx ▸ h0
    | succ i ih =>
      intro x hx
      have hi : i < (trailM zs nx z0).length := by
        have := (List.getElem?_eq_some_iff.mp hx).1
        omega
      have e1 := List.getElem?_eq_getElem hi
      have c := ch i _ _ e1 hx
      obtain ⟨x', hx', hs⟩ := st _ (ih _ e1)
      rw [c] at hx'
      exact Option.some.inj hx' ▸ hs
  have hyS : y ∈ S := allS ini.length y (by rw [eT2, List.getElem?_append_right (Nat.le_refl _), Nat.sub_self]; rfl)
  obtain ⟨x, hx, _⟩ := st y hyS
  have hxT := bk x (by rw [ed]; exact hx)
  generalize hk : (trailM zs nx z0).idxOf x = k
  have hkl : k < (trailM zs nx z0).length := hk ▸ List.idxOf_lt_length_of_mem hxT
  have hkx : (trailM zs nx z0)[k]? = some x := hk ▸ idx_get hxT
  have lT : (trailM zs nx z0).length = ini.length + 1 := by rw [eT2, List.length_append]; rfl
  have la : ((trailM zs nx z0).drop k).length = ini.length + 1 - k := by rw [List.length_drop, lT]
  have at_ : ∀ i, i < ((trailM zs nx z0).drop k).length → (trailM zs nx z0)[k + i]? = some (rd ((trailM zs nx z0).drop k) i) := fun i hi => by
    rw [← List.getElem?_drop]
    exact rd_at hi
  have r0 : rd ((trailM zs nx z0).drop k) 0 = x := by
    have := at_ 0 (by omega)
    rw [Nat.add_zero, hkx] at this
    exact (Option.some.inj this).symm
  have hround : Round nx ((trailM zs nx z0).drop k) := fun i => by
    have hpos : 0 < ((trailM zs nx z0).drop k).length := by omega
    have hl := Nat.mod_lt i hpos
    have e1 : rd ((trailM zs nx z0).drop k) i = rd ((trailM zs nx z0).drop k) (i % ((trailM zs nx z0).drop k).length) := by
      unfold rd
      rw [Nat.mod_mod]
    have e2 : rd ((trailM zs nx z0).drop k) (i + 1) = rd ((trailM zs nx z0).drop k) (i % ((trailM zs nx z0).drop k).length + 1) := by
      unfold rd
      rw [Nat.mod_add_mod]
    rw [e1, e2]
    generalize i % ((trailM zs nx z0).drop k).length = j at hl
    have a1 := at_ j hl
    by_cases hj : j + 1 < ((trailM zs nx z0).drop k).length
    · exact ch (k + j) _ _ a1 (by have := at_ (j + 1) hj; rw [← Nat.add_assoc] at this; exact this)
    · have ej : k + j = ini.length := by omega
      have ey : rd ((trailM zs nx z0).drop k) j = y := by
        rw [ej, eT2, List.getElem?_append_right (Nat.le_refl _), Nat.sub_self] at a1
        rw [← eT2] at a1
        exact (Option.some.inj a1).symm
      have ej1 : j + 1 = ((trailM zs nx z0).drop k).length := by omega
      have e3 : rd ((trailM zs nx z0).drop k) (j + 1) = x := by
        rw [← r0]
        unfold rd
        rw [ej1, Nat.mod_self, Nat.zero_mod]
      rw [ey, e3]
      exact hx
  have hxz : x ∈ zs := en.sub x hxT
  obtain ⟨r, hr⟩ := round_ring ld (nT.sublist (List.drop_sublist _ _)) (by omega) (by rw [r0]; exact hxz) hround
  rw [r0] at hr
  exact ⟨x, r, hxz, hr⟩
/-! ### sums over all -/
theorem sumOn_lt {S : List Str} {h k : Str → Int} (hh : ∀ y ∈ S, h y ≤ k y) {z : Str} (hz : z ∈ S) (hl : h z < k z) : sumOn S h < sumOn S k := by
  induction S with
  | nil => cases hz
  | cons y r ih =>
    have h1 := hh y List.mem_cons_self
    have h3 := sumOn_le (S := r) (h := h) (k := k) fun z hz => hh z (List.mem_cons_of_mem _ hz)
    rcases List.mem_cons.mp hz with e | e
    · subst e
      unfold sumOn at h3 ⊢
      simp only [List.map_cons, List.sum_cons]
      omega
    · have h2 := ih (fun z hz => hh z (List.mem_cons_of_mem _ hz)) e
      unfold sumOn at h2 ⊢
      simp only [List.map_cons, List.sum_cons]
      omega
theorem sumOn_zero (S : List Str) : sumOn S (fun _ => 0) = 0 := by
  induction S with
  | nil => rfl
  | cons y r ih =>
    unfold sumOn at ih ⊢
    simp only [List.map_cons, List.sum_cons]
    omega
theorem sumOn_sub (S : List Str) (h k : Str → Int) : sumOn S (fun y => h y - k y) = sumOn S h - sumOn S k := by
  induction S with
  | nil => rfl
  | cons y r ih =>
    unfold sumOn at ih ⊢
    simp only [List.map_cons, List.sum_cons]
    omega
theorem sumOn_comm (S T : List Str) (c : Str → Str → Int) : sumOn S (fun y => sumOn T (fun x => c x y)) = sumOn T (fun x => sumOn S (fun y => c x y)) := by
  induction S with
  | nil => exact (sumOn_zero T).symm
  | cons y r ih =>
    have e1 : sumOn (y :: r) (fun y => sumOn T (fun x => c x y)) = sumOn T (fun x => c x y) + sumOn r (fun y => sumOn T (fun x => c x y)) := rfl
    have e2 : sumOn T (fun x => sumOn (y :: r) (fun y => c x y)) = sumOn T (fun x => c x y + sumOn r (fun y => c x y)) := rfl
    rw [e1, e2, sumOn_add, ih]
theorem sumOn_filter (p : Str → Bool) (h : Str → Int) : ∀ S : List Str, sumOn (S.filter p) h = sumOn S (fun x => if p x = true then h x else 0)
  | [] => rfl
  | y :: r => by
    have ih := sumOn_filter p h r
    rw [List.filter_cons]
    have e2 : sumOn (y :: r) (fun x => if p x = true then h x else 0) = (if p y = true then h y else 0) + sumOn r (fun x => if p x = true then h x else 0) := rfl
    rw [e2, ← ih]
    by_cases hp : p y = true
    · rw [if_pos hp, if_pos hp]
      rfl
    · rw [if_neg hp, if_neg hp]
      omega
theorem zip_on {β : Type} {zs : List Str} (nd : zs.Nodup) {A : List β} {B : List Int} {a0 : β} (la : A.length = zs.length) (lb : B.length = zs.length) (h : β × Int → Int) : ((A.zip B).map h).sum = sumOn zs (fun x => h (A.getD (zs.idxOf x) a0, B.getD (zs.idxOf x) 0)) := by
  unfold sumOn
  congr 1
  refine List.ext_getElem? fun i => ?_
  rw [List.getElem?_map, List.getElem?_map]
  by_cases hi : i < zs.length
  · have ha : i < A.length := by omega
    have hb : i < B.length := by omega
    rw [List.getElem?_zip_eq_some (z := (A[i], B[i])) |>.mpr ⟨List.getElem?_eq_getElem ha, List.getElem?_eq_getElem hb⟩, List.getElem?_eq_getElem hi]
    show some (h (A[i], B[i])) = some (h (A.getD (zs.idxOf zs[i]) a0, B.getD (zs.idxOf zs[i]) 0))
    rw [nd.idxOf_getElem i hi, getD_of (List.getElem?_eq_getElem ha), getD_of (List.getElem?_eq_getElem hb)]
  · rw [List.getElem?_eq_none (by rw [List.length_zip]; omega), List.getElem?_eq_none (by omega)]
    rfl
theorem left_some : ∀ {l : List (Str × Int)} {f : Int}, (∀ n ∈ l, 1 ≤ n.2) → 0 ≤ f → f < wholeN l → ∃ t b r, leftN l f = (t, b) :: r ∧ 1 ≤ b
  | [], f, _, h0, h => by
    have : wholeN [] = 0 := rfl
    omega
  | (t, a) :: r, f, hn, h0, h => by
    have ha : 1 ≤ a := hn (t, a) List.mem_cons_self
    rw [wholeN_cons] at h
    rw [leftN_cons]
    obtain ⟨p1, p2⟩ := part_nonneg ha h0
    by_cases hp : partOf a f < a
    · rw [if_pos hp]
      exact ⟨t, a - partOf a f, _, rfl, by omega⟩
    · rw [if_neg hp]
      have pe : partOf a f = a := by
        unfold partOf at hp ⊢
        split at hp <;> (split <;> omega)
      obtain ⟨t', b, r', e, b1⟩ := left_some (l := r) (f := f - partOf a f) (fun n hn' => hn n (List.mem_cons_of_mem _ hn')) p2 (by have : f < a + wholeN r := h; omega)
      exact ⟨t', b, r', e, b1⟩
def withF (D : Md) (G : List Int) : Md := { D with fallen := G }
/-- nobody can pay, and there is no ring -/
structure Settled (zs : List Str) (D : Md) : Prop where
  pay : ∀ z ∈ zs, mostP (bkOf zs D) (zs.idxOf z) z = 0
  ring : ∀ z ∈ zs, ringM zs (nxD zs D) z = none
/-- what might have fallen, and is covered -/
structure Covers (zs : List Str) (D : Md) (G : List Int) : Prop where
  len : G.length = zs.length
  low : ∀ x ∈ G, 0 ≤ x
  top : ∀ (i : Nat) (l : List (Str × Int)) (x : Int), D.notes[i]? = some l → G[i]? = some x → x ≤ wholeN l
  cov : ∀ (i : Nat) (y : Str), zs[i]? = some y → 0 ≤ cashM (bkOf zs (withF D G)) i y
theorem settled_greatest {zs : List Str} {D : Md} {G : List Int} (g : Gs zs D) (st : Settled zs D) (cv : Covers zs D G) : ∀ z ∈ zs, G.getD (zs.idxOf z) 0 ≤ D.fallen.getD (zs.idxOf z) 0 := fun z0 hz0 => Decidable.byContradiction fun hc => by
  have nd := g.nz.nd
  -- those of whom the other has more
  have hS : ∀ y, y ∈ zs.filter (fun y => decide (D.fallen.getD (zs.idxOf y) 0 < G.getD (zs.idxOf y) 0)) ↔ y ∈ zs ∧ D.fallen.getD (zs.idxOf y) 0 < G.getD (zs.idxOf y) 0 := fun y => by
    rw [List.mem_filter]
    exact ⟨fun h => ⟨h.1, of_decide_eq_true h.2⟩, fun h => ⟨h.1, decide_eq_true h.2⟩⟩
  generalize hSd : zs.filter (fun y => decide (D.fallen.getD (zs.idxOf y) 0 < G.getD (zs.idxOf y) 0)) = S at hS
  have ndS : S.Nodup := hSd ▸ nd.sublist (List.filter_sublist)
  have at_ : ∀ x ∈ zs, ∃ l f x', D.notes[zs.idxOf x]? = some l ∧ D.fallen[zs.idxOf x]? = some f ∧ G[zs.idxOf x]? = some x' ∧ (∀ n ∈ l, 1 ≤ n.2) ∧ 0 ≤ f ∧ 0 ≤ x' ∧ x' ≤ wholeN l := fun x hx => by
    have hj := List.idxOf_lt_length_of_mem hx
    have h1 : zs.idxOf x < D.notes.length := by rw [g.ln]; exact hj
    have h2 : zs.idxOf x < D.fallen.length := by rw [g.lf]; exact hj
    have h3 : zs.idxOf x < G.length := by rw [cv.len]; exact hj
    exact ⟨_, _, _, List.getElem?_eq_getElem h1, List.getElem?_eq_getElem h2, List.getElem?_eq_getElem h3, fun n hn => (g.nt _ (List.getElem_mem h1) n hn).2.1, g.fl _ (List.getElem_mem h2), cv.low _ (List.getElem_mem h3), cv.top _ _ _ (List.getElem?_eq_getElem h1) (List.getElem?_eq_getElem h3)⟩
  obtain ⟨z, r, hz, hR⟩ := stay_ring (S := S) (z0 := z0) g.walks.ld ((hS z0).mpr ⟨hz0, by omega⟩) (fun y hy => ((hS y).mp hy).1) (fun y0 hy0 => by
    obtain ⟨hy0z, hy0l⟩ := (hS y0).mp hy0
    obtain ⟨l0, f0, x0, el0, ef0, eg0, hn0, hf0, hx0, hw0⟩ := at_ y0 hy0z
    rw [getD_of ef0, getD_of eg0] at hy0l
    obtain ⟨t, b, r0, eL, b1⟩ := left_some hn0 hf0 (by omega)
    have hnx : nxD zs D y0 = some t := by
      rw [nxD_at nd (idx_get hy0z) el0 ef0, eL]
      rfl
    refine ⟨t, hnx, Decidable.byContradiction fun ht => ?_⟩
    -- all sums
    have cF : ∀ y ∈ S, cashM (bkOf zs D) (zs.idxOf y) y = 0 := fun y hy => by
      obtain ⟨hyz, hyl⟩ := (hS y).mp hy
      obtain ⟨l, f, x, el, ef, eg, hn, hf, hx, hw⟩ := at_ y hyz
      rw [getD_of ef, getD_of eg] at hyl
      obtain ⟨t', b', r', eL', b1'⟩ := left_some hn hf (by omega)
      have eo : (duesM (bkOf zs D)).getD (zs.idxOf y) none = some (t', b') := by
        rw [getD_of (dues_at (M := bkOf zs D) el ef), eL']
        rfl
      have := st.pay y hyz
      rw [mostP_some (n := (t', b')) eo] at this
      have c0 := g.cs _ _ (idx_get hyz)
      split at this
      · exact this
      · have hb' : b' = 0 := this
        omega
    have e1 : ∀ (F : List Int), F.length = zs.length → ∀ y, fallTo (bkOf zs (withF D F)) y = sumOn zs (fun x => sumTo y (goneN (D.notes.getD (zs.idxOf x) []) (F.getD (zs.idxOf x) 0))) := fun F lF y => zip_on nd (A := D.notes) (B := F) (a0 := []) g.ln lF fun p => sumTo y (goneN p.1 p.2)
    have dif : ∀ y ∈ S, cashM (bkOf zs (withF D G)) (zs.idxOf y) y - cashM (bkOf zs D) (zs.idxOf y) y = sumOn zs (fun x => sumTo y (goneN (D.notes.getD (zs.idxOf x) []) (G.getD (zs.idxOf x) 0)) - sumTo y (goneN (D.notes.getD (zs.idxOf x) []) (D.fallen.getD (zs.idxOf x) 0))) - (G.getD (zs.idxOf y) 0 - D.fallen.getD (zs.idxOf y) 0) := fun y hy => by
      rw [sumOn_sub, ← e1 G cv.len y, ← e1 D.fallen g.lf y]
      show (D.given.getD (zs.idxOf y) 0 + fallTo (bkOf zs (withF D G)) y - G.getD (zs.idxOf y) 0) - (D.given.getD (zs.idxOf y) 0 + fallTo (bkOf zs D) y - D.fallen.getD (zs.idxOf y) 0) = fallTo (bkOf zs (withF D G)) y - fallTo (bkOf zs D) y - _
      omega
    have low : 0 ≤ sumOn S (fun y => cashM (bkOf zs (withF D G)) (zs.idxOf y) y - cashM (bkOf zs D) (zs.idxOf y) y) := by
      have := sumOn_le (S := S) (h := fun _ => 0) (k := fun y => cashM (bkOf zs (withF D G)) (zs.idxOf y) y - cashM (bkOf zs D) (zs.idxOf y) y) fun y hy => by
        have c1 := cv.cov _ _ (idx_get ((hS y).mp hy).1)
        have c2 := cF y hy
        show 0 ≤ cashM (bkOf zs (withF D G)) (zs.idxOf y) y - cashM (bkOf zs D) (zs.idxOf y) y
        omega
      rw [sumOn_zero] at this
      exact this
    rw [sumOn_congr dif, sumOn_sub, sumOn_comm] at low
    have top : sumOn zs (fun x => sumOn S (fun y => sumTo y (goneN (D.notes.getD (zs.idxOf x) []) (G.getD (zs.idxOf x) 0)) - sumTo y (goneN (D.notes.getD (zs.idxOf x) []) (D.fallen.getD (zs.idxOf x) 0)))) < sumOn zs (fun x => if decide (D.fallen.getD (zs.idxOf x) 0 < G.getD (zs.idxOf x) 0) = true then G.getD (zs.idxOf x) 0 - D.fallen.getD (zs.idxOf x) 0 else 0) := by
      refine sumOn_lt (z := y0) (fun x hx => ?_) hy0z ?_
      · obtain ⟨l, f, x', el, ef, eg, hn, hf, hx', hw⟩ := at_ x hx
        rw [getD_of el, getD_of ef, getD_of eg]
        by_cases h : f < x'
        · rw [if_pos (decide_eq_true h)]
          exact gone_on ndS hn hf (by omega)
        · rw [if_neg (by rw [decide_eq_false h]; exact Bool.false_ne_true)]
          have := sumOn_le (S := S) (h := fun y => sumTo y (goneN l x') - sumTo y (goneN l f)) (k := fun _ => 0) fun y _ => by
            have := gone_mono y (l := l) (f := x') (g := f) hn hx' (by omega)
            show sumTo y (goneN l x') - sumTo y (goneN l f) ≤ 0
            omega
          rw [sumOn_zero] at this
          exact this
      · rw [getD_of el0, getD_of ef0, getD_of eg0, if_pos (decide_eq_true hy0l)]
        exact gone_less ndS hn0 hf0 hy0l eL b1 ht
    rw [← sumOn_filter (fun x => decide (D.fallen.getD (zs.idxOf x) 0 < G.getD (zs.idxOf x) 0)) (fun x => G.getD (zs.idxOf x) 0 - D.fallen.getD (zs.idxOf x) 0) zs, hSd] at top
    omega)
  rw [st.ring z hz] at hR
  cases hR
theorem Gs.covers {zs : List Str} {D : Md} (g : Gs zs D) (gb : Gb D) : Covers zs D D.fallen := ⟨g.lf, g.fl, fun i l x el ex => gb.fw i l x el ex, g.cs⟩
/-- all ends are the same -/
theorem settled_one {zs : List Str} {D E : Md} (g : Gs zs D) (gb : Gb D) (g' : Gs zs E) (gb' : Gb E) (hg : E.given = D.given) (hn : E.notes = D.notes) (s : Settled zs D) (s' : Settled zs E) : E = D := by
  have c1 : Covers zs D E.fallen := by
    have c := g'.covers gb'
    refine ⟨c.len, c.low, fun i l x el ex => c.top i l x (by rw [hn]; exact el) ex, fun i y ei => ?_⟩
    have := c.cov i y ei
    unfold withF at this ⊢
    rw [hg, hn] at this
    exact this
  have c2 : Covers zs E D.fallen := by
    have c := g.covers gb
    refine ⟨c.len, c.low, fun i l x el ex => c.top i l x (by rw [← hn]; exact el) ex, fun i y ei => ?_⟩
    have := c.cov i y ei
    unfold withF at this ⊢
    rw [← hg, ← hn] at this
    exact this
  have h1 := settled_greatest g s c1
  have h2 := settled_greatest g' s' c2
  have e : E.fallen = D.fallen := by
    refine List.ext_getElem? fun i => ?_
    by_cases hi : i < zs.length
    · have ha : i < E.fallen.length := by rw [g'.lf]; exact hi
      have hb : i < D.fallen.length := by rw [g.lf]; exact hi
      have k1 := h1 zs[i] (List.getElem_mem hi)
      have k2 := h2 zs[i] (List.getElem_mem hi)
      rw [g.nz.nd.idxOf_getElem i hi, getD_of (List.getElem?_eq_getElem ha), getD_of (List.getElem?_eq_getElem hb)] at k1 k2
      rw [List.getElem?_eq_getElem ha, List.getElem?_eq_getElem hb]
      congr 1
      omega
    · rw [List.getElem?_eq_none (by rw [g'.lf]; omega), List.getElem?_eq_none (by rw [g.lf]; omega)]
  obtain ⟨a, b, c⟩ := D
  obtain ⟨a', b', c'⟩ := E
  simp only at hg hn e
  subst hg hn e
  rfl
/-! ### more never hurts -/
theorem gone_app : ∀ (l m : List (Str × Int)) (f : Int), (∀ n ∈ l, 1 ≤ n.2) → (∀ n ∈ m, 1 ≤ n.2) → 0 ≤ f → f ≤ wholeN l → goneN (l ++ m) f = goneN l f
  | [], m, f, _, hm, h0, h => by
    have e0 : wholeN [] = 0 := rfl
    have ef : f = 0 := by omega
    subst ef
    have : ∀ m : List (Str × Int), (∀ n ∈ m, 1 ≤ n.2) → goneN m 0 = [] := fun m => by
      induction m with
      | nil => exact fun _ => rfl
      | cons n r ih =>
        intro hm
        obtain ⟨t, a⟩ := n
        have ha : 1 ≤ a := hm (t, a) List.mem_cons_self
        rw [goneN_cons, part_zero ha]
        simp only [Int.lt_irrefl, if_false, Int.sub_zero, List.nil_append]
        exact ih fun n hn => hm n (List.mem_cons_of_mem _ hn)
    rw [List.nil_append, this m hm]
    rfl
  | (t, a) :: r, m, f, hl, hm, h0, h => by
    have ha : 1 ≤ a := hl (t, a) List.mem_cons_self
    obtain ⟨p1, p2⟩ := part_nonneg ha h0
    have hw : f - partOf a f ≤ wholeN r := by
      rw [wholeN_cons] at h
      have h' : f ≤ a + wholeN r := h
      have := wholeN_nonneg (l := r) fun n hn => hl n (List.mem_cons_of_mem _ hn)
      unfold partOf
      split <;> omega
    rw [List.cons_append, goneN_cons, goneN_cons, gone_app r m _ (fun n hn => hl n (List.mem_cons_of_mem _ hn)) hm p2 hw]
/-! ### each of a ring tells the same ring -/
theorem round_trail {zs : List Str} {nx : Str → Option Str} {as : List Str} (ld : Leads zs nx) (nd : as.Nodup) (h0 : 0 < as.length) (hz : rd as 0 ∈ zs) (hr : Round nx as) : trailM zs nx (rd as 0) = as := by
  have en := trail_ended ld hz
  have ch := trailM_chain zs nx (rd as 0)
  obtain ⟨tl, eT⟩ := en.first
  obtain ⟨ini, y, eT2, ed⟩ := en.last
  have eL := lastM_eq eT2
  have hT := round_at (T := trailM zs nx (rd as 0)) hr (by rw [eT]; rfl) ch
  have nT := en.nd
  have bk := en.back
  have lT : (trailM zs nx (rd as 0)).length = ini.length + 1 := by rw [eT2, List.length_append]; rfl
  have hy : y = rd as ini.length := by
    have := hT ini.length (by omega)
    rw [eT2, List.getElem?_append_right (Nat.le_refl _), Nat.sub_self] at this
    exact Option.some.inj this
  have hle : ini.length + 1 ≤ as.length := Decidable.byContradiction fun c => by
    have h1 := hT as.length (by omega)
    have h2 := hT 0 (by omega)
    have e : rd as as.length = rd as 0 := by
      unfold rd
      rw [Nat.mod_self, Nat.zero_mod]
    rw [e, ← h2] at h1
    have := (List.getElem?_inj (by omega) nT).mp h1
    omega
  have hb : rd as (ini.length + 1) ∈ trailM zs nx (rd as 0) := by
    refine bk _ ?_
    rw [eL, hy]
    exact hr _
  have hfull : ini.length + 1 = as.length := Decidable.byContradiction fun c => by
    obtain ⟨i, hi, e⟩ := List.getElem_of_mem hb
    have h1 := hT i hi
    rw [List.getElem?_eq_getElem hi, e] at h1
    have h2 := rd_at (as := as) (i := ini.length + 1) (by omega)
    have h3 := rd_at (as := as) (i := i) (by omega)
    rw [Option.some.inj h1, ← h3] at h2
    have := (List.getElem?_inj (by omega) nd).mp h2
    omega
  refine List.ext_getElem? fun i => ?_
  by_cases hi : i < as.length
  · rw [hT i (by omega), rd_at hi]
  · rw [List.getElem?_eq_none (by omega), List.getElem?_eq_none (by omega)]
theorem ring_round {zs : List Str} {nx : Str → Option Str} {z : Str} {r : List Str} (ld : Leads zs nx) (hz : z ∈ zs) (h : ringM zs nx z = some r) : Round nx (trailM zs nx z) := fun i => by
  have en := trail_ended ld hz
  have ch := trailM_chain zs nx z
  obtain ⟨tl, eT⟩ := en.first
  obtain ⟨ini, y, eT2, ed⟩ := en.last
  have eL := lastM_eq eT2
  have hl : nx (lastM zs nx z) = some z := by
    unfold ringM at h
    split at h
    · assumption
    · cases h
  have lT : (trailM zs nx z).length = ini.length + 1 := by rw [eT2, List.length_append]; rfl
  have hpos : 0 < (trailM zs nx z).length := by omega
  have hm := Nat.mod_lt i hpos
  have e1 : rd (trailM zs nx z) i = rd (trailM zs nx z) (i % (trailM zs nx z).length) := by
    unfold rd
    rw [Nat.mod_mod]
  have e2 : rd (trailM zs nx z) (i + 1) = rd (trailM zs nx z) (i % (trailM zs nx z).length + 1) := by
    unfold rd
    rw [Nat.mod_add_mod]
  rw [e1, e2]
  generalize i % (trailM zs nx z).length = j at hm
  have a1 := rd_at hm
  by_cases hj : j + 1 < (trailM zs nx z).length
  · exact ch j _ _ a1 (rd_at hj)
  · have ej : j = ini.length := by omega
    have ey : rd (trailM zs nx z) j = y := by
      have a2 : (ini ++ [y])[j]? = some y := by rw [ej, List.getElem?_append_right (Nat.le_refl _), Nat.sub_self]; rfl
      rw [← eT2, a1] at a2
      exact Option.some.inj a2
    have e3 : rd (trailM zs nx z) (j + 1) = z := by
      have ej1 : j + 1 = (trailM zs nx z).length := by omega
      have a3 := rd_at hpos
      have a4 : (trailM zs nx z)[0]? = some z := by rw [eT]; rfl
      rw [a3] at a4
      refine Eq.trans ?_ (Option.some.inj a4)
      unfold rd
      rw [ej1, Nat.mod_self, Nat.zero_mod]
    rw [ey, e3, ← eL]
    exact hl
theorem rot_rd {T : List Str} {k : Nat} (hk : k < T.length) (i : Nat) : rd (T.drop k ++ T.take k) i = rd T (k + i) := by
  have lr : (T.drop k ++ T.take k).length = T.length := by
    rw [List.length_append, List.length_drop, List.length_take]
    omega
  have hm := Nat.mod_lt i (show 0 < T.length by omega)
  have e1 : rd (T.drop k ++ T.take k) i = (T.drop k ++ T.take k).getD (i % T.length) Str.empty := by
    unfold rd
    rw [lr]
  have e2 : rd T (k + i) = T.getD ((k + i % T.length) % T.length) Str.empty := by
    unfold rd
    rw [Nat.add_mod_mod]
  rw [e1, e2]
  generalize i % T.length = j at hm
  rw [List.getD_eq_getElem?_getD, List.getD_eq_getElem?_getD]
  congr 1
  by_cases h : j < T.length - k
  · rw [List.getElem?_append_left (by rw [List.length_drop]; exact h), List.getElem?_drop, Nat.mod_eq_of_lt (by omega)]
  · rw [List.getElem?_append_right (by rw [List.length_drop]; omega), List.length_drop, List.getElem?_take, if_pos (by omega)]
    congr 1
    rw [Nat.mod_eq_sub_mod (by omega), Nat.mod_eq_of_lt (by omega)]
    omega
theorem no_rings {zs : List Str} {nx : Str → Option Str} (ld : Leads zs nx) (h : ∀ z ∈ zs, ∀ r, ringM zs nx z = some r → r.head? ≠ some z) : ∀ z ∈ zs, ringM zs nx z = none := fun z hz => by
  cases hR : ringM zs nx z with
  | none => rfl
  | some r =>
    exfalso
    have en := trail_ended ld hz
    have hzT : z ∈ trailM zs nx z := by
      obtain ⟨tl, eT⟩ := en.first
      rw [eT]
      exact List.mem_cons_self
    have hround := ring_round ld hz hR
    have nT := en.nd
    have sub := en.sub
    obtain ⟨f, rs, _, ef, fT, fz⟩ := find_some hz hzT
    generalize trailM zs nx z = T at hzT hround nT sub ef fT
    generalize hk : T.idxOf f = k
    have hkl : k < T.length := hk ▸ List.idxOf_lt_length_of_mem fT
    have hkf : T[k]? = some f := hk ▸ idx_get fT
    have pm : (T.drop k ++ T.take k).Perm T := by
      have := List.perm_append_comm (l₁ := T.drop k) (l₂ := T.take k)
      rw [List.take_append_drop] at this
      exact this
    have r0 : rd (T.drop k ++ T.take k) 0 = f := by
      rw [rot_rd hkl]
      have := rd_at hkl
      rw [hkf] at this
      exact (Option.some.inj this).symm
    have hr2 : Round nx (T.drop k ++ T.take k) := fun i => by
      rw [rot_rd hkl, rot_rd hkl]
      exact hround (k + i)
    have nd2 : (T.drop k ++ T.take k).Nodup := pm.symm.nodup nT
    have l0 : 0 < (T.drop k ++ T.take k).length := by
      rw [pm.length_eq]
      omega
    have et := round_trail ld nd2 l0 (by rw [r0]; exact fz) hr2
    obtain ⟨r2, hR2⟩ := round_ring ld nd2 l0 (by rw [r0]; exact fz) hr2
    rw [r0] at et hR2
    have ff : firstM zs (trailM zs nx f) = f := by
      rw [et, ← ef]
      unfold firstM
      congr 2
      funext x
      exact decide_eq_decide.mpr pm.mem_iff
    refine h f fz r2 hR2 ?_
    unfold ringM at hR2
    split at hR2
    · have e := Option.some.inj hR2
      rw [← e, ff]
      obtain ⟨tl, eT⟩ := (trail_ended ld fz).first
      rw [eT]
      simp
    · cases hR2
/-! ### where it ends -/
theorem settled_of {zs : List Str} {D : Md} (g : Gs zs D) (hr : ∀ z ∈ zs, ∀ r, ringM zs (nxD zs D) z = some r → r.head? ≠ some z) (hp : ∀ z ∈ zs, (duesM (bkOf zs D)).getD (zs.idxOf z) none = none ∨ cashM (bkOf zs D) (zs.idxOf z) z ≤ 0) : Settled zs D := by
  refine ⟨fun z hz => ?_, no_rings g.walks.ld hr⟩
  cases h : (duesM (bkOf zs D)).getD (zs.idxOf z) none with
  | none => exact mostP_none h
  | some n =>
    have gn : 1 ≤ n.2 ∧ n.2 ≤ 10 ^ 58 := (g.due (getD_mem h)).2
    have c0 := g.cs _ _ (idx_get hz)
    have c1 : cashM (bkOf zs D) (zs.idxOf z) z ≤ 0 := by
      rcases hp z hz with c | c
      · rw [h] at c
        cases c
      · exact c
    rw [mostP_some h]
    split <;> omega
theorem sum_seti : ∀ (l : List Int) (j : Nat) (f x : Int), l[j]? = some f → (l.set j x).sum = l.sum - f + x
  | [], j, f, x, h => by cases h
  | a :: r, 0, f, x, h => by
    have e : a = f := Option.some.inj h
    subst e
    simp only [List.set_cons_zero, List.sum_cons]
    omega
  | a :: r, j + 1, f, x, h => by
    have ih := sum_seti r j f x (by simpa using h)
    simp only [List.set_cons_succ, List.sum_cons]
    omega
theorem fell_sum {D : Md} {j : Nat} {f m : Int} (ef : D.fallen[j]? = some f) : (fellD D j (f + m)).fallen.sum = D.fallen.sum + m := by
  show (D.fallen.set j (f + m)).sum = _
  rw [sum_seti _ _ _ _ ef]
  omega
theorem fallAll_sum {zs : List Str} (m : Int) : ∀ (r : List Str) (D : Md), (∀ y ∈ r, y ∈ zs) → D.fallen.length = zs.length → (fallAll zs D r m).fallen.sum = D.fallen.sum + (r.length : Int) * m
  | [], D, _, _ => by
    show D.fallen.sum = _
    simp
  | x :: r, D, sub, lf => by
    have hx := sub x List.mem_cons_self
    have hl : zs.idxOf x < D.fallen.length := by
      rw [lf]
      exact List.idxOf_lt_length_of_mem hx
    rw [fallAll_cons, fallAll_sum m r _ (fun y hy => sub y (List.mem_cons_of_mem _ hy)) (by show (D.fallen.set _ _).length = _; rw [List.length_set]; exact lf), getD_of (List.getElem?_eq_getElem hl), fell_sum (List.getElem?_eq_getElem hl), List.length_cons, Int.natCast_add, Int.add_mul]
    simp
    omega
def wholesD (D : Md) : Int := (D.notes.map wholeN).sum
theorem fallen_le : ∀ {ns : List (List (Str × Int))} {fs : List Int}, fs.length = ns.length → (∀ (j : Nat) (l : List (Str × Int)) (f : Int), ns[j]? = some l → fs[j]? = some f → f ≤ wholeN l) → fs.sum ≤ (ns.map wholeN).sum
  | [], [], _, _ => Int.le_refl _
  | l :: ns, f :: fs, hl, h => by
    have h0 := h 0 l f rfl rfl
    have ih := fallen_le (ns := ns) (fs := fs) (by simpa using hl) fun j l' f' e1 e2 => h (j + 1) l' f' (by simpa using e1) (by simpa using e2)
    simp only [List.map_cons, List.sum_cons]
    omega
  | [], _ :: _, hl, _ => by simp at hl
  | _ :: _, [], hl, _ => by simp at hl
/-- what may yet fall -/
def restD (D : Md) : Nat := (wholesD D - D.fallen.sum).toNat
theorem rest_less {zs : List Str} {D E : Md} (g : Gs zs E) (gb : Gb E) (hn : E.notes = D.notes) (hs : D.fallen.sum < E.fallen.sum) : restD E < restD D := by
  have h1 := fallen_le (ns := E.notes) (fs := E.fallen) (by rw [g.lf, g.ln]) gb.fw
  unfold restD wholesD
  rw [← hn]
  omega
end Rc

namespace Rc
open PySem PySem.Spec PyProof.Rows L2 RZ
theorem left_fall : ∀ {l : List (Str × Int)} {f m b : Int} {t : Str} {r : List (Str × Int)}, (∀ n ∈ l, 1 ≤ n.2) → 0 ≤ f → 0 ≤ m → m ≤ b → leftN l f = (t, b) :: r → leftN l (f + m) = (if m < b then [(t, b - m)] else []) ++ r
  | [], _, _, _, _, _, _, _, _, _, e => by cases e
  | (t0, a) :: l, f, m, b, t, r, hn, f0, m0, mb, e => by
    have ha : 1 ≤ a := hn (t0, a) List.mem_cons_self
    rw [leftN_cons] at e
    by_cases hp : partOf a f < a
    · have hf : f < a := by
        unfold partOf at hp
        split at hp <;> omega
      have ep : partOf a f = f := by
        unfold partOf
        rw [if_pos hf]
      rw [ep, if_pos hf] at e
      have e1 : (t0, a - f) = (t, b) := (List.cons.inj e).1
      have e2 : leftN l (f - f) = r := (List.cons.inj e).2
      have et : t0 = t := congrArg Prod.fst e1
      have eb : a - f = b := congrArg Prod.snd e1
      rw [leftN_cons]
      by_cases hm : m < b
      · have ep2 : partOf a (f + m) = f + m := by
          unfold partOf
          rw [if_pos (by omega)]
        rw [ep2, if_pos (by omega), if_pos hm, ← e2, et, show a - (f + m) = b - m by omega, show f + m - (f + m) = f - f by omega]
      · have ep2 : partOf a (f + m) = a := by
          unfold partOf
          rw [if_neg (by omega)]
        rw [ep2, if_neg (by omega), if_neg hm, ← e2, show f + m - a = f - f by omega]
    · have hf : a ≤ f := by
        unfold partOf at hp
        split at hp <;> omega
      have ep : partOf a f = a := by
        unfold partOf
        rw [if_neg (by omega)]
      have ep2 : partOf a (f + m) = a := by
        unfold partOf
        rw [if_neg (by omega)]
      rw [ep, if_neg (by omega), List.nil_append] at e
      rw [leftN_cons, ep2, if_neg (by omega), List.nil_append, show f + m - a = (f - a) + m by omega]
      exact left_fall (fun n h => hn n (List.mem_cons_of_mem _ h)) (by omega) m0 mb e
theorem fallAll_perm {zs : List Str} {D : Md} {r r' : List Str} {m : Int} (nd : zs.Nodup) (lf : D.fallen.length = zs.length) (nr : r.Nodup) (nr' : r'.Nodup) (sub : ∀ y ∈ r, y ∈ zs) (mem : ∀ y, y ∈ r ↔ y ∈ r') : fallAll zs D r m = fallAll zs D r' m := by
  obtain ⟨a, b, c⟩ := fallAll_keeps zs m r D
  obtain ⟨a', b', c'⟩ := fallAll_keeps zs m r' D
  refine md_ext (a.trans a'.symm) (List.ext_getElem? fun i => ?_) (b.trans b'.symm)
  by_cases hi : i < zs.length
  · have hf : i < D.fallen.length := by omega
    rw [fallAll_at nd m r D nr sub lf i _ _ (List.getElem?_eq_getElem hi) (List.getElem?_eq_getElem hf), fallAll_at nd m r' D nr' (fun y hy => sub y ((mem y).mpr hy)) lf i _ _ (List.getElem?_eq_getElem hi) (List.getElem?_eq_getElem hf)]
    simp only [mem]
  · rw [List.getElem?_eq_none (by omega), List.getElem?_eq_none (by omega)]
theorem fallAll_twice {zs : List Str} {D : Md} {r : List Str} {m k : Int} (nd : zs.Nodup) (lf : D.fallen.length = zs.length) (nr : r.Nodup) (sub : ∀ y ∈ r, y ∈ zs) : fallAll zs (fallAll zs D r m) r k = fallAll zs D r (m + k) := by
  obtain ⟨a, b, c⟩ := fallAll_keeps zs m r D
  obtain ⟨a1, b1, c1⟩ := fallAll_keeps zs k r (fallAll zs D r m)
  obtain ⟨a', b', c'⟩ := fallAll_keeps zs (m + k) r D
  refine md_ext (a1.trans (a.trans a'.symm)) (List.ext_getElem? fun i => ?_) (b1.trans (b.trans b'.symm))
  by_cases hi : i < zs.length
  · have hf : i < D.fallen.length := by omega
    have e1 := fallAll_at nd m r D nr sub lf i _ _ (List.getElem?_eq_getElem hi) (List.getElem?_eq_getElem hf)
    rw [fallAll_at nd k r _ nr sub (c.trans lf) i _ _ (List.getElem?_eq_getElem hi) e1, fallAll_at nd (m + k) r D nr sub lf i _ _ (List.getElem?_eq_getElem hi) (List.getElem?_eq_getElem hf)]
    congr 1
    split <;> omega
  · rw [List.getElem?_eq_none (by omega), List.getElem?_eq_none (by omega)]
/-- weavings -/
inductive Wv : Bk → List (Str × Str × Int) → Bk → Prop
  | nil (M : Bk) : Wv M [] M
  | pay {M N : Bk} {z : Str} {j : Nat} {m : Int} {W : List (Str × Str × Int)} (ok : M.Ok) (ej : M.names[j]? = some z) (m1 : 1 ≤ m) (mm : m ≤ mostP M j z) (fo : FallOk M [(z, m)]) (h : Wv (fallM M [(z, m)]) W N) : Wv M (("pay", z, m) :: W) N
  | clear {M N : Bk} {z : Str} {m : Int} {r : List Str} {W : List (Str × Str × Int)} (co : ClearOk M z m r) (h : Wv (fallM M (r.map fun x => (x, m))) W N) : Wv M (("clear", z, m) :: W) N
theorem Wv.app {M N O : Bk} {W V' : List (Str × Str × Int)} (h : Wv M W N) (h' : Wv N V' O) : Wv M (W ++ V') O := by
  induction h with
  | nil => exact h'
  | pay ok ej m1 mm fo h ih => exact .pay ok ej m1 mm fo (ih h')
  | clear co h ih => exact .clear co (ih h')
/-- a round of persons whose due notes are no less than c -/
structure Ro (zs : List Str) (D : Md) (as : List Str) (c : Int) : Prop where
  g : Gs zs D
  gb : Gb D
  nd : as.Nodup
  sub : ∀ y ∈ as, y ∈ zs
  l0 : 0 < as.length
  rd : Round (nxD zs D) as
  amt : ∀ y ∈ as, c ≤ amtAt zs (duesM (bkOf zs D)) y
theorem mem_rd {as : List Str} {y : Str} (h : y ∈ as) : ∃ i, i < as.length ∧ y = rd as i := by
  obtain ⟨i, hi, e⟩ := List.getElem_of_mem h
  refine ⟨i, hi, ?_⟩
  have := rd_at hi
  rw [List.getElem?_eq_getElem hi] at this
  rw [← e]
  exact Option.some.inj this
theorem Ro.du {zs : List Str} {D : Md} {as : List Str} {c : Int} (h : Ro zs D as c) : DuesOf zs D (nxD zs D) c as := fun x hx => by
  have g := h.g
  have hxz := h.sub x hx
  obtain ⟨i, _, rfl⟩ := mem_rd hx
  have ht := h.rd i
  have hj : zs.idxOf (Rc.rd as i) < zs.length := List.idxOf_lt_length_of_mem hxz
  have h1 : zs.idxOf (Rc.rd as i) < D.notes.length := by rw [g.ln]; exact hj
  have h2 : zs.idxOf (Rc.rd as i) < D.fallen.length := by rw [g.lf]; exact hj
  have el := List.getElem?_eq_getElem h1
  have ef := List.getElem?_eq_getElem h2
  have hnx := ht
  rw [nxD_at g.nz.nd (idx_get hxz) el ef] at hnx
  cases hL : leftN D.notes[zs.idxOf (Rc.rd as i)] D.fallen[zs.idxOf (Rc.rd as i)] with
  | nil =>
    rw [hL] at hnx
    cases hnx
  | cons n rest =>
    obtain ⟨t', b⟩ := n
    rw [hL] at hnx
    have e1 : t' = Rc.rd as (i + 1) := Option.some.inj hnx
    subst e1
    have ea : amtAt zs (duesM (bkOf zs D)) (Rc.rd as i) = b := by
      unfold amtAt
      have eo : (duesM (bkOf zs D)).getD (zs.idxOf (Rc.rd as i)) none = (leftN D.notes[zs.idxOf (Rc.rd as i)] D.fallen[zs.idxOf (Rc.rd as i)]).head? := getD_of (dues_at (M := bkOf zs D) el ef)
      rw [eo, hL]
      rfl
    have hb := h.amt _ hx
    rw [ea] at hb
    exact ⟨_, _, _, b, rest, el, ef, fun n hn => (g.nt _ (List.getElem_mem h1) n hn).2.1, g.fl _ (List.getElem_mem h2), hL, hb, ht⟩
theorem Ro.mono {zs : List Str} {D : Md} {as : List Str} {c m : Int} (h : Ro zs D as c) (hm : m ≤ c) : Ro zs D as m := ⟨h.g, h.gb, h.nd, h.sub, h.l0, h.rd, fun y hy => Int.le_trans hm (h.amt y hy)⟩
/-- the round from one of them on -/
def rot (as : List Str) (k : Nat) : List Str := as.drop k ++ as.take k
theorem rot_perm (as : List Str) (k : Nat) : (rot as k).Perm as := by
  have := List.perm_append_comm (l₁ := as.drop k) (l₂ := as.take k)
  rw [List.take_append_drop] at this
  exact this
theorem rot_round {nx : Str → Option Str} {as : List Str} {k : Nat} (hk : k < as.length) (h : Round nx as) : Round nx (rot as k) := fun i => by
  unfold rot
  rw [rot_rd hk, rot_rd hk]
  exact h (k + i)
theorem rot_zero {as : List Str} {k : Nat} (hk : k < as.length) : rd (rot as k) 0 = rd as k := by
  unfold rot
  rw [rot_rd hk, Nat.add_zero]
theorem Ro.rot {zs : List Str} {D : Md} {as : List Str} {c : Int} (h : Ro zs D as c) {k : Nat} (hk : k < as.length) : Ro zs D (rot as k) c := by
  have pm := rot_perm as k
  exact ⟨h.g, h.gb, pm.symm.nodup h.nd, fun y hy => h.sub y (pm.mem_iff.mp hy), by rw [pm.length_eq]; exact h.l0, rot_round hk h.rd, fun y hy => h.amt y (pm.mem_iff.mp hy)⟩
theorem Ro.trail {zs : List Str} {D : Md} {as : List Str} {c : Int} (h : Ro zs D as c) : trailM zs (nxD zs D) (Rc.rd as 0) = as := round_trail h.g.walks.ld h.nd h.l0 (h.sub _ (rd_mem h.l0 0)) h.rd
theorem Ro.ring0 {zs : List Str} {D : Md} {as : List Str} {c : Int} (h : Ro zs D as c) : ringM zs (nxD zs D) (Rc.rd as 0) = some (as.drop (as.idxOf (firstM zs as)) ++ as.take (as.idxOf (firstM zs as))) := by
  obtain ⟨r, hR⟩ := round_ring h.g.walks.ld h.nd h.l0 (h.sub _ (rd_mem h.l0 0)) h.rd
  have ht := h.trail
  have hR2 := hR
  unfold ringM at hR
  split at hR
  · rw [ht] at hR
    exact hR2.trans hR.symm
  · cases hR
theorem Ro.ring {zs : List Str} {D : Md} {as : List Str} {c : Int} (h : Ro zs D as c) {z : Str} (hz : z ∈ as) : ∃ r, ringM zs (nxD zs D) z = some r ∧ r.Perm as := by
  obtain ⟨k, hk, rfl⟩ := mem_rd hz
  have hr := (h.rot hk).ring0
  rw [rot_zero hk] at hr
  refine ⟨_, hr, ?_⟩
  generalize (Rc.rot as k).idxOf (firstM zs (Rc.rot as k)) = j
  exact (rot_perm (Rc.rot as k) j).trans (rot_perm as k)
theorem Ro.clear {zs : List Str} {D : Md} {as : List Str} {m : Int} (h : Ro zs D as m) (m1 : 1 ≤ m) {z : Str} (hz : z ∈ as) :
    ∃ r, ClearOk (bkOf zs D) z m r ∧ fallM (bkOf zs D) (r.map fun x => (x, m)) = bkOf zs (fallAll zs D as m) ∧ Gs zs (fallAll zs D as m) ∧ Gb (fallAll zs D as m) := by
  obtain ⟨r, hR, pm⟩ := h.ring hz
  have hzz := h.sub z hz
  have ne : r.map (amtAt zs (duesM (bkOf zs D))) ≠ [] := fun c => by
    have e := List.map_eq_nil_iff.mp c
    have := pm.length_eq
    rw [e] at this
    have := h.l0
    simp at *
    omega
  have hm : m ≤ leastI (r.map (amtAt zs (duesM (bkOf zs D)))) := by
    obtain ⟨h1, _⟩ := least_mem ne
    obtain ⟨y, hy, e⟩ := List.mem_map.mp h1
    rw [← e]
    exact h.amt y (pm.mem_iff.mp hy)
  obtain ⟨g2, gb2, fo, nr, sub⟩ := clear_ok h.g h.gb hzz m1 hR hm
  have ep : fallAll zs D r m = fallAll zs D as m := fallAll_perm h.g.nz.nd h.g.lf nr h.nd sub fun y => pm.mem_iff
  rw [ep] at g2 gb2
  refine ⟨r, ⟨h.g.ok, h.g.closed, hzz, m1, hR, hm, nr, fo⟩, ?_, g2, gb2⟩
  rw [fallAll_eq h.g.nz.nd h.g.lf nr sub, ep]
theorem Ro.at {zs : List Str} {D : Md} {as : List Str} {c m : Int} (h : Ro zs D as c) {y : Str} (hy : y ∈ as) {f : Int} (ef : D.fallen[zs.idxOf y]? = some f) : (fallAll zs D as m).fallen[zs.idxOf y]? = some (f + m) := by
  rw [fallAll_at h.g.nz.nd m as D h.nd h.sub h.g.lf _ y f (idx_get (h.sub y hy)) ef, if_pos hy]
/-- what stays of it -/
theorem Ro.stay {zs : List Str} {D : Md} {as : List Str} {c m : Int} (h : Ro zs D as c) (m1 : 1 ≤ m) (mc : m < c) : Ro zs (fallAll zs D as m) as (c - m) := by
  obtain ⟨_, _, _, g2, gb2⟩ := (h.mono (Int.le_of_lt mc)).clear m1 (rd_mem h.l0 0)
  obtain ⟨_, kn, _⟩ := fallAll_keeps zs m as D
  have st : ∀ y ∈ as, ∃ t b rest l f, D.notes[zs.idxOf y]? = some l ∧ (fallAll zs D as m).fallen[zs.idxOf y]? = some (f + m) ∧ leftN l (f + m) = (t, b - m) :: rest ∧ c ≤ b ∧ nxD zs D y = some t := fun y hy => by
    obtain ⟨l, f, t, b, rest, el, ef, hn, f0, eL, cb, ht⟩ := h.du y hy
    refine ⟨t, b, rest, l, f, el, h.at hy ef, ?_, cb, ht⟩
    rw [left_fall hn f0 (by omega) (by omega) eL, if_pos (by omega)]
    rfl
  refine ⟨g2, gb2, h.nd, h.sub, h.l0, fun i => ?_, fun y hy => ?_⟩
  · have hy := rd_mem h.l0 i
    obtain ⟨t, b, rest, l, f, el, ef, eL, cb, ht⟩ := st _ hy
    have el2 : (fallAll zs D as m).notes[zs.idxOf (Rc.rd as i)]? = some l := by rw [kn]; exact el
    rw [nxD_at h.g.nz.nd (idx_get (h.sub _ hy)) el2 ef, eL]
    have := h.rd i
    rw [ht] at this
    rw [← this]
    rfl
  · obtain ⟨t, b, rest, l, f, el, ef, eL, cb, ht⟩ := st _ hy
    have el2 : (fallAll zs D as m).notes[zs.idxOf y]? = some l := by rw [kn]; exact el
    have eo : (duesM (bkOf zs (fallAll zs D as m))).getD (zs.idxOf y) none = (leftN l (f + m)).head? := getD_of (dues_at (M := bkOf zs (fallAll zs D as m)) el2 ef)
    unfold amtAt
    rw [eo, eL]
    show c - m ≤ b - m
    omega
theorem Ro.cash {zs : List Str} {D : Md} {as : List Str} {m : Int} (h : Ro zs D as m) (m0 : 0 ≤ m) (i : Nat) (y : Str) (ei : zs[i]? = some y) : cashM (bkOf zs (fallAll zs D as m)) i y = cashM (bkOf zs D) i y := by
  obtain ⟨r, hR, pm⟩ := h.ring (rd_mem h.l0 0)
  obtain ⟨p, _, _, _⟩ := ring_perm h.g.walks.ld (h.sub _ (rd_mem h.l0 0)) hR
  have p2 : (as.map (nxD zs D)).Perm (as.map some) := ((pm.map _).symm.trans p).trans (pm.map _)
  rw [fallAll_cash h.g.nz.nd m0 as D h.nd h.sub h.du i y ei, ring_count p2 h.nd y]
  by_cases hy : y ∈ as
  · rw [if_pos hy, if_pos hy]
    simp
  · rw [if_neg hy, if_neg hy]
    simp
/-- paid round: from one who has as much -/
theorem Ro.pays {zs : List Str} {D : Md} {as : List Str} {m : Int} (h : Ro zs D as m) (m1 : 1 ≤ m) (hc : m ≤ cashM (bkOf zs D) (zs.idxOf (Rc.rd as 0)) (Rc.rd as 0)) : Wv (bkOf zs D) (as.map fun y => ("pay", y, m)) (bkOf zs (fallAll zs D as m)) := by
  have lz := h.g.nz.nd
  -- one step
  have step : ∀ j (hj : j < as.length), Gs zs (fallAll zs D (as.take j) m) → Gb (fallAll zs D (as.take j) m) →
      Gs zs (fallAll zs D (as.take (j + 1)) m) ∧ Gb (fallAll zs D (as.take (j + 1)) m) ∧ (bkOf zs (fallAll zs D (as.take j) m)).Ok ∧ m ≤ mostP (bkOf zs (fallAll zs D (as.take j) m)) (zs.idxOf as[j]) as[j] ∧ FallOk (bkOf zs (fallAll zs D (as.take j) m)) [(as[j], m)] ∧
        fallM (bkOf zs (fallAll zs D (as.take j) m)) [(as[j], m)] = bkOf zs (fallAll zs D (as.take (j + 1)) m) := fun j hj g gb => by
    have hm := List.getElem_mem hj
    have hz := h.sub _ hm
    obtain ⟨l, f, t, b, rest, el, ef, hn, f0, eL, cb, ht⟩ := h.du _ hm
    obtain ⟨_, kn, _⟩ := fallAll_keeps zs m (as.take j) D
    have sub2 : ∀ y ∈ as.take j, y ∈ zs := fun y hy => h.sub y (List.mem_of_mem_take hy)
    have nd2 : (as.take j).Nodup := h.nd.sublist (List.take_sublist _ _)
    have nin : as[j] ∉ as.take j := fun z => by
      obtain ⟨k, hk, e⟩ := List.getElem_of_mem z
      rw [List.length_take] at hk
      rw [List.getElem_take] at e
      have := (List.getElem_inj h.nd).mp e
      omega
    have ef2 : (fallAll zs D (as.take j) m).fallen[zs.idxOf as[j]]? = some f := by
      rw [fallAll_at lz m (as.take j) D nd2 sub2 h.g.lf _ _ f (idx_get hz) ef, if_neg nin, Int.add_zero]
    have el2 : (fallAll zs D (as.take j) m).notes[zs.idxOf as[j]]? = some l := by rw [kn]; exact el
    have cs : m ≤ cashM (bkOf zs (fallAll zs D (as.take j) m)) (zs.idxOf as[j]) as[j] := by
      have du2 : DuesOf zs D (nxD zs D) m (as.take j) := fun x hx => h.du x (List.mem_of_mem_take hx)
      rw [fallAll_cash lz (by omega) (as.take j) D nd2 sub2 du2 _ _ (idx_get hz), if_neg nin]
      cases j with
      | zero =>
        have e0 : as[0] = Rc.rd as 0 := by
          have := rd_at hj
          rw [List.getElem?_eq_getElem hj] at this
          exact Option.some.inj this
        rw [← e0] at hc
        simp
        exact hc
      | succ j =>
        have c0 := h.g.cs _ _ (idx_get hz)
        have hlt : j < as.length := by omega
        have hin : as[j] ∈ (as.take (j + 1)).filter fun x => decide (nxD zs D x = some as[j + 1]) := by
          refine List.mem_filter.mpr ⟨?_, decide_eq_true ?_⟩
          · rw [take_succ hlt]
            exact List.mem_append_right _ (List.mem_singleton.mpr rfl)
          · have e1 := rd_at hlt
            have e2 := rd_at hj
            rw [List.getElem?_eq_getElem hlt] at e1
            rw [List.getElem?_eq_getElem hj] at e2
            rw [Option.some.inj e1, Option.some.inj e2]
            exact h.rd j
        have hlen := List.length_pos_of_mem hin
        generalize ((as.take (j + 1)).filter fun x => decide (nxD zs D x = some as[j + 1])).length = n at hlen
        have : m * 1 ≤ m * (n : Int) := Int.mul_le_mul_of_nonneg_left (by omega) (by omega)
        omega
    obtain ⟨g3, fo⟩ := g.fall (idx_get hz) el2 ef2 eL (by omega) cb (.inr cs)
    obtain ⟨w1, _⟩ := fall_one hn f0 (by omega) cb eL
    have eD : fallAll zs D (as.take (j + 1)) m = fellD (fallAll zs D (as.take j) m) (zs.idxOf as[j]) (f + m) := by
      rw [take_succ hj]
      unfold fallAll
      rw [List.foldl_append]
      show fellD _ _ (_ + m) = _
      have e2 : (List.foldl (fun D y => fellD D (zs.idxOf y) (D.fallen.getD (zs.idxOf y) 0 + m)) D (as.take j)).fallen.getD (zs.idxOf as[j]) 0 = f := getD_of ef2
      rw [e2]
    refine ⟨by rw [eD]; exact g3, by rw [eD]; exact gb.fell el2 w1, g.ok, ?_, fo, ?_⟩
    · have eo : (duesM (bkOf zs (fallAll zs D (as.take j) m))).getD (zs.idxOf as[j]) none = some (t, b) := by
        rw [getD_of (dues_at (M := bkOf zs (fallAll zs D (as.take j) m)) el2 ef2), eL]
        rfl
      rw [mostP_some eo]
      split <;> omega
    · rw [eD]
      exact fell_eq lz g.lf (idx_get hz) ef2
  have good : ∀ j, j ≤ as.length → Gs zs (fallAll zs D (as.take j) m) ∧ Gb (fallAll zs D (as.take j) m) := fun j => by
    induction j with
    | zero => exact fun _ => ⟨h.g, h.gb⟩
    | succ j ih =>
      intro hj
      obtain ⟨a, b⟩ := ih (by omega)
      obtain ⟨c, d, _⟩ := step j (by omega) a b
      exact ⟨c, d⟩
  have all : ∀ k j, j + k = as.length → Wv (bkOf zs (fallAll zs D (as.take j) m)) ((as.drop j).map fun y => ("pay", y, m)) (bkOf zs (fallAll zs D as m)) := fun k => by
    induction k with
    | zero =>
      intro j hj
      rw [List.drop_of_length_le (by omega), List.take_of_length_le (by omega)]
      exact .nil _
    | succ k ih =>
      intro j hj
      have hlt : j < as.length := by omega
      obtain ⟨a, b⟩ := good j (by omega)
      obtain ⟨_, _, ok, mm, fo, e⟩ := step j hlt a b
      rw [List.drop_eq_getElem_cons hlt, List.map_cons]
      refine .pay ok (idx_get (h.sub _ (List.getElem_mem hlt))) m1 mm fo ?_
      rw [e]
      exact ih (j + 1) (by omega)
  exact all as.length 0 (by omega)
end Rc

namespace Rc
open PySem PySem.Spec PyProof.Rows L2 RZ
def StAt (H : Hp) (v : V) (p : Str × Str × Int) : Prop := ∃ a, v = .ref a ∧ H a = some (.tup [.str p.1, .str p.2.1, .int p.2.2])
def StsAt (H : Hp) (xs : List V) (W : List (Str × Str × Int)) : Prop := xs.length = W.length ∧ ∀ (i : Nat) (x : V) (p : Str × Str × Int), xs[i]? = some x → W[i]? = some p → StAt H x p
theorem StAt.kt {H H' : Hp} {v : V} {p : Str × Str × Int} (h : StAt H v p) (k : KT H H') : StAt H' v p := by
  obtain ⟨a, e, h⟩ := h
  exact ⟨a, e, k _ _ h trivial⟩
theorem StsAt.kt {H H' : Hp} {xs : List V} {W : List (Str × Str × Int)} (h : StsAt H xs W) (k : KT H H') : StsAt H' xs W := ⟨h.1, fun i x p e1 e2 => (h.2 i x p e1 e2).kt k⟩
theorem StsAt.app {H : Hp} {xs ys : List V} {W V' : List (Str × Str × Int)} (h : StsAt H xs W) (h' : StsAt H ys V') : StsAt H (xs ++ ys) (W ++ V') := by
  refine ⟨by rw [List.length_append, List.length_append, h.1, h'.1], fun i x p e1 e2 => ?_⟩
  have l := h.1
  by_cases hi : i < xs.length
  · rw [List.getElem?_append_left hi] at e1
    rw [List.getElem?_append_left (by omega)] at e2
    exact h.2 i x p e1 e2
  · rw [List.getElem?_append_right (by omega)] at e1
    rw [List.getElem?_append_right (by omega)] at e2
    rw [l] at e1
    exact h'.2 _ x p e1 e2
theorem StsAt.one {H : Hp} {t : Addr} {p : Str × Str × Int} (h : H t = some (.tup [.str p.1, .str p.2.1, .int p.2.2])) : StsAt H [.ref t] [p] := by
  refine ⟨rfl, fun i x q e1 e2 => ?_⟩
  cases i with
  | zero =>
    cases e1
    cases e2
    exact ⟨t, rfl, h⟩
  | succ i => cases e1
end Rc

namespace Rc
open PySem PySem.Spec PyProof.Rows L2 RZ
/-! ### steps that can be done -/
def clearAt (zs : List Str) (D : Md) (z : Str) : List (Str × Str × Int) := match ringM zs (nxD zs D) z with
  | some r => [("clear", z, leastI (r.map (amtAt zs (duesM (bkOf zs D)))))]
  | none => []
def payAt (zs : List Str) (D : Md) (z : Str) : List (Str × Str × Int) := if 0 < mostP (bkOf zs D) (zs.idxOf z) z then [("pay", z, mostP (bkOf zs D) (zs.idxOf z) z)] else []
def kindsD (zs : List Str) (D : Md) (l : List Str) : List (Str × Str × Int) := l.flatMap fun z => clearAt zs D z ++ payAt zs D z
theorem kindsD_snoc (zs : List Str) (D : Md) (l : List Str) (z : Str) : kindsD zs D (l ++ [z]) = kindsD zs D l ++ (clearAt zs D z ++ payAt zs D z) := by
  unfold kindsD
  rw [List.flatMap_append]
  simp
/-- a step that can be done, those of whom it falls, and what stands then -/
structure CanD (zs : List Str) (D : Md) (wd z : Str) (m : Int) (r : List Str) : Prop where
  hz : z ∈ zs
  m1 : 1 ≤ m
  m58 : m ≤ 10 ^ 58
  kd : (wd = "pay" ∧ r = [z]) ∨ (wd = "clear" ∧ ringM zs (nxD zs D) z = some r)
  nr : r.Nodup
  sub : ∀ y ∈ r, y ∈ zs
  g : Gs zs (fallAll zs D r m)
  gb : Gb (fallAll zs D r m)
  wv : Wv (bkOf zs D) [(wd, z, m)] (bkOf zs (fallAll zs D r m))
theorem mostP_most {zs : List Str} {D : Md} (g : Gs zs D) {z : Str} (hp : 0 < mostP (bkOf zs D) (zs.idxOf z) z) : ∃ n, (duesM (bkOf zs D)).getD (zs.idxOf z) none = some n ∧ mostP (bkOf zs D) (zs.idxOf z) z ≤ n.2 ∧ mostP (bkOf zs D) (zs.idxOf z) z ≤ cashM (bkOf zs D) (zs.idxOf z) z ∧ n.2 ≤ 10 ^ 58 := by
  cases h : (duesM (bkOf zs D)).getD (zs.idxOf z) none with
  | none =>
    rw [mostP_none h] at hp
    omega
  | some n =>
    have gn : 1 ≤ n.2 ∧ n.2 ≤ 10 ^ 58 := (g.due (getD_mem h)).2
    refine ⟨n, rfl, ?_, ?_, gn.2⟩ <;> (rw [mostP_some h]; split <;> omega)
theorem can_pay {zs : List Str} {D : Md} (g : Gs zs D) (gb : Gb D) {z : Str} (hz : z ∈ zs) {m : Int} (m1 : 1 ≤ m) (mm : m ≤ mostP (bkOf zs D) (zs.idxOf z) z) : CanD zs D "pay" z m [z] := by
  obtain ⟨n, hn, h1, h2, h3⟩ := mostP_most g (z := z) (by omega)
  have hj : zs.idxOf z < zs.length := List.idxOf_lt_length_of_mem hz
  have hl1 : zs.idxOf z < D.notes.length := by rw [g.ln]; exact hj
  have hl2 : zs.idxOf z < D.fallen.length := by rw [g.lf]; exact hj
  have el := List.getElem?_eq_getElem hl1
  have ef := List.getElem?_eq_getElem hl2
  have eo : (duesM (bkOf zs D)).getD (zs.idxOf z) none = (leftN D.notes[zs.idxOf z] D.fallen[zs.idxOf z]).head? := getD_of (dues_at (M := bkOf zs D) el ef)
  rw [hn] at eo
  cases hL : leftN D.notes[zs.idxOf z] D.fallen[zs.idxOf z] with
  | nil =>
    rw [hL] at eo
    cases eo
  | cons n' rest =>
    rw [hL] at eo
    have en : n = n' := Option.some.inj eo
    subst en
    have hn1 : ∀ x ∈ D.notes[zs.idxOf z], 1 ≤ x.2 := fun x hx => (g.nt _ (List.getElem_mem hl1) x hx).2.1
    have f0 := g.fl _ (List.getElem_mem hl2)
    obtain ⟨g2, fo⟩ := g.fall (idx_get hz) el ef hL (by omega) (show m ≤ n.2 by omega) (.inr (by omega))
    obtain ⟨w1, _⟩ := fall_one hn1 f0 (show 0 ≤ m by omega) (show m ≤ n.2 by omega) hL
    have e1 : fallAll zs D [z] m = fellD D (zs.idxOf z) (D.fallen[zs.idxOf z] + m) := by
      show fellD D (zs.idxOf z) (D.fallen.getD (zs.idxOf z) 0 + m) = _
      rw [getD_of ef]
    refine ⟨hz, m1, by omega, .inl ⟨rfl, rfl⟩, by simp, fun y hy => by rw [List.mem_singleton.mp hy]; exact hz, by rw [e1]; exact g2, by rw [e1]; exact gb.fell el w1, ?_⟩
    refine .pay g.ok (idx_get hz) m1 mm fo ?_
    rw [fell_eq g.nz.nd g.lf (idx_get hz) ef, e1]
    exact .nil _
theorem can_clear {zs : List Str} {D : Md} (g : Gs zs D) (gb : Gb D) {z : Str} (hz : z ∈ zs) {m : Int} {r : List Str} (m1 : 1 ≤ m) (hR : ringM zs (nxD zs D) z = some r) (mm : m ≤ leastI (r.map (amtAt zs (duesM (bkOf zs D))))) : CanD zs D "clear" z m r := by
  obtain ⟨g2, gb2, fo, nr, sub⟩ := clear_ok g gb hz m1 hR mm
  obtain ⟨_, c58, ec⟩ := ring_pos g hz hR
  refine ⟨hz, m1, by omega, .inr ⟨rfl, hR⟩, nr, sub, g2, gb2, ?_⟩
  refine .clear ⟨g.ok, g.closed, hz, m1, hR, mm, nr, fo⟩ ?_
  rw [fallAll_eq g.nz.nd g.lf nr sub]
  exact .nil _
theorem kind_can {zs : List Str} {D : Md} (g : Gs zs D) (gb : Gb D) {l : List Str} (hl : ∀ y ∈ l, y ∈ zs) {p : Str × Str × Int} (h : p ∈ kindsD zs D l) : 1 ≤ p.2.2 ∧ p.2.2 ≤ 10 ^ 58 ∧ p.2.1 ∈ zs ∧ (p.1 = "pay" ∨ p.1 = "clear") ∧ ∀ m, 1 ≤ m → m ≤ p.2.2 → ∃ r, CanD zs D p.1 p.2.1 m r := by
  unfold kindsD at h
  obtain ⟨z, hz', h⟩ := List.mem_flatMap.mp h
  have hz := hl z hz'
  rcases List.mem_append.mp h with h | h
  · unfold clearAt at h
    cases hR : ringM zs (nxD zs D) z with
    | none =>
      rw [hR] at h
      cases h
    | some r =>
      rw [hR] at h
      have e := List.mem_singleton.mp h
      subst e
      obtain ⟨c0, c58, ec⟩ := ring_pos g hz hR
      rw [ec] at c0 c58
      exact ⟨c0, c58, hz, .inr rfl, fun m m1 mm => ⟨r, can_clear g gb hz m1 hR mm⟩⟩
  · unfold payAt at h
    split at h
    · rename_i hp
      have e := List.mem_singleton.mp h
      subst e
      obtain ⟨n, _, h1, _, h3⟩ := mostP_most g hp
      exact ⟨hp, Int.le_trans h1 h3, hz, .inl rfl, fun m m1 mm => ⟨[z], can_pay g gb hz m1 mm⟩⟩
    · cases h
theorem kinds_none {zs : List Str} {D : Md} (g : Gs zs D) (h : kindsD zs D zs = []) : Settled zs D := by
  have hz : ∀ z ∈ zs, clearAt zs D z = [] ∧ payAt zs D z = [] := fun z hz => by
    unfold kindsD at h
    have := List.flatMap_eq_nil_iff.mp h z hz
    exact List.append_eq_nil_iff.mp this
  refine ⟨fun z hz' => ?_, fun z hz' => ?_⟩
  · have := (hz z hz').2
    unfold payAt at this
    split at this
    · cases this
    · rename_i hp
      have h0 : 0 ≤ mostP (bkOf zs D) (zs.idxOf z) z := by
        cases hd : (duesM (bkOf zs D)).getD (zs.idxOf z) none with
        | none => rw [mostP_none hd]; exact Int.le_refl _
        | some n =>
          have gn : 1 ≤ n.2 ∧ n.2 ≤ 10 ^ 58 := (g.due (getD_mem hd)).2
          have := g.cs _ _ (idx_get hz')
          rw [mostP_some hd]
          split <;> omega
      omega
  · have := (hz z hz').1
    unfold clearAt at this
    cases hR : ringM zs (nxD zs D) z with
    | none => rfl
    | some r =>
      rw [hR] at this
      cases this
def stepD3 (p : Str × Str × Int) : PyData := .tuple [.str p.1, .str p.2.1, .int p.2.2]
theorem StsAt.dp {K : PySem.W.Frag} {H : Hp} : ∀ {xs : List V} {W : List (Str × Str × Int)}, StsAt H xs W → DpAll K H xs (W.map stepD3)
  | [], [], _ => .nil
  | [], _ :: _, h => by cases h.1
  | _ :: _, [], h => by cases h.1
  | x :: xs, p :: W, h => by
    obtain ⟨a, rfl, ha⟩ := h.2 0 x p rfl rfl
    refine .cons (.tup (.inl (.inl ha)) (.cons (.str _) (.cons (.str _) (.cons (.int _) .nil)))) (StsAt.dp ⟨by simpa using h.1, fun i x' p' e1 e2 => h.2 (i + 1) x' p' (by simpa using e1) (by simpa using e2)⟩)
theorem name_pay : nameT "pay" = true := by decide +kernel
theorem name_clear : nameT "clear" = true := by decide +kernel
theorem nice_steps {zs : List Str} (hz : ∀ z ∈ zs, nameT z = true) : ∀ {W : List (Str × Str × Int)}, (∀ p ∈ W, 1 ≤ p.2.2 ∧ p.2.2 ≤ 10 ^ 58 ∧ p.2.1 ∈ zs ∧ (p.1 = "pay" ∨ p.1 = "clear")) → ∃ n, NiceA (W.map stepD3) n ∧ n ≤ 40 * W.length
  | [], _ => ⟨0, .nil, Nat.le_refl _⟩
  | p :: W, h => by
    obtain ⟨n, hn, ln⟩ := nice_steps hz (W := W) fun p' hp' => h p' (List.mem_cons_of_mem _ hp')
    obtain ⟨h1, h2, h3, h4⟩ := h p List.mem_cons_self
    have n1 : nameT p.1 = true := by
      rcases h4 with h4 | h4 <;> rw [h4]
      · exact name_pay
      · exact name_clear
    have a3 : NiceA [PyData.int p.2.2] (0 + 1 + 0) := NiceA.cons (nice_int (amt_big ⟨h1, h2⟩)) (Nat.zero_le _) .nil
    have a2 := NiceA.cons (nice_name (hz _ h3)) (Nat.zero_le _) a3
    have a1 := NiceA.cons (nice_name n1) (Nat.zero_le _) a2
    have t1 : NiceD (stepD3 p) _ := a1.tuple
    have d4 : (stepD3 p).depth ≤ 4 := by
      unfold stepD3
      simp [PyData.depth, PyData.depthAll]
    exact ⟨_, NiceA.cons t1 d4 hn, by rw [List.length_cons]; omega⟩
section
variable {P : Program} {w : World} {K : PySem.W.Frag} {mg : Str → Option Value} {base : Heap}
/-! ### _law_fall -/
abbrev sLFl : Stmt := topS 53
theorem scLFl : FnScope ["_law_model_here", "_law_owner", "_law_coins"] ["_law_model_here", "_law_owner", "_law_coins"] (defScope sLFl) := ⟨rfl, rfl, rfl, by decide +kernel, rfl, by decide +kernel, by decide +kernel⟩
def spLFl (K : PySem.W.Frag) : Sp := fun vs H Q _ => ∃ (a : MdA) (D : Md) (zs : List Str) (z : Str) (m : Int), vs = [.ref a.m, .str z, .int m] ∧ ModelAt K H zs a D ∧ NamesOk zs ∧ z ∈ zs ∧ ∀ H', But a.df H H' → ModelAt K H' zs a (fellD D (zs.idxOf z) (D.fallen.getD (zs.idxOf z) 0 + m)) → Q .non H'
theorem ok_lfl {f : Addr} {fd : FuncData} (F : Fun K "_law_fall" "_law_fall" sLFl f fd) : FnOk P w K mg base CX0 1 f fd ["_law_model_here", "_law_owner", "_law_coins"] (spLFl K) := by
  refine F.ok scLFl (fun vs H Q E h => ?_) (fun cdv Ar outer s H vs Q E hr h => ?_)
  · obtain ⟨_, _, _, _, _, rfl, _⟩ := h
    rfl
  · obtain ⟨a, D, zs, z, m, rfl, hM, nz, hz, q⟩ := h
    have hu := hu_of hr
    refine ⟨_, pss_one (ps_dput hu (pe_dget hu (pv 0) pe_str (fun _ _ => rfl)) (pv 1) (pe_op op_add (pe_dget hu (pe_dget hu (pv 0) pe_str (fun _ _ => rfl)) (pv 1) (fun _ _ => rfl)) (pv 2)) rfl), ?_⟩
    have lz := nz.n1
    have ej := idx_get hz
    obtain ⟨gv, f', l', rw0, xs, eg, ef, el, er, hr0, hd0⟩ := hM.at_ ej
    rw [getD_of ef] at q
    refine ⟨.ref a.m, rfl, a.m, .ref a.df, rfl, hM.g2, .str z, rfl, a.df, .int f', rfl, hM.gf ej ef, .int m, rfl, f', m, rfl, rfl, .ref a.m, rfl, a.m, .ref a.df, rfl, hM.g2, .str z, rfl, ?_⟩
    have hjf : zs.idxOf z < D.fallen.length := (List.getElem?_eq_some_iff.mp ef).1
    refine ⟨a.df, _, rfl, DPut.k (k := Sum.inr z) hM.hf (by rw [dct_len (by rw [List.length_map, hM.lf])]; exact small1000 (by omega)), ?_⟩
    rw [dct_put hM.zn ej (by rw [List.length_map]; exact hjf), map_set V.int]
    exact q _ But.at (hM.setF nz.n0 (f' + m))
/-! ### _law_most -/
abbrev sLMo : Stmt := topS 54
abbrev nLMo : List Str := ["_law_model_here", "_law_owner", "_law_left_here"]
theorem scLMo : FnScope nLMo ["_law_model_here", "_law_owner"] (defScope sLMo) := ⟨rfl, rfl, rfl, by decide +kernel, rfl, by decide +kernel, by decide +kernel⟩
def spLMo (K : PySem.W.Frag) : Sp := fun vs H Q _ => ∃ (a : MdA) (D : Md) (zs : List Str) (z : Str), vs = [.ref a.m, .str z] ∧ ModelAt K H zs a D ∧ Gs zs D ∧ z ∈ zs ∧ ∀ H', Same H H' → Q (.int (mostP (bkOf zs D) (zs.idxOf z) z)) H'
theorem ok_lmo {f f1 f2 : Addr} {fd fd1 fd2 : FuncData} (F : Fun K "_law_most" "_law_most" sLMo f fd) (B2 : Blt2 mg) (LL : Has P w K mg base 2 "_law_left" ["_law_model_here", "_law_owner"] (spLLf K) f1 fd1) (LC : Has P w K mg base 2 "_law_cash" ["_law_model_here", "_law_owner"] (spLCs K) f2 fd2) :
    FnOk P w K mg base CX0 3 f fd ["_law_model_here", "_law_owner"] (spLMo K) := by
  refine F.ok scLMo (fun vs H Q E h => ?_) (fun cdv Ar outer s H vs Q E hr h => ?_)
  · obtain ⟨_, _, _, _, rfl, _⟩ := h
    rfl
  · obtain ⟨a, D, zs, z, rfl, hM, g, hz, q⟩ := h
    refine ⟨_, pss_cons (ps_set (i := 2) scLMo.nd rfl (.inl rfl) (pe_call LL.ok hr (by rfl) LL.g LL.kp LL.b .nil pass0 (pa_cons (pv 0) (pa_cons (pv 1) pa_nil))))
      (pss_one (ps_ret (pe_ifExp (pt_cmpR (op_neD hr.units) (pv 2) (pe_lst pa_nil) (nomark _))
          (pe_callB (call_min2 rfl) (by rfl) B2.min (by decide +kernel) (pa_cons (pe_ix ix_tup (pe_ix ix_list (pv 2) pe_int (fun _ _ => rfl)) pe_int (fun _ _ => rfl)) (pa_cons (pe_call LC.ok hr (by rfl) LC.g LC.kp LC.b .nil pass0 (pa_cons (pv 0) (pa_cons (pv 1) pa_nil))) pa_nil))) pe_int))), ?_⟩
    have ej := idx_get hz
    obtain ⟨gv, f', l', r, xs, eg, ef, el, er, hr0, hd0⟩ := hM.at_ ej
    have ll := g.rows l' (List.mem_of_getElem? el)
    have gl := g.left el ef
    have eo : (duesM (bkOf zs D)).getD (zs.idxOf z) none = (leftN l' f').head? := getD_of (dues_at (M := bkOf zs D) el ef)
    refine ⟨.ref a.m, rfl, .str z, rfl, a, D, zs, z, _, l', f', rfl, hM, ej, el, ef, by omega, fun m mx H1 s1 nm hm dm => ?_⟩
    generalize leftN l' f' = L at dm gl eo
    refine ⟨.ref m, rfl, Nat.zero_le _, fun e ne => ?_⟩
    have s2 := same_upd (o := .lst []) ne
    have he : upd H1 e (.lst []) e = some (.lst []) := upd_same
    generalize upd H1 e (.lst []) = H2 at s2 he
    have hm2 := s2 _ _ hm
    have dm2 := DtAll.same s2 _ dm
    refine ⟨.list (notesD L), .list [], notes_dp hm2 dm2, .lst (.inl (.inl he)) .nil, nice_shaped (nice_notes g.nz.nm gl).list, shaped_nil, _, rfl, ?_⟩
    cases L with
    | nil =>
      rw [mostP_none eo] at q
      exact iteF (q H2 (s1.trans s2))
    | cons n t =>
      rw [mostP_some (n := n) eo] at q
      cases dm2 with
      | cons d1 d2 =>
        rename_i x xr
        obtain ⟨ta, rfl, qt⟩ := note_inv d1
        refine iteT ⟨.ref m, rfl, m, _, 0, .ref ta, rfl, rfl, .inl (.inl hm2), atI_nat (j := 0) rfl, ta, _, 1, .int n.2, rfl, rfl, qt, rfl, .ref a.m, rfl, .str z, rfl, a, D, zs, z, _, rfl, model_same hM (s1.trans s2), ej, g.rows, fun H3 s3 => ⟨_, _, rfl, ?_⟩⟩
        rw [← cash_eq zs]
        exact q H3 ((s1.trans s2).trans s3)
/-! ### _law_least -/
abbrev sLLs : Stmt := topS 55
abbrev nLLs : List Str := ["_law_model_here", "_law_ring_here", "_law_one"]
theorem scLLs : FnScope nLLs ["_law_model_here", "_law_ring_here"] (defScope sLLs) := ⟨rfl, rfl, rfl, by decide +kernel, rfl, by decide +kernel, by decide +kernel⟩
def spLLs (K : PySem.W.Frag) : Sp := fun vs H Q _ => ∃ (a : MdA) (D : Md) (zs : List Str) (av : Addr) (rr : List Str), vs = [.ref a.m, .ref av] ∧ ModelAt K H zs a D ∧ Gs zs D ∧ H av = some (.lst (rr.map V.str)) ∧ rr ≠ [] ∧ rr.length ≤ 12 ∧ (∀ y ∈ rr, y ∈ zs ∧ ∃ x, nxD zs D y = some x) ∧
  ∀ H', Same H H' → Q (.int (leastI (rr.map (amtAt zs (duesM (bkOf zs D)))))) H'
theorem ok_lls {f f1 : Addr} {fd fd1 : FuncData} (F : Fun K "_law_least" "_law_least" sLLs f fd) (B2 : Blt2 mg) (LL : Has P w K mg base 2 "_law_left" ["_law_model_here", "_law_owner"] (spLLf K) f1 fd1) : FnOk P w K mg base CX0 3 f fd ["_law_model_here", "_law_ring_here"] (spLLs K) := by
  refine F.ok scLLs (fun vs H Q E h => ?_) (fun cdv Ar outer s H vs Q E hr h => ?_)
  · obtain ⟨_, _, _, _, _, rfl, _⟩ := h
    rfl
  · obtain ⟨a, D, zs, av, rr, rfl, hM, g, hav, hne, l12, rd, q⟩ := h
    refine ⟨_, pss_one (ps_ret (pe_callB (cr_min rfl) (by rfl) B2.min (by decide +kernel) (pa_cons
        (pe_lc (own := [("_law_one", 2)]) (g := gName 2) (tt := tYes) rfl scLLs.nd (pi_list (pv 1)) (blkOk_by (N := nLLs) (sc := defScope sLLs) (own := [("_law_one", 2)]) (by decide +kernel))
          (fun _ _ _ _ _ => pg_name (i := 2) scLLs.nd rfl (.inl rfl) (hf := .inr rfl)) (fun _ _ _ _ _ => pts_nil)
          (fun _ _ _ _ _ => pe_ix (ix_tupS (K := K) rfl) (pe_ix (ix_listS (K := K) rfl) (pe_call LL.ok hr (by rfl) LL.g LL.kp LL.b .nil pass0 (pa_cons (pv 0) (pa_cons (pv 2) pa_nil))) pe_int (fun _ _ => rfl)) pe_int (fun _ _ => rfl))) pa_nil))), ?_⟩
    refine ⟨.ref av, rfl, av, rfl, ⟨_, .inl (.inl hav)⟩, fun D0 nD0 => ?_⟩
    refine lc_it (walk_list (K := K) (a := av) (xs := rr.map V.str)) (fun i H' => Same H H' ∧ H' D0 = some (.lst (((rr.take i).map (amtAt zs (duesM (bkOf zs D)))).map V.int))) ⟨same_upd nD0, upd_same⟩ (fun i H' _ hP => .inl (.inl (hP.1 _ _ hav)))
      (fun i x H3' H3 hi hP hY => ?_) (fun H3 hP => ?_)
    · obtain ⟨rfl, hx⟩ := hY
      rw [List.length_map] at hi
      have exx : x = .str rr[i] := by
        rw [List.getElem?_map, List.getElem?_eq_getElem hi] at hx
        exact (Option.some.inj hx).symm
      subst exx
      obtain ⟨hy, x2, hx2⟩ := rd _ (List.getElem_mem hi)
      have ejy := idx_get hy
      obtain ⟨gv2, f2', l2', r2, xs2, eg2, ef2, el2, er2, hr02, hd02⟩ := hM.at_ ejy
      have ll2 := g.rows l2' (List.mem_of_getElem? el2)
      have eo2 : (duesM (bkOf zs D)).getD (zs.idxOf rr[i]) none = (leftN l2' f2').head? := getD_of (dues_at (M := bkOf zs D) el2 ef2)
      refine ⟨rfl, .ref a.m, rfl, .str rr[i], rfl, a, D, zs, _, _, l2', f2', rfl, model_same hM hP.1, ejy, el2, ef2, by omega, fun m2 mx2 H4 s4 nm2 hm2 dm2 => ?_⟩
      rw [nxD_at hM.zn ejy el2 ef2] at hx2
      cases hL : leftN l2' f2' with
      | nil =>
        rw [hL] at hx2
        cases hx2
      | cons n t =>
        rw [hL] at dm2 eo2
        have ea : amtAt zs (duesM (bkOf zs D)) rr[i] = n.2 := by
          unfold amtAt
          rw [eo2]
          rfl
        cases dm2 with
        | cons d1 d2 =>
          rename_i x xr
          obtain ⟨ta, rfl, qt⟩ := note_inv d1
          refine ⟨m2, _, 0, .ref ta, rfl, rfl, .inl (.inl hm2), atI_nat (j := 0) rfl, ta, _, 1, .int n.2, rfl, rfl, qt, rfl, _, s4 _ _ hP.2, ?_, fun c o ec => ?_, ?_⟩
          · rw [List.length_map, List.length_map, List.length_take]
            exact small1000 (by omega)
          · rw [upd_ne (ne_of_none ec nD0)]
            exact s4 _ _ (hP.1 c o ec)
          · rw [upd_same, take_succ hi, List.map_append, List.map_append, ← ea]
            rfl
    · obtain ⟨s3, hD0⟩ := hP
      rw [List.length_map, List.take_length] at hD0
      refine ⟨D0, _, rfl, .inl (.inl hD0), by rw [List.length_map]; exact List.length_pos_iff.mpr hne, fun mn h1 h2 => ?_⟩
      rw [least_uniq h1 h2]
      exact q H3 s3
/-! ### _law_went -/
abbrev sLWn : Stmt := topS 59
abbrev nLWn : List Str := ["_law_model_here", "_law_step_here", "_law_word", "_law_owner", "_law_coins", "_law_some", "_law_one"]
theorem scLWn : FnScope nLWn ["_law_model_here", "_law_step_here"] (defScope sLWn) := ⟨rfl, rfl, rfl, by decide +kernel, rfl, by decide +kernel, by decide +kernel⟩
def spLWn (K : PySem.W.Frag) : Sp := fun vs H Q _ => ∃ (a : MdA) (D : Md) (zs : List Str) (t : Addr) (wd z : Str) (m : Int) (r : List Str), vs = [.ref a.m, .ref t] ∧ ModelAt K H zs a D ∧ Gs zs D ∧ SqT K H t [.str wd, .str z, .int m] ∧ CanD zs D wd z m r ∧ ∀ H', But a.df H H' → ModelAt K H' zs a (fallAll zs D r m) → Q .non H'
theorem ok_lwn {f f1 f3 : Addr} {fd fd1 fd3 : FuncData} (F : Fun K "_law_went" "_law_went" sLWn f fd) (LR : Has P w K mg base 5 "_law_ring" ["_law_model_here", "_law_owner"] (spLRg K) f3 fd3) (FL : Has P w K mg base 1 "_law_fall" ["_law_model_here", "_law_owner", "_law_coins"] (spLFl K) f1 fd1) :
    FnOk P w K mg base CX0 6 f fd ["_law_model_here", "_law_step_here"] (spLWn K) := by
  refine F.ok scLWn (fun vs H Q E h => ?_) (fun cdv Ar outer s H vs Q E hr h => ?_)
  · obtain ⟨_, _, _, _, _, _, _, _, rfl, _⟩ := h
    rfl
  · obtain ⟨a, D, zs, t, wd, z, m, r, rfl, hM, g, ht, cd, q⟩ := h
    have hr1 := hr.mono (show 1 ≤ 5 by decide)
    refine ⟨_, pss_cons (ps_asg (pv 1) (pg_tup rfl (pgs_cons (pg_name (i := 2) scLWn.nd rfl (.inl rfl)) (pgs_cons (pg_name (i := 3) scLWn.nd rfl (.inl rfl)) (pgs_cons (pg_name (i := 4) scLWn.nd rfl (.inl rfl)) pgs_nil)))))
      (C8.pss_cut (ps_set (i := 5) scLWn.nd rfl (.inl rfl) (pe_ifExp (pt_cmpR op_eq (pv 2) pe_str (nomark _)) (pe_lst (pa_cons (pv 3) pa_nil)) (pe_call LR.ok hr (by rfl) LR.g LR.kp LR.b .nil pass0 (pa_cons (pv 0) (pa_cons (pv 3) pa_nil)))))
      (pss_one (ps_for PassesOwn.never rfl (pi_list (pv 5)) (pg_name (i := 6) scLWn.nd rfl (.inl rfl))
        (pss_one (ps_expr (pe_call FL.ok hr1 (by rfl) FL.g FL.kp FL.b .nil pass0 (pa_cons (pv 0) (pa_cons (pv 6) (pa_cons (pv 4) pa_nil))))))))), ?_⟩
    refine ⟨.ref t, rfl, t, _, rfl, ht, rfl, _, _, rfl, _, _, rfl, _, _, rfl, rfl, ?_⟩
    refine ⟨fun σ' H1 => ∃ L, σ' = [some (V.ref a.m), some (V.ref t), some (V.str wd), some (V.str z), some (V.int m), some (V.ref L), none] ∧ Same H H1 ∧ H1 L = some (.lst (r.map V.str)), ?_, ?_⟩
    · refine ⟨.str wd, rfl, rfl, _, rfl, ?_⟩
      rcases cd.kd with ⟨rfl, rfl⟩ | ⟨rfl, hR⟩
      · rw [decide_eq_true rfl]
        exact iteT ⟨.str z, rfl, by show 1 ≤ sizeLine; decide, fun L nL => ⟨L, rfl, same_upd nL, upd_same⟩⟩
      · rw [decide_eq_false pay_ne_clear]
        refine iteF ⟨.ref a.m, rfl, .str z, rfl, a, D, zs, z, rfl, hM, g, cd.hz, fun v H1 s1 rv => ?_⟩
        rw [hR] at rv
        obtain ⟨av, rfl, nav, hav⟩ := rv
        exact ⟨av, rfl, s1, hav⟩
    · rintro σ' H1 ⟨L, rfl, s1, hL⟩
      have nL : L ≠ a.df := fun c => by
        have := s1 _ _ hM.hf
        rw [← c, hL] at this
        cases this
      refine ⟨.ref L, rfl, L, rfl, ⟨_, .inl (.inl hL)⟩, ?_⟩
      refine for_it (walk_list (K := K) (a := L) (xs := r.map V.str)) (fun i σ H' => ∃ y6, σ = [some (.ref a.m), some (.ref t), some (.str wd), some (.str z), some (.int m), some (.ref L), y6] ∧ But a.df H1 H' ∧ ModelAt K H' zs a (fallAll zs D (r.take i) m)) ⟨_, rfl, But.refl _ _, model_same hM s1⟩ (fun i σ H' _ hP => ?_) (fun i x σ H2' H2 hi hP hY => ?_) (fun σ H2 hP => ?_)
      · obtain ⟨_, _, b2, _⟩ := hP
        exact .inl (.inl (b2 _ _ nL hL))
      · obtain ⟨rfl, hx⟩ := hY
        obtain ⟨y6, rfl, b2, hM2⟩ := hP
        rw [List.length_map] at hi
        have exx : x = .str r[i] := by
          rw [List.getElem?_map, List.getElem?_eq_getElem hi] at hx
          exact (Option.some.inj hx).symm
        subst exx
        have hy := cd.sub _ (List.getElem_mem hi)
        have ef0 := take_succ hi
        have eD : fallAll zs D (r.take (i + 1)) m = fellD (fallAll zs D (r.take i) m) (zs.idxOf r[i]) ((fallAll zs D (r.take i) m).fallen.getD (zs.idxOf r[i]) 0 + m) := by
          unfold fallAll
          rw [ef0, List.foldl_append]
          rfl
        rw [eD]
        refine ⟨.ref a.m, rfl, .str r[i], rfl, .int m, rfl, a, _, zs, r[i], m, rfl, hM2, g.nz, hy, fun H3 b3 hM3 => ?_⟩
        exact ⟨_, rfl, b2.trans b3, hM3⟩
      · obtain ⟨y6, rfl, b2, hM2⟩ := hP
        rw [List.length_map, List.take_length] at hM2
        exact q H2 ((same_but s1).trans b2) hM2
end
end Rc

namespace Rc
open PySem PySem.Spec PyProof.Rows L2 RZ
theorem sts_more {H H3 : Hp} {r t : Addr} {xs : List V} {W : List (Str × Str × Int)} {p : Str × Str × Int} (nr : H r = none) (s : Same H H3) (hr : H3 r = some (.lst xs)) (st : StsAt H3 xs W) (nt : H3 t = none) :
    Same H (upd (upd H3 t (.tup [.str p.1, .str p.2.1, .int p.2.2])) r (.lst (xs ++ [.ref t]))) ∧ StsAt (upd (upd H3 t (.tup [.str p.1, .str p.2.1, .int p.2.2])) r (.lst (xs ++ [.ref t]))) (xs ++ [.ref t]) (W ++ [p]) := by
  have s5 := same_upd (o := .tup [.str p.1, .str p.2.1, .int p.2.2]) nt
  have ht : upd H3 t (.tup [.str p.1, .str p.2.1, .int p.2.2]) t = some (.tup [.str p.1, .str p.2.1, .int p.2.2]) := upd_same
  generalize upd H3 t (.tup [.str p.1, .str p.2.1, .int p.2.2]) = H5 at s5 ht
  have kt : KT H5 (upd H5 r (.lst (xs ++ [.ref t]))) := kt_upd (s5 _ _ hr) fun z => z
  refine ⟨fun c o ec => ?_, ((st.kt (kt_same s5)).app (StsAt.one ht)).kt kt⟩
  rw [upd_ne (ne_of_none ec nr)]
  exact s5 _ _ (s c o ec)
section
variable {P : Program} {w : World} {K : PySem.W.Frag} {mg : Str → Option Value} {base : Heap}
/-! ### _law_step -/
abbrev sLSp : Stmt := topS 58
abbrev nLSp : List Str := ["_law_pot_here", "_law_model_here", "_law_kinds", "_law_owner", "_law_ring_here", "_law_word", "_law_most_here", "_law_coins"]
theorem scLSp : FnScope nLSp ["_law_pot_here", "_law_model_here"] (defScope sLSp) := ⟨rfl, rfl, rfl, by decide +kernel, rfl, by decide +kernel, by decide +kernel⟩
def spLSp (K : PySem.W.Frag) : Sp := fun vs H Q _ => ∃ (p : Addr) (a : MdA) (D : Md) (zs : List Str), vs = [.ref p, .ref a.m] ∧ Pot H p ∧ ModelAt K H zs a D ∧ Gs zs D ∧ Gb D ∧ (Settled zs D → ∀ H', Same H H' → Q .non H') ∧
  ∀ (t : Addr) (wd z : Str) (m : Int) (r : List Str) H', H t = none → But p H H' → Pot H' p → H' t = some (.tup [.str wd, .str z, .int m]) → CanD zs D wd z m r → Q (.ref t) H'
theorem ok_lsp {f fT fA f1 f2 f3 : Addr} {fd fdT fdA fd1 fd2 fd3 : FuncData} (F : Fun K "_law_step" "_law_step" sLSp f fd) (B2 : Blt2 mg) (TK : HasTake P w K mg base fT fdT) (AM : HasAmong P w K mg base fA fdA) (LR : Has P w K mg base 5 "_law_ring" ["_law_model_here", "_law_owner"] (spLRg K) f1 fd1)
    (LS : Has P w K mg base 3 "_law_least" ["_law_model_here", "_law_ring_here"] (spLLs K) f2 fd2) (MO : Has P w K mg base 3 "_law_most" ["_law_model_here", "_law_owner"] (spLMo K) f3 fd3) : FnOk P w K mg base CX0 6 f fd ["_law_pot_here", "_law_model_here"] (spLSp K) := by
  refine F.ok scLSp (fun vs H Q E h => ?_) (fun cdv Ar outer s H vs Q E hr h => ?_)
  · obtain ⟨_, _, _, _, rfl, _⟩ := h
    rfl
  · obtain ⟨p, a, D, zs, rfl, hp, hM, g, gb, q0, q⟩ := h
    have hu := hu_of hr
    have hr1 := hr.mono (show 1 ≤ 5 by decide)
    have hr2 := hr.mono (show 2 ≤ 5 by decide)
    have hr3 := hr.mono (show 3 ≤ 5 by decide)
    refine ⟨_, pss_cons (ps_set (i := 2) scLSp.nd rfl (.inl rfl) (pe_lst pa_nil))
      (pss_cons (ps_for PassesOwn.never rfl (pi_list (pe_dget hu (pv 1) pe_str (fun _ _ => rfl))) (pg_name (i := 3) scLSp.nd rfl (.inl rfl))
        (pss_cons (ps_set (i := 4) scLSp.nd rfl (.inl rfl) (pe_call LR.ok hr (by rfl) LR.g LR.kp LR.b .nil pass0 (pa_cons (pv 1) (pa_cons (pv 3) pa_nil))))
        (C8.pss_cut (ps_if (pt_cmpR op_notN (pv 4) pe_non (nomark _)) (pss_one (ps_expr (pe_bm PySem.F.plainAttrs_list PySem.F.slot_list_append PySem.F.type_list_append mt_append (pv 2) (pa_cons (pe_tup (pa_cons pe_str (pa_cons (pv 3) (pa_cons (pe_call LS.ok hr3 (by rfl) LS.g LS.kp LS.b .nil pass0 (pa_cons (pv 1) (pa_cons (pv 4) pa_nil))) pa_nil)))) pa_nil)))) pss_nil)
        (pss_one (ps_if (pt_cmpR op_gt (pe_call MO.ok hr3 (by rfl) MO.g MO.kp MO.b .nil pass0 (pa_cons (pv 1) (pa_cons (pv 3) pa_nil))) pe_int (nomark _)) (pss_one (ps_expr (pe_bm PySem.F.plainAttrs_list PySem.F.slot_list_append PySem.F.type_list_append mt_append (pv 2) (pa_cons (pe_tup (pa_cons pe_str (pa_cons (pv 3) (pa_cons (pe_call MO.ok hr3 (by rfl) MO.g MO.kp MO.b .nil pass0 (pa_cons (pv 1) (pa_cons (pv 3) pa_nil))) pa_nil)))) pa_nil)))) pss_nil)))))
      (pss_cons (ps_if (pt_cmpR (op_eqD hr.units) (pv 2) (pe_lst pa_nil) (nomark _)) (pss_one (ps_ret pe_non)) pss_nil)
      (pss_cons (ps_asg (pe_call AM.ok hr2 (by rfl) AM.g AM.kp AM.b .nil pass0 (pa_cons (pv 0) (pa_cons (pv 2) pa_nil))) (pg_tup rfl (pgs_cons (pg_name (i := 5) scLSp.nd rfl (.inl rfl)) (pgs_cons (pg_name (i := 3) scLSp.nd rfl (.inl rfl)) (pgs_cons (pg_name (i := 6) scLSp.nd rfl (.inl rfl)) pgs_nil)))))
      (pss_cons (ps_set (i := 7) scLSp.nd rfl (.inl rfl) (pe_ix ix_list (pe_lst (pa_cons (pv 6) (pa_cons pe_int (pa_cons (pe_op op_add pe_int (pe_call TK.ok hr1 (by rfl) TK.g TK.kp TK.b .nil pass0 (pa_cons (pv 0) (pa_cons (pv 6) pa_nil))))
        (pa_cons (pe_callB (call_min2 rfl) (by rfl) B2.min (by decide +kernel) (pa_cons (pv 6) (pa_cons (pe_op op_add pe_int (pe_call TK.ok hr1 (by rfl) TK.g TK.kp TK.b .nil pass0 (pa_cons (pv 0) (pa_cons pe_int pa_nil)))) pa_nil))) pa_nil)))))
        (pe_call TK.ok hr1 (by rfl) TK.g TK.kp TK.b .nil pass0 (pa_cons (pv 0) (pa_cons pe_int pa_nil))) (fun _ _ => rfl)))
      (pss_one (ps_ret (pe_tup (pa_cons (pv 5) (pa_cons (pv 3) (pa_cons (pv 7) pa_nil)))))))))), ?_⟩
    have lz := g.nz.n1
    have wk := g.walks
    refine ⟨Nat.zero_le _, fun r nr => ?_⟩
    have s0 := same_upd (o := .lst []) nr
    have hr0 : upd H r (.lst []) r = some (.lst []) := upd_same
    generalize upd H r (.lst []) = H0 at s0 hr0
    have hM0 := model_same hM s0
    refine ⟨.ref a.m, rfl, a.m, .ref a.lo, rfl, hM0.g0, a.lo, rfl, ⟨_, .inl (.inl hM0.ho)⟩, ?_⟩
    refine for_it (walk_list (K := K) (a := a.lo) (xs := zs.map V.str)) (fun i σ H' => ∃ xs y3 y4 y5 y6 y7, σ = [some (.ref p), some (.ref a.m), some (.ref r), y3, y4, y5, y6, y7] ∧ Same H H' ∧ H' r = some (.lst xs) ∧ StsAt H' xs (kindsD zs D (zs.take i)) ∧ xs.length ≤ 2 * i)
      ⟨[], _, _, _, _, _, rfl, s0, hr0, ⟨rfl, fun i x p e _ => by cases e⟩, Nat.zero_le _⟩ (fun i σ H' _ hP => ?_) (fun i x σ H1' H1 hi hP hY => ?_) (fun σ H1 hP => ?_)
    · obtain ⟨_, _, _, _, _, _, _, s1, _⟩ := hP
      exact .inl (.inl (s1 _ _ hM.ho))
    · obtain ⟨rfl, hx⟩ := hY
      obtain ⟨xs, y3, y4, y5, y6, y7, rfl, s1, hr1', st1, lx⟩ := hP
      rw [List.length_map] at hi
      have exx : x = .str zs[i] := by
        rw [List.getElem?_map, List.getElem?_eq_getElem hi] at hx
        exact (Option.some.inj hx).symm
      subst exx
      have hz : zs[i] ∈ zs := List.getElem_mem hi
      have tk := take_succ hi
      generalize zs[i] = z at hz tk
      refine ⟨.ref a.m, rfl, .str z, rfl, a, D, zs, z, rfl, model_same hM s1, g, hz, fun v H2 s2 rv => ?_⟩
      have s12 := s1.trans s2
      refine ⟨fun σ' H' => ∃ xs', σ' = [some (V.ref p), some (V.ref a.m), some (V.ref r), some (V.str z), some v, y5, y6, y7] ∧ Same H H' ∧ H' r = some (.lst xs') ∧ StsAt H' xs' (kindsD zs D (zs.take i) ++ clearAt zs D z) ∧ xs'.length ≤ 2 * i + 1, ?_, ?_⟩
      · cases hR : ringM zs (nxD zs D) z with
        | none =>
          rw [hR] at rv
          have ev : v = .non := rv
          subst ev
          refine ⟨.non, rfl, rfl, _, rfl, ?_⟩
          rw [decide_eq_true rfl]
          refine iteF ⟨xs, rfl, s12, s2 _ _ hr1', ?_, by omega⟩
          have e0 : clearAt zs D z = [] := by
            unfold clearAt
            rw [hR]
          rw [e0, List.append_nil]
          exact st1.kt (kt_same s2)
        | some rr =>
          have rd := ring_due wk.ld hz hR
          have rn := ring_names g.nz.nm wk.lz wk.ld hz rr hR
          have ne := ring_perm wk.ld hz hR
          rw [hR] at rv
          obtain ⟨av, rfl, nav, hav⟩ := rv
          refine ⟨.ref av, rfl, rfl, _, rfl, ?_⟩
          rw [decide_eq_false (fun c => by cases c)]
          refine iteT ⟨.ref r, rfl, .inl ⟨rfl, _, .inl (.inl (s2 _ _ hr1'))⟩, .str z, rfl, .ref a.m, rfl, .ref av, rfl, a, D, zs, av, rr, rfl, model_same hM s12, g, hav, ne.2.2.2, Nat.le_trans (nodup_le _ _ ne.2.1 ne.2.2.1) lz, rd, fun H3 s3 => ⟨by show 3 ≤ sizeLine; decide, fun t nt => ⟨r, xs, _, rfl, rfl, by rw [upd_ne (ne_of_none (s3 _ _ (s2 _ _ hr1')) nt)]; exact s3 _ _ (s2 _ _ hr1'), small1000 (by omega), ?_⟩⟩⟩
          obtain ⟨k1, k2⟩ := sts_more (p := ("clear", z, leastI (rr.map (amtAt zs (duesM (bkOf zs D)))))) nr (s12.trans s3) (s3 _ _ (s2 _ _ hr1')) (st1.kt (kt_same (s2.trans s3))) nt
          refine ⟨xs ++ [.ref t], rfl, k1, upd_same, ?_, by rw [List.length_append]; exact Nat.add_le_add_right lx 1⟩
          have e0 : clearAt zs D z = [(("clear" : Str), z, leastI (rr.map (amtAt zs (duesM (bkOf zs D)))))] := by
            unfold clearAt
            rw [hR]
          rw [e0]
          exact k2
      · rintro σ' H3 ⟨xs', rfl, s3, hr3', st3, lx3⟩
        have em : payAt zs D z = if 0 < mostP (bkOf zs D) (zs.idxOf z) z then [(("pay" : Str), z, mostP (bkOf zs D) (zs.idxOf z) z)] else [] := rfl
        refine ⟨.ref a.m, rfl, .str z, rfl, a, D, zs, z, rfl, model_same hM s3, g, hz, fun H4 s4 => ⟨_, _, rfl, rfl, _, rfl, ?_⟩⟩
        have s04 := s3.trans s4
        by_cases hp0 : 0 < mostP (bkOf zs D) (zs.idxOf z) z
        · rw [decide_eq_true hp0]
          rw [if_pos hp0] at em
          refine iteT ⟨.ref r, rfl, .inl ⟨rfl, _, .inl (.inl (s4 _ _ hr3'))⟩, .str z, rfl, .ref a.m, rfl, .str z, rfl, a, D, zs, z, rfl, model_same hM s04, g, hz, fun H5 s5 => ⟨by show 3 ≤ sizeLine; decide, fun t nt => ⟨r, xs', _, rfl, rfl, by rw [upd_ne (ne_of_none (s5 _ _ (s4 _ _ hr3')) nt)]; exact s5 _ _ (s4 _ _ hr3'), small1000 (by omega), ?_⟩⟩⟩
          obtain ⟨k1, k2⟩ := sts_more (p := ("pay", z, mostP (bkOf zs D) (zs.idxOf z) z)) nr (s04.trans s5) (s5 _ _ (s4 _ _ hr3')) (st3.kt (kt_same (s4.trans s5))) nt
          refine ⟨xs' ++ [.ref t], _, _, _, _, _, rfl, k1, upd_same, ?_, by rw [List.length_append]; show xs'.length + 1 ≤ _; omega⟩
          rw [tk, kindsD_snoc, em, ← List.append_assoc]
          exact k2
        · rw [decide_eq_false hp0]
          rw [if_neg hp0] at em
          refine iteF ⟨xs', _, _, _, _, _, rfl, s04, s4 _ _ hr3', ?_, by omega⟩
          rw [tk, kindsD_snoc, em, List.append_nil]
          exact st3.kt (kt_same s4)
    · obtain ⟨xs, y3, y4, y5, y6, y7, rfl, s1, hr1', st1, lx⟩ := hP
      rw [List.length_map] at lx
      rw [List.length_map, List.take_length] at st1
      -- none
      refine ⟨.ref r, rfl, Nat.zero_le _, fun e ne => ?_⟩
      have s2 := same_upd (o := .lst []) ne
      have he : upd H1 e (.lst []) e = some (.lst []) := upd_same
      generalize upd H1 e (.lst []) = H2 at s2 he
      have hr2' := s2 _ _ hr1'
      have st2 := st1.kt (kt_same s2)
      have s12 := s1.trans s2
      have kc : ∀ p ∈ kindsD zs D zs, 1 ≤ p.2.2 ∧ p.2.2 ≤ 10 ^ 58 ∧ p.2.1 ∈ zs ∧ (p.1 = "pay" ∨ p.1 = "clear") ∧ ∀ m, 1 ≤ m → m ≤ p.2.2 → ∃ r, CanD zs D p.1 p.2.1 m r := fun p hp => kind_can g gb (fun y hy => hy) hp
      obtain ⟨n, hn, ln⟩ := nice_steps (zs := zs) g.nz.nm (W := kindsD zs D zs) fun p hp => ⟨(kc p hp).1, (kc p hp).2.1, (kc p hp).2.2.1, (kc p hp).2.2.2.1⟩
      have k0 := kinds_none (zs := zs) (D := D) g
      refine ⟨.list ((kindsD zs D zs).map stepD3), .list [], .lst (.inl (.inl hr2')) (StsAt.dp st2), .lst (.inl (.inl he)) .nil, nice_shaped hn.list, shaped_nil, _, rfl, ?_⟩
      generalize kindsD zs D zs = W at st2 kc k0
      cases W with
      | nil => exact iteT (q0 (k0 rfl) H2 s12)
      | cons w0 wr =>
        have lx1 := st2.1
        rw [List.length_cons] at lx1
        have hp2 := hp.same s12
        have rp : r ≠ p := hp.ne nr
        refine iteF ⟨.ref p, rfl, .ref r, rfl, p, _, rfl, hp2, .inr ⟨r, xs, rfl, rp, hr2', by omega, by omega, fun v H3 hv hp3 bt3 => ?_⟩⟩
        obtain ⟨i, hi, ev⟩ := List.getElem_of_mem hv
        have hiW : i < (w0 :: wr).length := by
          rw [List.length_cons]
          omega
        obtain ⟨t, et, ht⟩ := st2.2 i v (w0 :: wr)[i] (by rw [← ev]; exact List.getElem?_eq_getElem hi) (List.getElem?_eq_getElem hiW)
        subst et
        obtain ⟨c1, c58, hzz, hk, can⟩ := kc _ (List.getElem_mem hiW)
        have ht3 := bt3.kt hp2 _ _ ht trivial
        generalize (w0 :: wr)[i] = pp at ht3 c1 c58 hzz hk can
        obtain ⟨wd, z, mx⟩ := pp
        refine ⟨t, _, rfl, .inl (.inl ht3), rfl, _, _, rfl, _, _, rfl, _, _, rfl, rfl, ?_⟩
        have b250 : (10 : Int) ^ 58 < 2 ^ 300 := by decide
        have c1' : 1 ≤ mx := c1
        have c58' : mx ≤ 10 ^ 58 := c58
        -- amount
        refine ⟨.int mx, rfl, .ref p, rfl, .int mx, rfl, p, mx, rfl, hp3, litM _ (by omega) (by omega), fun t4 H4 t40 t41 hp4 bt4 => ⟨1, t4, rfl, rfl, ?_⟩⟩
        refine ⟨.int mx, rfl, .ref p, rfl, p, 9, rfl, hp4, litM _ (by decide) (by decide), fun t5 H5 t50 t51 hp5 bt5 => ⟨1, t5, rfl, rfl, _, _, rfl, by show 4 ≤ sizeLine; decide, fun l6 nl6 => ?_⟩⟩
        have l6p : l6 ≠ p := hp5.ne nl6
        refine ⟨.ref p, rfl, p, 4, rfl, hp5.new nl6, litM _ (by decide) (by decide), fun u H6 u0 u1 hp6 bt6 => ?_⟩
        have hl6 := bt6 _ _ l6p (upd_same (H := H5) (a := l6))
        obtain ⟨v6, ev6, mv6⟩ := pick (xs := [V.int mx, V.int 1, V.int (1 + t4), V.int (if 1 + t5 < mx then 1 + t5 else mx)]) u0 u1
        refine ⟨l6, _, _, v6, rfl, rfl, .inl (.inl hl6), ev6, ?_⟩
        have hv6 : ∃ m : Int, v6 = .int m ∧ 1 ≤ m ∧ m ≤ mx := by
          simp only [List.mem_cons, List.not_mem_nil, or_false] at mv6
          rcases mv6 with rfl | rfl | rfl | rfl
          · exact ⟨_, rfl, c1', Int.le_refl _⟩
          · exact ⟨1, rfl, Int.le_refl _, c1'⟩
          · exact ⟨1 + t4, rfl, by omega, by omega⟩
          · exact ⟨_, rfl, by split <;> omega, by split <;> omega⟩
        obtain ⟨m, rfl, m1, mm⟩ := hv6
        obtain ⟨rr, cd⟩ := can m m1 mm
        refine ⟨.str wd, rfl, .str z, rfl, .int m, rfl, by show 3 ≤ sizeLine; decide, fun T nT => ?_⟩
        have bt36 : But p H3 H6 := bt4.trans (bt5.trans ((But.new nl6).trans bt6))
        have bt06 : But p H H6 := (same_but s12).trans (bt3.trans bt36)
        have nTH : H T = none := by
          cases eT : H T with
          | none => rfl
          | some o =>
            have := bt06 T o (hp6.ne nT) eT
            rw [nT] at this
            cases this
        exact q T wd z m rr _ nTH (bt06.trans (same_but (same_upd nT))) (hp6.new nT) upd_same cd
end
end Rc

namespace Rc
open PySem PySem.Spec PyProof.Rows L2 RZ
section
variable {P : Program} {w : World} {K : PySem.W.Frag} {mg : Str → Option Value} {base : Heap}
/-! ### _law_copied -/
abbrev sLCp : Stmt := topS 56
theorem scLCp : FnScope ["_law_model_here", "_law_found", "_law_owner"] ["_law_model_here"] (defScope sLCp) := ⟨rfl, rfl, rfl, by decide +kernel, rfl, by decide +kernel, by decide +kernel⟩
def spLCp (K : PySem.W.Frag) : Sp := fun vs H Q _ => ∃ (a : MdA) (D : Md) (zs : List Str), vs = [.ref a.m] ∧ ModelAt K H zs a D ∧ NamesOk zs ∧ ∀ c H', Same H H' → (∀ x, MdA.Has c x → H x = none) → ModelAt K H' zs c D → Q (.ref c.m) H'
theorem ok_lcp {f f1 : Addr} {fd fd1 : FuncData} (F : Fun K "_law_copied" "_law_copied" sLCp f fd) (B3 : Blt3 mg) (MD : Has P w K mg base 1 "_law_model" ["_law_names_here"] (spLMd K) f1 fd1) : FnOk P w K mg base CX0 2 f fd ["_law_model_here"] (spLCp K) := by
  refine F.ok scLCp (fun vs H Q E h => ?_) (fun cdv Ar outer s H vs Q E hr h => ?_)
  · obtain ⟨_, _, _, rfl, _⟩ := h
    rfl
  · obtain ⟨a, D, zs, rfl, hM, nz, q⟩ := h
    have hu := hu_of hr
    refine ⟨_, pss_cons (ps_set (i := 1) scLCp.nd rfl (.inl rfl) (pe_call MD.ok hr (by rfl) MD.g MD.kp MD.b .nil pass0 (pa_cons (pe_dget hu (pv 0) pe_str (fun _ _ => rfl)) pa_nil)))
      (pss_cons (ps_for PassesOwn.never rfl (pi_list (pe_dget hu (pv 0) pe_str (fun _ _ => rfl))) (pg_name (i := 2) scLCp.nd rfl (.inl rfl))
        (pss_cons (ps_dput hu (pe_dget hu (pv 1) pe_str (fun _ _ => rfl)) (pv 2) (pe_dget hu (pe_dget hu (pv 0) pe_str (fun _ _ => rfl)) (pv 2) (fun _ _ => rfl)) rfl)
        (pss_cons (ps_dput hu (pe_dget hu (pv 1) pe_str (fun _ _ => rfl)) (pv 2) (pe_dget hu (pe_dget hu (pv 0) pe_str (fun _ _ => rfl)) (pv 2) (fun _ _ => rfl)) rfl)
        (pss_one (ps_dput hu (pe_dget hu (pv 1) pe_str (fun _ _ => rfl)) (pv 2) (pe_callTy call_list_of (by rfl) B3.list (by decide +kernel) (pa_cons (pe_dget hu (pe_dget hu (pv 0) pe_str (fun _ _ => rfl)) (pv 2) (fun _ _ => rfl)) pa_nil)) rfl)))))
      (pss_one (ps_ret (pv 1)))), ?_⟩
    have lz := nz.n1
    refine ⟨.ref a.m, rfl, a.m, .ref a.lo, rfl, hM.g0, a.lo, zs, rfl, hM.ho, nz.nd, by omega, fun c0 H1 s1 nc0 hC0 => ?_⟩
    have hM1 := model_same hM s1
    refine ⟨.ref a.m, rfl, a.m, .ref a.lo, rfl, hM1.g0, a.lo, rfl, ⟨_, .inl (.inl hM1.ho)⟩, ?_⟩
    refine for_it (walk_list (K := K) (a := a.lo) (xs := zs.map V.str)) (fun i σ H' => ∃ c E y2, σ = [some (.ref a.m), some (.ref c.m), y2] ∧ Same H H' ∧ ModelAt K H' zs c E ∧ (∀ x, c.Has x → H x = none) ∧ ∀ j, j < i → E.given[j]? = D.given[j]? ∧ E.fallen[j]? = D.fallen[j]? ∧ E.notes[j]? = D.notes[j]?)
      ⟨c0, newMd zs.length, _, rfl, s1, hC0, nc0, fun j hj => absurd hj (Nat.not_lt_zero _)⟩ (fun i σ H' _ hP => ?_) (fun i x σ H2' H2 hi hP hY => ?_) (fun σ H3 hP => ?_)
    · obtain ⟨_, _, _, _, sP, _⟩ := hP
      exact .inl (.inl (sP _ _ hM.ho))
    · obtain ⟨rfl, hx⟩ := hY
      obtain ⟨c, E, y2, rfl, sP, hC, nc, eqs⟩ := hP
      rw [List.length_map] at hi
      have ej : zs[i]? = some zs[i] := List.getElem?_eq_getElem hi
      have ex : x = .str zs[i] := by
        rw [List.getElem?_map, ej] at hx
        exact (Option.some.inj hx).symm
      subst ex
      generalize zs[i] = z at ej
      have hMP := model_same hM sP
      obtain ⟨gv, f', l, r, xs, eg, ef, el, er, hr0, hd0⟩ := hMP.at_ ej
      have hjg : i < E.given.length := by
        rw [hC.lg]
        exact hi
      refine ⟨.ref a.m, rfl, a.m, .ref a.dg, rfl, hMP.g1, .str z, rfl, a.dg, .int gv, rfl, hMP.gg ej eg, .ref c.m, rfl, c.m, .ref c.dg, rfl, hC.g1, .str z, rfl, c.dg, _, rfl, DPut.k (k := Sum.inr z) hC.hg (by rw [dct_len (by rw [List.length_map, hC.lg])]; exact small1000 (by omega)), ?_⟩
      rw [dct_put hC.zn ej (by rw [List.length_map]; exact hjg), map_set V.int]
      have hC1 := hC.setG (j := i) gv
      have s2 : Same H (upd H2 c.dg (.dK (dct zs ((E.given.set i gv).map V.int)))) := fun x o e => by
        rw [upd_ne (ne_of_none e (nc _ (.inr (.inr (.inl rfl)))))]
        exact sP x o e
      generalize upd H2 c.dg (.dK (dct zs ((E.given.set i gv).map V.int))) = H3 at hC1 s2
      have hM3 := model_same hM s2
      -- fallen
      have hjf : i < E.fallen.length := by
        rw [hC.lf]
        exact hi
      refine ⟨.ref a.m, rfl, a.m, .ref a.df, rfl, hM3.g2, .str z, rfl, a.df, .int f', rfl, hM3.gf ej ef, .ref c.m, rfl, c.m, .ref c.df, rfl, hC1.g2, .str z, rfl, c.df, _, rfl, DPut.k (k := Sum.inr z) hC1.hf (by rw [dct_len (by rw [List.length_map, hC1.lf])]; exact small1000 (by omega)), ?_⟩
      rw [dct_put hC1.zn ej (by rw [List.length_map]; exact hjf), map_set V.int]
      have hC2 := hC1.setF nz.n0 (j := i) f'
      have s3 : Same H (upd H3 c.df (.dK (dct zs ((E.fallen.set i f').map V.int)))) := fun x o e => by
        rw [upd_ne (ne_of_none e (nc _ (.inr (.inr (.inr (.inl rfl))))))]
        exact s2 x o e
      have hC2' : ModelAt K (upd H3 c.df (.dK (dct zs ((E.fallen.set i f').map V.int)))) zs c { E with given := E.given.set i gv, fallen := E.fallen.set i f' } := hC2
      have e3 : upd H3 c.df (.dK (dct zs ((({ E with given := E.given.set i gv } : Md).fallen.set i f').map V.int))) = upd H3 c.df (.dK (dct zs ((E.fallen.set i f').map V.int))) := rfl
      rw [e3]
      generalize upd H3 c.df (.dK (dct zs ((E.fallen.set i f').map V.int))) = H4 at hC2' s3
      have hM4 := model_same hM s3
      obtain ⟨xs3, hr3, hd3⟩ := hM4.rows i r l er el
      refine ⟨.ref a.m, rfl, a.m, .ref a.dn, rfl, hM4.g3, .str z, rfl, a.dn, .ref r, rfl, hM4.gn ej er, r, xs3, rfl, .inl (.inl (.inl hr3)), fun l2 nl2 => ?_⟩
      have s4 := same_upd (o := .lst xs3) nl2
      have hC4 := model_same hC2' s4
      have hjn : i < c.rs.length := by
        rw [hC.lr]
        exact hi
      refine ⟨.ref c.m, rfl, c.m, .ref c.dn, rfl, hC4.g3, .str z, rfl, c.dn, _, rfl, DPut.k (k := Sum.inr z) hC4.hn (by rw [dct_len (by rw [List.length_map, hC4.lr])]; exact small1000 (by omega)), ?_⟩
      rw [dct_put hC4.zn ej (by rw [List.length_map]; exact hjn), map_set V.ref]
      have nrs : l2 ∉ c.rs := fun m => by
        obtain ⟨ys, e1⟩ := hC2'.row_some m
        rw [nl2] at e1
        cases e1
      have nlo : c.lo ≠ l2 := ne_of_none hC2'.ho nl2
      have hC5 := hC4.setN (j := i) (r := l2) upd_same (DtAll.same s4 _ hd3) nrs nlo nz.n0
      have l2H : H l2 = none := s3.free nl2
      refine ⟨{ c with rs := c.rs.set i l2 }, { E with given := E.given.set i gv, fallen := E.fallen.set i f', notes := E.notes.set i l }, _, rfl, fun x o e => ?_, hC5, fun x hx' => ?_, fun j hj => ?_⟩
      · rw [upd_ne (ne_of_none e (nc _ (.inr (.inr (.inr (.inr (.inl rfl)))))))]
        exact s4 _ _ (s3 _ _ e)
      · rcases hx' with h | h | h | h | h | h
        · exact nc x (.inl h)
        · exact nc x (.inr (.inl h))
        · exact nc x (.inr (.inr (.inl h)))
        · exact nc x (.inr (.inr (.inr (.inl h))))
        · exact nc x (.inr (.inr (.inr (.inr (.inl h)))))
        · rcases List.mem_or_eq_of_mem_set h with h | h
          · exact nc x (.inr (.inr (.inr (.inr (.inr h)))))
          · rw [h]
            exact l2H
      · show (E.given.set i gv)[j]? = _ ∧ (E.fallen.set i f')[j]? = _ ∧ (E.notes.set i l)[j]? = _
        by_cases hji : j = i
        · subst hji
          rw [List.getElem?_set_self hjg, List.getElem?_set_self hjf, List.getElem?_set_self (by rw [hC.ln]; exact hi), eg, ef, el]
          exact ⟨rfl, rfl, rfl⟩
        · rw [List.getElem?_set_ne (fun z => hji z.symm), List.getElem?_set_ne (fun z => hji z.symm), List.getElem?_set_ne (fun z => hji z.symm)]
          exact eqs j (by omega)
    · obtain ⟨c, E, y2, rfl, s3, hC3, nc, eqs⟩ := hP
      rw [List.length_map] at eqs
      have eE : E = D := by
        refine md_ext (List.ext_getElem? fun j => ?_) (List.ext_getElem? fun j => ?_) (List.ext_getElem? fun j => ?_)
        · by_cases hj : j < zs.length
          · exact (eqs j hj).1
          · rw [List.getElem?_eq_none (by rw [hC3.lg]; omega), List.getElem?_eq_none (by rw [hM.lg]; omega)]
        · by_cases hj : j < zs.length
          · exact (eqs j hj).2.1
          · rw [List.getElem?_eq_none (by rw [hC3.lf]; omega), List.getElem?_eq_none (by rw [hM.lf]; omega)]
        · by_cases hj : j < zs.length
          · exact (eqs j hj).2.2
          · rw [List.getElem?_eq_none (by rw [hC3.ln]; omega), List.getElem?_eq_none (by rw [hM.ln]; omega)]
      subst eE
      exact ⟨.ref c.m, rfl, q c H3 s3 nc hC3⟩
/-! ### _law_drawn -/
abbrev sLDr : Stmt := topS 57
abbrev nLDr : List Str := ["_law_pot_here", "_law_persons", "_law_many", "_law_size", "_law_names_here", "_law_deeds_here", "_law_model_here", "_law_deed"]
theorem scLDr : FnScope nLDr ["_law_pot_here", "_law_persons", "_law_many", "_law_size"] (defScope sLDr) := ⟨rfl, rfl, rfl, by decide +kernel, rfl, by decide +kernel, by decide +kernel⟩
def spLDr (K : PySem.W.Frag) : Sp := fun vs H Q _ => ∃ (p : Addr) (n m : Nat) (sz : Int), vs = [.ref p, .int (n : Nat), .int (m : Nat), .int sz] ∧ (sz = 0 ∨ sz = 1) ∧ Pot H p ∧ 1 ≤ n ∧ n ≤ 12 ∧ m ≤ 60 ∧
  ∀ (T : Addr) (zs : List Str) (a : MdA) (dl : Addr) (xs : List V) (ds : List Deed) H', Pot H' p → But p H H' → H' T = some (.tup [.ref a.m, .ref dl]) → ModelAt K H' zs a (mdAt zs ds) → H' dl = some (.lst xs) → DtAll K H' xs (deedsD ds) → NamesOk zs → zs.length = n → ds.length = m → (∀ d ∈ ds, d.Ok zs) → (∀ c, a.Has c → H c = none) → dl ≠ p → Q (.ref T) H'
theorem ok_ldr {f f1 f2 f3 f4 : Addr} {fd fd1 fd2 fd3 fd4 : FuncData} (F : Fun K "_law_drawn" "_law_drawn" sLDr f fd) (LN : Has P w K mg base 3 "_law_names" ["_law_pot_here", "_law_many"] spLNms f1 fd1)
    (DS : Has P w K mg base 3 "_law_deeds" ["_law_pot_here", "_law_names_here", "_law_many", "_law_size"] (spLDs K) f2 fd2) (MD : Has P w K mg base 1 "_law_model" ["_law_names_here"] (spLMd K) f3 fd3) (DN : Has P w K mg base 1 "_law_done" ["_law_model_here", "_law_deed"] (spLDn K) f4 fd4) :
    FnOk P w K mg base CX0 4 f fd ["_law_pot_here", "_law_persons", "_law_many", "_law_size"] (spLDr K) := by
  refine F.ok scLDr (fun vs H Q E h => ?_) (fun cdv Ar outer s H vs Q E hr h => ?_)
  · obtain ⟨_, _, _, _, rfl, _⟩ := h
    rfl
  · obtain ⟨p, n, m, sz, rfl, hsz, hp, n1, n12, m60, q⟩ := h
    have hr1 := hr.mono (show 1 ≤ 3 by decide)
    refine ⟨_, pss_cons (ps_set (i := 4) scLDr.nd rfl (.inl rfl) (pe_call LN.ok hr (by rfl) LN.g LN.kp LN.b .nil pass0 (pa_cons (pv 0) (pa_cons (pv 1) pa_nil))))
      (pss_cons (ps_set (i := 5) scLDr.nd rfl (.inl rfl) (pe_call DS.ok hr (by rfl) DS.g DS.kp DS.b .nil pass0 (pa_cons (pv 0) (pa_cons (pv 4) (pa_cons (pv 2) (pa_cons (pv 3) pa_nil))))))
      (pss_cons (ps_set (i := 6) scLDr.nd rfl (.inl rfl) (pe_call MD.ok hr1 (by rfl) MD.g MD.kp MD.b .nil pass0 (pa_cons (pv 4) pa_nil)))
      (pss_cons (ps_for PassesOwn.never rfl (pi_list (pv 5)) (pg_name (i := 7) scLDr.nd rfl (.inl rfl)) (pss_one (ps_expr (pe_call DN.ok hr1 (by rfl) DN.g DN.kp DN.b .nil pass0 (pa_cons (pv 6) (pa_cons (pv 7) pa_nil))))))
      (pss_one (ps_ret (pe_tup (pa_cons (pv 6) (pa_cons (pv 5) pa_nil)))))))), ?_⟩
    refine ⟨.ref p, rfl, .int (n : Nat), rfl, p, n, rfl, hp, by omega, fun nl zs H1 nnl nlp hn1 lzs nd nm hp1 bt1 => ?_⟩
    have nz : NamesOk zs := ⟨by omega, by omega, nd, nm⟩
    refine ⟨.ref p, rfl, .ref nl, rfl, .int (m : Nat), rfl, .int sz, rfl, p, nl, zs, m, sz, rfl, hsz, hp1, nlp, hn1, by omega, by omega, m60, fun dl xs ds H2 ndl dlp hdl dd lds ods hp2 bt2 => ?_⟩
    have bt02 : But p H H2 := bt1.trans bt2
    have hn2 := bt2 _ _ nlp hn1
    have lx : xs.length = ds.length := by
      rw [dd.len]
      unfold deedsD
      rw [List.length_map]
    refine ⟨.ref nl, rfl, nl, zs, rfl, hn2, nz.nd, by omega, fun a H3 s3 na hM3 => ?_⟩
    have nap : ¬ a.Has p := fun h => by
      obtain ⟨px, py, pe, _⟩ := hp2
      have := na p h
      rw [pe] at this
      cases this
    have naH : ∀ c, a.Has c → H c = none := fun c hc => by
      cases e : H c with
      | none => rfl
      | some o =>
        have := bt02 c o (fun z => nap (z ▸ hc)) e
        rw [na c hc] at this
        cases this
    have naf : ∀ {c : Addr} {o : HO}, H2 c = some o → ¬ a.Foot c := fun {c o} e h => by
      have := na c h.has
      rw [e] at this
      cases this
    have hd3 := s3 _ _ hdl
    refine ⟨.ref dl, rfl, dl, rfl, ⟨_, .inl (.inl hd3)⟩, ?_⟩
    refine for_it (walk_list (K := K) (a := dl) (xs := xs)) (fun i σ H' => ∃ y7, σ = [some (.ref p), some (.int (n : Nat)), some (.int (m : Nat)), some (.int sz), some (.ref nl), some (.ref dl), some (.ref a.m), y7] ∧ ButF a H3 H' ∧ ModelAt K H' zs a (mdAt zs (ds.take i)))
      ⟨_, rfl, fun _ _ _ e => e, hM3⟩ (fun i σ H' _ hP => ?_) (fun i y σ H4' H4 hi hP hY => ?_) (fun σ H4 hP => ?_)
    · obtain ⟨_, _, bf, _⟩ := hP
      exact .inl (.inl (bf _ _ (naf hdl) hd3))
    · obtain ⟨rfl, hx⟩ := hY
      obtain ⟨y7, rfl, bf4, hM4⟩ := hP
      have hid : i < ds.length := by omega
      have okd := ods _ (List.getElem_mem hid)
      obtain ⟨v', gx, dx0⟩ := dd.get (n := i) (d := deedD ds[i]) (map_get (List.getElem?_eq_getElem hid))
      rw [hx] at gx
      cases gx
      have dx4 : Dt K H4 y (deedD ds[i]) := Dt.keepT ((kt_same s3).trans (bf4.kt hM3)) _ (tup_deed _) dx0
      have gdi := md_at_good (zs := zs) (ds := ds.take i) (fun d hd => ods d (List.mem_of_mem_take hd)) (by rw [List.length_take]; omega)
      refine ⟨.ref a.m, rfl, y, rfl, a, _, zs, y, ds[i], rfl, hM4, dx4, okd, by omega, gdi.rows, fun H5 bf5 hM5 => ?_⟩
      have eDn : mdAt zs (ds.take (i + 1)) = doneD zs (mdAt zs (ds.take i)) ds[i] := by
        unfold mdAt
        rw [take_succ hid, List.foldl_append]
        rfl
      rw [eDn]
      exact ⟨_, rfl, fun b o n e => bf5 b o n (bf4 b o n e), hM5⟩
    · obtain ⟨y7, rfl, bf4, hM4⟩ := hP
      rw [lx, List.take_length] at hM4
      have hd4 := bf4 _ _ (naf hdl) hd3
      have hp4 : Pot H4 p := by
        obtain ⟨px, py, pe, pr⟩ := hp2
        exact ⟨px, py, bf4 _ _ (naf pe) (s3 _ _ pe), pr⟩
      have bt04 : But p H H4 := fun c o n e => by
        have e6 := bt02 c o n e
        exact bf4 _ _ (naf e6) (s3 _ _ e6)
      have kt24 : KT H2 H4 := (kt_same s3).trans (bf4.kt hM3)
      have dd4 : DtAll K H4 xs (deedsD ds) := DtAll.keepT kt24 _ (tup_deeds ds) dd
      refine ⟨.ref a.m, rfl, .ref dl, rfl, by show 2 ≤ sizeLine; decide, fun T nT => ?_⟩
      have sT := same_upd (o := .tup [V.ref a.m, V.ref dl]) nT
      exact q T zs a dl xs ds _ (hp4.same sT) (bt04.trans (same_but sT)) upd_same (model_same hM4 sT) (sT _ _ hd4) (DtAll.same sT _ dd4) nz lzs lds ods naH dlp
end
end Rc

namespace Rc
open PySem PySem.Spec PyProof.Rows L2 RZ
section
variable {X : Cx}
/-- name = {k: v for ..} on one line, the name a local -/
theorem ps_setDc {i : Nat} {y : Str} {py : Pos} {kx vx tg iter : Expr} {ifs : List Expr} {scope : Scope} {own : List (Str × Nat)} {pos spos : Pos} {wi : TI} {g : TG} {tt : TT} {tk tv : TE} (hc : X.calm = true) (hN : X.N.Nodup) (hy : X.N[i]? = some y) (hyl : X.env.scope.names.lookup y = some .local)
    (hsw : swapsWith (.DictComp kx vx [⟨tg, iter, ifs, 0⟩] scope pos) (some (.Name y py)) spos.line X.env = pure true) (hi : PI X tg iter wi) (ok : BlkOk X.N X.env.scope scope own)
    (hg : ∀ (s : Shared) (H : Hp) (C : Addr) (cl : List (Str × Addr)) (fp : List Addr), PG (X.blk s H scope (compEnvC scope cl C X.env) fp) tg g) (ht : ∀ (s : Shared) (H : Hp) (C : Addr) (cl : List (Str × Addr)) (fp : List Addr), PTs (X.blk s H scope (compEnvC scope cl C X.env) fp) ifs tt)
    (hk : ∀ (s : Shared) (H : Hp) (C : Addr) (cl : List (Str × Addr)) (fp : List Addr), PE (X.blk s H scope (compEnvC scope cl C X.env) fp) kx tk)
    (he : ∀ (s : Shared) (H : Hp) (C : Addr) (cl : List (Str × Addr)) (fp : List Addr), PE (X.blk s H scope (compEnvC scope cl C X.env) fp) vx tv) (hs : ∀ x, foldedSetIterable iter X.env x = pure x := by intro _; rfl) :
    PS X (.Assign [.Name y py] (.DictComp kx vx [⟨tg, iter, ifs, 0⟩] scope pos) spos) (tAsg (tDc wi g tt tk tv (own.map (·.2))) (gName i)) := by
  refine ⟨fun pins s σ H D I h => ?_⟩
  rw [exec_Assign_Name_used _ _ _ _ hsw]
  refine wpAny_bind (wpAny_standAt (wpAny_bind ?_))
  show wpAny _ X.A (do let _ ← comprehension (.DictComp kx vx [⟨tg, iter, ifs, 0⟩] scope pos) scope X.env (firstIterPos [⟨tg, iter, ifs, 0⟩] pos) newDict false (eval iter X.env) (some (assign (.Name y py) X.env))) _ _ s
  have h : tDc wi g tt tk tv (own.map (·.2)) σ H (fun x H1 => gName i x σ H1 D.nx) := h
  refine wpAny_bind (thn (dc_core (Qf := fun _ s' => SP X pins D .next s') hc hN I hi ok hg ht hk he hs h fun L C s' m H' I' q hn f => ?_) fun _ s' hq => wpAny_pure (wpAny_pure hq))
  show wpAny _ _ (assign (.Name y py) X.env (.ref L)) _ _ _
  refine wpAny_assign_Name (store_ok2 (v := V.ref L) I' hN hy (.inl hyl) rfl (fun s2 I2 ⟨a, sb, ha⟩ => ?_) (.inr hyl))
  obtain ⟨f0, f1, f2, f3, f4, f5⟩ := f
  have haC : C ≠ a := by
    rcases ha with z | z
    · rw [z]; exact f1
    · exact fun e => f4 y a z e.symm
  refine ⟨m, hn.sameBut sb haC, fun h3 sb3 => ?_⟩
  exact ⟨_, H', I2.turned (t' := s2.toks) (fun b o hb e => (sb3.2 b hb).trans e) f0 f1 f3 f4 f5, q⟩
theorem sw_trueD {kx vx : Expr} {gs : List Comprehension} {scope : Scope} {pos py : Pos} {y : Str} {l : Nat} {env : Env} (hk : env.scope.kind = .function) (hy : env.scope.names.lookup y = some .local) (hl : (py.line == pos.line) = true)
    (ha : (scope.names.any fun (n, k) => n == y && (k == .local || k == .cell)) = false) : swapsWith (.DictComp kx vx gs scope pos) (some (.Name y py)) l env = pure true := by
  have ky : env.kindOf y = some .local := hy
  have hb : env.blockKind = .function := by unfold Env.blockKind; rw [hk]; rfl
  unfold swapsWith
  simp only [hb, ky, ha, Expr.pos, hl]
  rfl
end
end Rc

namespace Rc
open PySem PySem.Spec PyProof.Rows L2 RZ
/-- a vector of a book -/
structure VecOk (M : Bk) (G : List Int) : Prop where
  len : G.length = M.names.length
  rg : ∀ (j : Nat) (l : List (Str × Int)) (x : Int), M.stacks[j]? = some l → G[j]? = some x → 0 ≤ x ∧ x ≤ wholeN l
def endsL (M : Bk) (G : List Int) (i : Nat) (L : List (Str × Int)) : List Int := (List.range M.names.length).map fun j => M.gifts.getD j 0 - G.getD j 0 + (((M.stacks.zip G).take i).map fun p => sumTo (M.names.getD j Str.empty) (goneN p.1 p.2)).sum + sumTo (M.names.getD j Str.empty) L
def endsM (M : Bk) (G : List Int) : List Int := endsL M G M.names.length []
theorem endsL_len (M : Bk) (G : List Int) (i : Nat) (L : List (Str × Int)) : (endsL M G i L).length = M.names.length := by
  unfold endsL
  rw [List.length_map, List.length_range]
theorem endsL_at {M : Bk} {j : Nat} {z : Str} (G : List Int) (i : Nat) (L : List (Str × Int)) (ej : M.names[j]? = some z) : (endsL M G i L)[j]? = some (M.gifts.getD j 0 - G.getD j 0 + (((M.stacks.zip G).take i).map fun p => sumTo z (goneN p.1 p.2)).sum + sumTo z L) := by
  have hj : j < M.names.length := (List.getElem?_eq_some_iff.mp ej).1
  unfold endsL
  rw [List.getElem?_map, List.getElem?_range hj]
  show some (M.gifts.getD j 0 - G.getD j 0 + (((M.stacks.zip G).take i).map fun p => sumTo (M.names.getD j Str.empty) (goneN p.1 p.2)).sum + sumTo (M.names.getD j Str.empty) L) = _
  rw [getD_of ej]
theorem sumTo_single (z t : Str) (a : Int) : sumTo z [(t, a)] = if t = z then a else 0 := by
  unfold sumTo
  by_cases h : t = z
  · rw [if_pos h]
    simp [h]
  · rw [if_neg h]
    simp [h]
theorem endsL_add {M : Bk} (nd : M.names.Nodup) {G : List Int} {i : Nat} {L : List (Str × Int)} {t : Str} {a v : Int} (ht : t ∈ M.names) (hv : (endsL M G i L)[M.names.idxOf t]? = some v) : (endsL M G i L).set (M.names.idxOf t) (v + a) = endsL M G i (L ++ [(t, a)]) := by
  refine List.ext_getElem? fun k => ?_
  have hjl : M.names.idxOf t < (endsL M G i L).length := by
    rw [endsL_len]
    exact List.idxOf_lt_length_of_mem ht
  by_cases hk : k < M.names.length
  · have ek := List.getElem?_eq_getElem hk
    rw [endsL_at G i (L ++ [(t, a)]) ek, sumTo_app, sumTo_single]
    by_cases h : k = M.names.idxOf t
    · subst h
      have ez : M.names[M.names.idxOf t] = t := List.getElem_idxOf hk
      rw [List.getElem?_set_self hjl, ez, if_pos rfl]
      rw [endsL_at G i L (idx_get ht)] at hv
      rw [← Option.some.inj hv]
      congr 1
      omega
    · have hne : ¬ t = M.names[k] := fun c => h (by rw [c]; exact (nd.idxOf_getElem k hk).symm)
      rw [List.getElem?_set_ne (fun c => h c.symm), endsL_at G i L ek, if_neg hne, Int.add_zero]
  · rw [List.getElem?_eq_none (by rw [List.length_set, endsL_len]; omega), List.getElem?_eq_none (by rw [endsL_len]; omega)]
theorem endsL_next {M : Bk} {G : List Int} {i : Nat} {l : List (Str × Int)} {x : Int} (el : M.stacks[i]? = some l) (ex : G[i]? = some x) : endsL M G i (goneN l x) = endsL M G (i + 1) [] := by
  unfold endsL
  refine List.map_congr_left fun j _ => ?_
  have tk : (M.stacks.zip G).take (i + 1) = (M.stacks.zip G).take i ++ [(l, x)] := by
    rw [List.take_add_one, List.getElem?_zip_eq_some (z := (l, x)) |>.mpr ⟨el, ex⟩]
    rfl
  rw [tk, List.map_append, List.sum_append, sumTo_nil]
  simp
  omega
theorem endsM_at {M : Bk} {j : Nat} {z : Str} {G : List Int} (ok : M.Ok) (lG : G.length = M.names.length) (ej : M.names[j]? = some z) : (endsM M G)[j]? = some (cashM { M with drops := G } j z) := by
  unfold endsM
  rw [endsL_at G _ [] ej, sumTo_nil, List.take_of_length_le (by rw [List.length_zip, ok.ls, lG, Nat.min_self]; exact Nat.le_refl _)]
  show some (_ - _ + _ + 0) = some (M.gifts.getD j 0 + ((M.stacks.zip G).map fun p => sumTo z (goneN p.1 p.2)).sum - G.getD j 0)
  congr 1
  omega
section
variable {P : Program} {w : World} {K : PySem.W.Frag} {mg : Str → Option Value} {base : Heap}
/-! ### is_vector, check_vector -/
abbrev sIsV : Stmt := topS 30
theorem scIsV : FnScope ["book", "thing", "who", "much"] ["book", "thing"] (defScope sIsV) := ⟨rfl, rfl, rfl, by decide +kernel, rfl, by decide +kernel, by decide +kernel⟩
def spIsV (K : PySem.W.Frag) (C : Addr) (r : V) : Sp := fun vs H Q _ => ∃ (b d : Addr) (M : Bk) (G : List Int), vs = [.ref b, .ref d] ∧ BookAt K C H b M ∧ M.Ok ∧ H d = some (.dK (dct M.names (G.map V.int))) ∧ VecOk M G ∧ ∀ H', Same H H' → Q r H'
theorem ok_isV {f f1 f2 f3 f4 C : Addr} {fd fd1 fd2 fd3 fd4 : FuncData} (F : Fun K "is_vector" "is_vector" sIsV f fd) (T : ClsF K C) (B : Blt mg) (B3 : Blt3 mg) (PS' : HasM P w K mg base C 1 "persons" ["self"] (spPersons K C) f1 fd1)
    (HS : HasM P w K mg base C 2 "has" ["self", "who"] (spHas K C) f2 fd2) (WH : Has P w K mg base 1 "is_whole" ["thing"] (spBool K wholeD) f3 fd3) (WO : HasM P w K mg base C 5 "whole_of" ["self", "who"] (spCalc K C fun M j _ => wholeN (M.stacks.getD j [])) f4 fd4) :
    FnOk P w K mg base CX0 6 f fd ["book", "thing"] (spIsV K C (.bl true)) := by
  refine F.ok scIsV (fun vs H Q E h => ?_) (fun cdv A outer s H vs Q E hr h => ?_)
  · obtain ⟨_, _, _, _, rfl, _⟩ := h
    rfl
  · obtain ⟨b, d, M, G, rfl, hb, ok, hd, vo, q⟩ := h
    have hr1 := hr.mono (show 1 ≤ 5 by decide)
    have hr2 := hr.mono (show 2 ≤ 5 by decide)
    refine ⟨_, pss_cons (ps_if (PW.pt (pw_or (pt_not (pt_val (pe_callB call_isi (by rfl) B.isi (by decide +kernel) (pa_cons (pv 1) (pa_cons (pe_bltn (v := .ty "dict") (by rfl) B3.dict (by decide +kernel) rfl) pa_nil)))))
        (pw_or1 (pt_cmpR op_ne (pe_callB call_lenD (by rfl) B.len PySem.boot_len (pa_cons (pv 1) pa_nil)) (pe_callB call_len_seq (by rfl) B.len PySem.boot_len (pa_cons (pe_meth0 (pv 0) T.cl PS'.m PS'.ok hr1 PS'.b .nil pass0) pa_nil)) (nomark _))))) (pss_one (ps_ret pe_bl)) pss_nil)
      (pss_cons (ps_lock (ps_for PassesOwn.never rfl (pi_items (pv 1)) (pg_tup rfl (pgs_cons (pg_name (i := 2) scIsV.nd rfl (.inl rfl)) (pgs_cons (pg_name (i := 3) scIsV.nd rfl (.inl rfl)) pgs_nil)))
        (pss_cons (ps_if (PW.pt (pw_or (pt_not (pt_val (pe_meth (pv 0) T.cl HS.m HS.ok hr2 HS.b .nil pass0 (pa_cons (pv 2) pa_nil)))) (pw_or1 (pt_not (pt_val (pe_call WH.ok hr1 (by rfl) WH.g WH.kp WH.b .nil pass0 (pa_cons (pv 3) pa_nil))))))) (pss_one (ps_ret pe_bl)) pss_nil)
        (pss_one (ps_if (PW.pt (pw_or (pt_cmpR op_lt (pv 3) pe_int (nomark _)) (pw_or1 (pt_cmpR op_gt (pv 3) (pe_meth (pv 0) T.cl WO.m WO.ok hr WO.b .nil pass0 (pa_cons (pv 2) pa_nil)) (nomark _))))) (pss_one (ps_ret pe_bl)) pss_nil)))))
      (pss_one (ps_ret pe_bl))), ?_⟩
    have lG := vo.len
    have lk : (dct M.names (G.map V.int)).length = M.names.length := dct_len (by rw [List.length_map, lG])
    obtain ⟨dx, tn, on, wg, ws, wd, e, _⟩ := hb.ex
    refine ⟨.ref d, rfl, _, .ty "dict", _, _, true, rfl, .ty "dict", .base (.dK hd), kit_ty (by decide +kernel), _, rfl, iteF ?_⟩
    refine ⟨.ref d, rfl, d, _, rfl, hd, .ref b, rfl, b, dx, _, rfl, e, bf_no (NoF.mk' (by decide +kernel)), b, M, rfl, hb, fun l nl => ⟨l, _, rfl, .inl (.inl (.inl upd_same)), rfl, _, rfl, ?_⟩⟩
    have s1 := same_upd (o := .lst (M.names.map V.str)) nl
    generalize upd H l (.lst (M.names.map V.str)) = H1 at s1
    rw [show (decide (V.int ((dct M.names (G.map V.int)).length : Int) = V.int ((M.names.map V.str).length : Int))) = true from decide_eq_true (by rw [lk, List.length_map])]
    have hd1 := s1 _ _ hd
    have hb1 := book_same hb s1
    refine iteF ⟨d, _, hd1, trivial, fun od => ?_⟩
    have hbL := hb1.keep (kp_lock (od := od) hd1)
    obtain ⟨dx, tn, on, wg, ws, wd, e, _⟩ := hbL.ex
    have hdL : upd H1 d (.frz od (.dK (dct M.names (G.map V.int)))) d = some (.frz od (.dK (dct M.names (G.map V.int)))) := upd_same
    have un : ∀ H', Same (upd H1 d (.frz od (.dK (dct M.names (G.map V.int))))) H' → Same H1 (upd H' d (.dK (dct M.names (G.map V.int)))) := fun H' s' => same_unlock hd1 s'
    generalize upd H1 d (.frz od (.dK (dct M.names (G.map V.int)))) = HL at hbL e hdL un
    refine ⟨.ref d, rfl, d, od, _, rfl, hdL, ?_⟩
    refine for_it (walk_items (kvs := dct M.names (G.map V.int))) (fun i σ H' => ∃ y2 y3, σ = [some (.ref b), some (.ref d), y2, y3] ∧ Same HL H') ⟨_, _, rfl, Same.refl _⟩ (fun i σ H' _ hP => ?_) (fun i x σ H2' H2 hi hP hY => ?_) (fun σ H' hP => ?_)
    · obtain ⟨_, _, _, s1⟩ := hP
      exact s1 _ _ hdL
    · obtain ⟨Tt, x1, x2, rfl, nT, rfl, e1, e2⟩ := hY
      obtain ⟨y2, y3, rfl, s2⟩ := hP
      rw [lk] at hi
      have hiG : i < G.length := by omega
      have ek : (dct M.names (G.map V.int))[i]? = some (Sum.inr M.names[i], V.int G[i]) := by
        unfold dct
        rw [List.getElem?_map, List.getElem?_zip_eq_some (z := (M.names[i], V.int G[i])) |>.mpr ⟨List.getElem?_eq_getElem hi, by rw [List.getElem?_map, List.getElem?_eq_getElem hiG]; rfl⟩]
        rfl
      have e1' : (dct M.names (G.map V.int))[i]?.map (fun kv => kV kv.1) = some x1 := e1
      have e2' : (dct M.names (G.map V.int))[i]?.map Prod.snd = some x2 := e2
      rw [ek] at e1' e2'
      have ex1 : x1 = .str M.names[i] := (Option.some.inj e1').symm
      have ex2 : x2 = .int G[i] := (Option.some.inj e2').symm
      subst ex1 ex2
      have his : i < M.stacks.length := by rw [ok.ls]; exact hi
      obtain ⟨r0, r1⟩ := vo.rg i _ _ (List.getElem?_eq_getElem his) (List.getElem?_eq_getElem hiG)
      have hm : M.names[i] ∈ M.names := List.getElem_mem hi
      have ei := List.getElem?_eq_getElem hi
      generalize M.names[i] = z at hm ei nT
      generalize hx : G[i] = m at nT r0 r1
      have s3 := s2.trans (same_upd (o := .tup [V.str z, V.int m]) nT)
      have hT : upd H2' Tt (.tup [V.str z, V.int m]) Tt = some (.tup [V.str z, V.int m]) := upd_same
      generalize upd H2' Tt (.tup [V.str z, V.int m]) = H3 at s3 hT
      refine ⟨Tt, [.str z, .int m], rfl, .inl (.inl hT), rfl, _, _, rfl, _, _, rfl, rfl, ?_⟩
      have lz := (nameT_len (ok.nm z hm)).2
      refine ⟨.ref b, rfl, b, dx, _, rfl, s3 _ _ e, bf_no (NoF.mk' (by decide +kernel)), .str z, rfl, b, M, .str z, .str z, rfl, book_same hbL s3, ok.names, .str z, (fun y ey => by cases ey; omega), fun H4 s4 => ⟨_, rfl, ?_⟩⟩
      have eh : hasD M (.str z) = true := decide_eq_true hm
      rw [eh]
      refine iteF ⟨.int m, rfl, .int m, .int m, rfl, .int m, (fun y ey => by cases ey), fun H5 s5 => ⟨_, rfl, iteF ⟨.int m, rfl, _, _, rfl, rfl, _, rfl, ?_⟩⟩⟩
      rw [show decide (m < 0) = false from decide_eq_false (by omega)]
      have s35 := s3.trans (s4.trans s5)
      refine iteF ⟨.int m, rfl, .ref b, rfl, b, dx, _, rfl, s35 _ _ e, bf_no (NoF.mk' (by decide +kernel)), .str z, rfl, b, M, z, i, rfl, book_same hbL s35, ok, ei, fun H6 s6 => ⟨_, _, rfl, rfl, _, rfl, ?_⟩⟩
      show if decide (wholeN (M.stacks.getD i []) < m) = true then _ else _
      rw [getD_of (List.getElem?_eq_getElem his), show decide (wholeN M.stacks[i] < m) = false from decide_eq_false (by omega)]
      exact iteF ⟨_, _, rfl, s35.trans s6⟩
    · obtain ⟨_, _, rfl, s2⟩ := hP
      exact ⟨s2 _ _ hdL, q _ (s1.trans (un _ s2))⟩
abbrev sCkV : Stmt := topS 31
theorem scCkV : FnScope ["book", "thing"] ["book", "thing"] (defScope sCkV) := ⟨rfl, rfl, rfl, by decide +kernel, rfl, by decide +kernel, by decide +kernel⟩
theorem ok_ckV {f f1 C : Addr} {fd fd1 : FuncData} (F : Fun K "check_vector" "check_vector" sCkV f fd) (IV : Has P w K mg base 6 "is_vector" ["book", "thing"] (spIsV K C (.bl true)) f1 fd1) : FnOk P w K mg base CX0 7 f fd ["book", "thing"] (spIsV K C .non) := by
  refine F.ok scCkV (fun vs H Q E h => ?_) (fun cdv A outer s H vs Q E hr h => ?_)
  · obtain ⟨_, _, _, _, rfl, _⟩ := h
    rfl
  · obtain ⟨b, d, M, G, rfl, hb, ok, hd, vo, q⟩ := h
    refine ⟨_, pss_one (ps_if (pt_not (pt_val (pe_call IV.ok hr (by rfl) IV.g IV.kp IV.b .nil pass0 (pa_cons (pv 0) (pa_cons (pv 1) pa_nil))))) pss_never pss_nil), ?_⟩
    exact ⟨.ref b, rfl, .ref d, rfl, b, d, M, G, rfl, hb, ok, hd, vo, fun H1 s1 => ⟨_, rfl, iteF (q H1 s1)⟩⟩
/-! ### ends_by -/
abbrev sEnB : Stmt := topS 33
abbrev nEnB : List Str := ["book", "vector", "who", "ends", "gone", "left", "to", "part"]
theorem scEnB : FnScope nEnB ["book", "vector"] (defScope sEnB) := ⟨rfl, rfl, rfl, by decide +kernel, rfl, by decide +kernel, by decide +kernel⟩
def spEnB (K : PySem.W.Frag) (C : Addr) : Sp := fun vs H Q _ => ∃ (b d : Addr) (M : Bk) (G : List Int), vs = [.ref b, .ref d] ∧ BookAt K C H b M ∧ M.Ok ∧ Closed M ∧ H d = some (.dK (dct M.names (G.map V.int))) ∧ VecOk M G ∧
  ∀ e H', Same H H' → H e = none → H' e = some (.dK (dct M.names ((endsM M G).map V.int))) → Q (.ref e) H'
theorem gone_to : ∀ {l : List (Str × Int)} {f : Int} {n : Str × Int}, n ∈ goneN l f → ∃ a, (n.1, a) ∈ l
  | [], _, _, h => by cases h
  | (t, a) :: r, f, n, h => by
    rw [goneN_cons] at h
    rcases List.mem_append.mp h with h | h
    · split at h
      · rw [List.mem_singleton.mp h]
        exact ⟨a, List.mem_cons_self⟩
      · cases h
    · obtain ⟨x, hx⟩ := gone_to h
      exact ⟨x, List.mem_cons_of_mem _ hx⟩
theorem ok_enB {f f1 f2 f3 f4 f5 C : Addr} {fd fd1 fd2 fd3 fd4 fd5 : FuncData} (F : Fun K "ends_by" "ends_by" sEnB f fd) (T : ClsF K C) (CV : Has P w K mg base 7 "check_vector" ["book", "thing"] (spIsV K C .non) f1 fd1) (PS' : HasM P w K mg base C 1 "persons" ["self"] (spPersons K C) f2 fd2)
    (GV : HasM P w K mg base C 4 "given" ["self", "who"] (spNum K C Bk.gifts) f3 fd3) (SP : Has P w K mg base 1 "split_notes" ["notes", "fallen"] (spSplit K) f4 fd4) (NT : HasM P w K mg base C 4 "notes" ["self", "who"] (spRow K C fun l _ => l) f5 fd5) :
    FnOk P w K mg base CX0 8 f fd ["book", "vector"] (spEnB K C) := by
  refine F.ok scEnB (fun vs H Q E h => ?_) (fun cdv A outer s H vs Q E hr h => ?_)
  · obtain ⟨_, _, _, _, rfl, _⟩ := h
    rfl
  · obtain ⟨b, d, M, G, rfl, hb, ok, cl, hd, vo, q⟩ := h
    have hu := hu_of hr
    have hr1 := hr.mono (show 1 ≤ 7 by decide)
    have hr4 := hr.mono (show 4 ≤ 7 by decide)
    refine ⟨_, pss_cons (ps_expr (pe_call CV.ok hr (by rfl) CV.g CV.kp CV.b .nil pass0 (pa_cons (pv 0) (pa_cons (pv 1) pa_nil))))
      (pss_cons (ps_setDc (i := 3) (own := [("who", 2)]) (g := gName 2) (tt := tYes) rfl scEnB.nd rfl rfl (sw_trueD rfl rfl rfl (by decide +kernel)) (pi_list (pe_meth0 (pv 0) T.cl PS'.m PS'.ok hr1 PS'.b .nil pass0)) (blkOk_by (N := nEnB) (sc := defScope sEnB) (own := [("who", 2)]) (by decide +kernel))
        (fun _ _ _ _ _ => pg_name (i := 2) scEnB.nd rfl (.inl rfl) (hf := .inr rfl)) (fun _ _ _ _ _ => pts_nil) (fun _ _ _ _ _ => pv 2)
        (fun _ _ _ _ _ => pe_op op_sub (pe_meth (pv 0) T.cl GV.m GV.ok hr4 GV.b .nil pass0 (pa_cons (pv 2) pa_nil)) (pe_dget hu (pv 1) (pv 2) (fun _ _ => rfl))))
      (pss_cons (ps_for PassesOwn.never rfl (pi_list (pe_meth0 (pv 0) T.cl PS'.m PS'.ok hr1 PS'.b .nil pass0)) (pg_name (i := 2) scEnB.nd rfl (.inl rfl))
        (pss_cons (ps_asg (pe_call SP.ok hr1 (by rfl) SP.g SP.kp SP.b .nil pass0 (pa_cons (pe_meth (pv 0) T.cl NT.m NT.ok hr4 NT.b .nil pass0 (pa_cons (pv 2) pa_nil)) (pa_cons (pe_dget hu (pv 1) (pv 2) (fun _ _ => rfl)) pa_nil))) (pg_tup rfl (pgs_cons (pg_name (i := 4) scEnB.nd rfl (.inl rfl)) (pgs_cons (pg_name (i := 5) scEnB.nd rfl (.inl rfl)) pgs_nil))))
        (pss_one (ps_for PassesOwn.never rfl (pi_list (pv 4)) (pg_tup rfl (pgs_cons (pg_name (i := 6) scEnB.nd rfl (.inl rfl)) (pgs_cons (pg_name (i := 7) scEnB.nd rfl (.inl rfl)) pgs_nil)))
          (pss_one (ps_daug hu (pv 3) (pv 6) (pv 7) in_add (fun _ _ _ => rfl)))))))
      (pss_one (ps_ret (pv 3))))), ?_⟩
    have lG := vo.len
    have n12 := ok.n1
    have lnm : (M.names.map V.str).length = M.names.length := List.length_map ..
    refine ⟨.ref b, rfl, .ref d, rfl, b, d, M, G, rfl, hb, ok, hd, vo, fun H1 s1 => ?_⟩
    have hb1 := book_same hb s1
    have hd1 := s1 _ _ hd
    obtain ⟨dx, tn, on, wg, ws, wd, e, _⟩ := hb1.ex
    refine ⟨.ref b, rfl, b, dx, _, rfl, e, bf_no (NoF.mk' (by decide +kernel)), b, M, rfl, hb1, fun l nl => ⟨l, rfl, ⟨_, .inl (.inl upd_same)⟩, fun D nD => ?_⟩⟩
    have s2 := same_upd (o := .lst (M.names.map V.str)) nl
    have hl2 : upd H1 l (.lst (M.names.map V.str)) l = some (.lst (M.names.map V.str)) := upd_same
    have nDH1 : H1 D = none := s2.free nD
    generalize upd H1 l (.lst (M.names.map V.str)) = H2 at s2 hl2 nD
    have l0 := endsL_len M G 0 []
    refine out_it (walk_list (K := K) (a := l) (xs := M.names.map V.str)) (fun i H' => Same H2 H' ∧ H' D = some (.dK (dct (M.names.take i) (((endsL M G 0 []).take i).map V.int)))) ⟨same_upd nD, upd_same⟩ (fun i H' _ hP => .inl (.inl (hP.1 _ _ hl2)))
      (fun i x H3' H3 hi hP hY => ?_) (fun H3 hP => ?_)
    · obtain ⟨rfl, hx⟩ := hY
      obtain ⟨s3, hD⟩ := hP
      rw [lnm] at hi
      have ex : x = .str M.names[i] := by
        rw [List.getElem?_map, List.getElem?_eq_getElem hi] at hx
        exact (Option.some.inj hx).symm
      subst ex
      have ei := List.getElem?_eq_getElem hi
      have hig : i < M.gifts.length := by rw [ok.lg]; exact hi
      have hiG : i < G.length := by omega
      have s13 := s2.trans s3
      refine ⟨rfl, _, rfl, .ref b, rfl, b, dx, _, rfl, s13 _ _ e, bf_no (NoF.mk' (by decide +kernel)), _, rfl, b, M, M.names[i], i, M.gifts[i], rfl, book_same hb1 s13, ok.names, ei, List.getElem?_eq_getElem hig, fun H4 s4 => ?_⟩
      have s14 := s13.trans s4
      refine ⟨.ref d, rfl, _, rfl, d, .int G[i], rfl, dget_rd (.inl (s14 _ _ hd1)) ok.nd ei (by rw [List.getElem?_map, List.getElem?_eq_getElem hiG]; rfl), _, _, rfl, rfl, ?_⟩
      have hD4 := s4 _ _ hD
      have lrep : (((endsL M G 0 []).take i).map V.int).length = (M.names.take i).length := by
        rw [List.length_map, List.length_take, List.length_take, l0]
      refine ⟨_, Sum.inr M.names[i], rfl, hD4, ?_, fun c o ec => ?_, ?_⟩
      · rw [dct_len lrep, List.length_take]
        exact small1000 (by omega)
      · rw [upd_ne (ne_of_none ec nD)]
        exact s4 _ _ (s3 c o ec)
      · have no : ∀ kv ∈ dct (M.names.take i) (((endsL M G 0 []).take i).map V.int), ¬ kv.1 = (Sum.inr M.names[i] : Key) := dct_nokey fun z => by
          obtain ⟨j, hj, e'⟩ := List.getElem_of_mem z
          rw [List.length_take] at hj
          rw [List.getElem_take] at e'
          have := (List.getElem_inj ok.nd).mp e'
          omega
        have hie : i < (endsL M G 0 []).length := by omega
        have ev : (endsL M G 0 [])[i] = M.gifts[i] - G[i] := by
          have := endsL_at G 0 [] ei
          rw [List.getElem?_eq_getElem hie] at this
          rw [Option.some.inj this, getD_of (List.getElem?_eq_getElem hig), getD_of (List.getElem?_eq_getElem hiG), sumTo_nil]
          simp
        rw [upd_same, put_new no, ← dct_snoc lrep, ← take_succ hi, take_succ hie, List.map_append, ev]
        rfl
    · obtain ⟨s3, hD⟩ := hP
      rw [lnm, List.take_length, ← l0, List.take_length] at hD
      have s13 := s2.trans s3
      have s03 := s1.trans s13
      have hb3 := book_same hb1 s13
      have e3 := s13 _ _ e
      have hd3 := s13 _ _ hd1
      have nDH : H D = none := s1.free nDH1
      refine ⟨.ref b, rfl, b, dx, _, rfl, e3, bf_no (NoF.mk' (by decide +kernel)), b, M, rfl, hb3, fun l2 nl2 => ⟨l2, rfl, ⟨_, .inl (.inl upd_same)⟩, ?_⟩⟩
      have s4 := same_upd (o := .lst (M.names.map V.str)) nl2
      have hl4 : upd H3 l2 (.lst (M.names.map V.str)) l2 = some (.lst (M.names.map V.str)) := upd_same
      have nl2D : l2 ≠ D := (ne_of_none hD nl2).symm
      have hD4 := s4 _ _ hD
      generalize upd H3 l2 (.lst (M.names.map V.str)) = H4 at s4 hl4 hD4
      have s04 := s03.trans s4
      refine for_it (walk_list (K := K) (a := l2) (xs := M.names.map V.str)) (fun i σ H' => ∃ y2 y4 y5 y6 y7, σ = [some (.ref b), some (.ref d), y2, some (.ref D), y4, y5, y6, y7] ∧ Same H H' ∧ H' l2 = some (.lst (M.names.map V.str)) ∧ H' D = some (.dK (dct M.names ((endsL M G i []).map V.int)))) ⟨_, _, _, _, _, rfl, s04, hl4, hD4⟩ (fun i σ H' _ hP => ?_) (fun i x σ H5' H5 hi hP hY => ?_) (fun σ H5 hP => ?_)
      · obtain ⟨_, _, _, _, _, _, _, h, _⟩ := hP
        exact .inl (.inl h)
      · obtain ⟨rfl, hx⟩ := hY
        obtain ⟨y2, y4, y5, y6, y7, rfl, s5, hl5, hD5⟩ := hP
        rw [lnm] at hi
        have ex : x = .str M.names[i] := by
          rw [List.getElem?_map, List.getElem?_eq_getElem hi] at hx
          exact (Option.some.inj hx).symm
        subst ex
        have ei := List.getElem?_eq_getElem hi
        have his : i < M.stacks.length := by rw [ok.ls]; exact hi
        have hid : i < M.drops.length := by rw [ok.ld]; exact hi
        have hiG : i < G.length := by omega
        have el := List.getElem?_eq_getElem his
        have ll : M.stacks[i].length ≤ 100 := Nat.le_trans (len_le_sum (List.getElem_mem his)) (Nat.le_trans ok.many (by decide))
        have hb5 := book_same hb s5
        obtain ⟨dx5, tn5, on5, wg5, ws5, wd5, e5, _⟩ := hb5.ex
        refine ⟨.ref b, rfl, b, dx5, _, rfl, e5, bf_no (NoF.mk' (by decide +kernel)), _, rfl, b, M, M.names[i], i, M.stacks[i], M.drops[i], rfl, hb5, ok.names, ei, el, List.getElem?_eq_getElem hid, ll, fun r1 xs1 H6 s6 nr1 hr1' dr1 => ?_⟩
        have s56 := s5.trans s6
        refine ⟨.ref d, rfl, _, rfl, d, .int G[i], rfl, dget_rd (.inl (s56 _ _ hd)) ok.nd ei (by rw [List.getElem?_map, List.getElem?_eq_getElem hiG]; rfl), r1, xs1, true, M.stacks[i], G[i], rfl, .inl (.inl hr1'), dr1, ll, fun t g m gx mx H7 s7 ht ng nm gm hg hm dg dm => ?_⟩
        refine ⟨t, _, rfl, .inl (.inl ht), rfl, _, _, rfl, _, _, rfl, rfl, ?_⟩
        have s07 := s56.trans s7
        have hl7 := s7 _ _ (s6 _ _ hl5)
        have hD7 := s7 _ _ (s6 _ _ hD5)
        have gl2 : g ≠ l2 := (ne_of_none (s6 _ _ hl5) ng).symm
        have gD : g ≠ D := (ne_of_none (s6 _ _ hD5) ng).symm
        have tos : ∀ n ∈ goneN M.stacks[i] G[i], n.1 ∈ M.names := fun n hn => by
          obtain ⟨x, hx⟩ := gone_to hn
          exact cl _ (List.getElem_mem his) (n.1, x) hx
        have nx := endsL_next (M := M) (G := G) el (List.getElem?_eq_getElem hiG)
        have lgo : (goneN M.stacks[i] G[i]).length ≤ 100 := Nat.le_trans (goneN_len _ _) ll
        generalize goneN M.stacks[i] G[i] = L at dg tos nx lgo
        have lgx : gx.length = L.length := by
          rw [dg.len]
          unfold notesD
          rw [List.length_map]
        refine ⟨.ref g, rfl, g, rfl, ⟨_, .inl (.inl hg)⟩, ?_⟩
        refine for_it (walk_list (K := K) (a := g) (xs := gx)) (fun i' σ H' => ∃ y6 y7, σ = [some (.ref b), some (.ref d), some (.str M.names[i]), some (.ref D), some (.ref g), some (.ref m), y6, y7] ∧ Same H H' ∧ H' l2 = some (.lst (M.names.map V.str)) ∧ H' g = some (.lst gx) ∧ DtAll K H' gx (notesD L) ∧ H' D = some (.dK (dct M.names ((endsL M G i (L.take i')).map V.int))))
          ⟨_, _, rfl, s07, hl7, hg, dg, hD7⟩ (fun i' σ H' _ hP => ?_) (fun i' x' σ H8' H8 hi' hP hY => ?_) (fun σ H8 hP => ?_)
        · obtain ⟨_, _, _, _, _, h, _⟩ := hP
          exact .inl (.inl h)
        · obtain ⟨rfl, hx'⟩ := hY
          obtain ⟨y6, y7, rfl, s8, hl8, hg8, dg8, hD8⟩ := hP
          have hiL : i' < L.length := by omega
          obtain ⟨hil, dn⟩ := dg8.notes_get hx'
          obtain ⟨ta, rfl, qt⟩ := note_inv dn
          have htm := tos _ (List.getElem_mem hiL)
          have tk' := take_succ hiL
          generalize L[i'] = nn at htm tk' qt
          obtain ⟨t', a'⟩ := nn
          refine ⟨ta, _, rfl, qt, rfl, _, _, rfl, _, _, rfl, rfl, ?_⟩
          have hjl : M.names.idxOf t' < (endsL M G i (L.take i')).length := by
            rw [endsL_len]
            exact List.idxOf_lt_length_of_mem htm
          have hv := List.getElem?_eq_getElem hjl
          refine ⟨.ref D, rfl, .str t', rfl, D, .int (endsL M G i (L.take i'))[M.names.idxOf t'], rfl, dget_rd (.inl hD8) ok.nd (idx_get htm) (by rw [List.getElem?_map, hv]; rfl), .int a', rfl, _, _, rfl, rfl, _, DPut.k (k := Sum.inr t') hD8 (by rw [dct_len (by rw [List.length_map, endsL_len])]; exact small1000 (by omega)), ?_⟩
          rw [dct_put ok.nd (idx_get htm) (by rw [List.length_map]; exact hjl), map_set V.int, endsL_add ok.nd htm hv, ← tk']
          refine ⟨_, _, rfl, fun c o ec => ?_, ?_, ?_, DtAll.keepT (kt_upd hD8 fun z => z) _ (tup_notes _) dg8, upd_same⟩
          · rw [upd_ne (ne_of_none ec nDH)]
            exact s8 c o ec
          · rw [upd_ne nl2D]
            exact hl8
          · rw [upd_ne gD]
            exact hg8
        · obtain ⟨y6, y7, rfl, s8, hl8, hg8, dg8, hD8⟩ := hP
          rw [lgx, List.take_length, nx] at hD8
          exact ⟨_, _, _, _, _, rfl, s8, hl8, hD8⟩
      · obtain ⟨y2, y4, y5, y6, y7, rfl, s5, hl5, hD5⟩ := hP
        rw [lnm] at hD5
        exact ⟨.ref D, rfl, q D H5 s5 nDH hD5⟩
end
end Rc

namespace Rc
open PySem PySem.Spec PyProof.Rows L2 RZ
section
variable {P : Program} {w : World} {K : PySem.W.Frag} {mg : Str → Option Value} {base : Heap}
/-! ### is_covered -/
abbrev sIsC : Stmt := topS 34
abbrev nIsC : List Str := ["book", "vector", "ends", "who"]
theorem scIsC : FnScope nIsC ["book", "vector"] (defScope sIsC) := ⟨rfl, rfl, rfl, by decide +kernel, rfl, by decide +kernel, by decide +kernel⟩
def spIsC (K : PySem.W.Frag) (C : Addr) : Sp := fun vs H Q _ => ∃ (b d : Addr) (M : Bk) (G : List Int), vs = [.ref b, .ref d] ∧ BookAt K C H b M ∧ M.Ok ∧ Closed M ∧ H d = some (.dK (dct M.names (G.map V.int))) ∧ VecOk M G ∧
  ∀ H', Same H H' → Q (.bl ((endsM M G).all fun x => decide (0 ≤ x))) H'
theorem all_map {α : Type} (f : α → Bool) (l : List α) : (l.map f).all id = l.all f := by
  rw [List.all_map]
  rfl
theorem ok_isC {f f1 C : Addr} {fd fd1 : FuncData} (F : Fun K "is_covered" "is_covered" sIsC f fd) (B : Blt mg) (EB : Has P w K mg base 8 "ends_by" ["book", "vector"] (spEnB K C) f1 fd1) : FnOk P w K mg base CX0 9 f fd ["book", "vector"] (spIsC K C) := by
  refine F.ok scIsC (fun vs H Q E h => ?_) (fun cdv A outer s H vs Q E hr h => ?_)
  · obtain ⟨_, _, _, _, rfl, _⟩ := h
    rfl
  · obtain ⟨b, d, M, G, rfl, hb, ok, cl, hd, vo, q⟩ := h
    have hu := hu_of hr
    refine ⟨_, pss_cons (ps_set (i := 2) scIsC.nd rfl (.inr rfl) (pe_call EB.ok hr (by rfl) EB.g EB.kp EB.b .nil pass0 (pa_cons (pv 0) (pa_cons (pv 1) pa_nil))))
      (pss_one (ps_ret (pe_callB (cr_all rfl) (by rfl) B.all (by decide +kernel) (pa_cons (pe_lock (pe_lc (own := [("who", 3)]) (g := gName 3) (tt := tYes) rfl scIsC.nd (pi_keys (pv 2)) (blkOk_by (N := nIsC) (sc := defScope sIsC) (own := [("who", 3)]) (by decide +kernel))
        (fun _ _ _ _ _ => pg_name (i := 3) scIsC.nd rfl (.inl rfl) (hf := .inr rfl)) (fun _ _ _ _ _ => pts_nil)
        (fun _ _ _ _ _ => pe_cmpR op_ge (pe_dget hu (pv 2) (pv 3) (fun _ _ => rfl)) pe_int (nomark _)))) pa_nil)))), ?_⟩
    have n12 := ok.n1
    refine ⟨.ref b, rfl, .ref d, rfl, b, d, M, G, rfl, hb, ok, cl, hd, vo, fun e H1 s1 ne he => ?_⟩
    have le := endsL_len M G M.names.length []
    have le' : (endsM M G).length = M.names.length := le
    generalize hE : endsM M G = EE at he le' q
    have lk : (dct M.names (EE.map V.int)).length = M.names.length := dct_len (by rw [List.length_map, le'])
    refine ⟨e, _, he, trivial, fun od => ?_⟩
    have heL : upd H1 e (.frz od (.dK (dct M.names (EE.map V.int)))) e = some (.frz od (.dK (dct M.names (EE.map V.int)))) := upd_same
    have un : ∀ H', Same (upd H1 e (.frz od (.dK (dct M.names (EE.map V.int))))) H' → Same H1 (upd H' e (.dK (dct M.names (EE.map V.int)))) := fun H' s' => same_unlock he s'
    generalize upd H1 e (.frz od (.dK (dct M.names (EE.map V.int)))) = HL at heL un
    refine ⟨.ref e, rfl, e, od, rfl, .inl ⟨_, heL, fun D0 nD0 => ?_⟩⟩
    have eD : D0 ≠ e := (ne_of_none heL nD0).symm
    refine lc_it (walk_keys (kvs := dct M.names (EE.map V.int))) (fun i H' => Same HL H' ∧ H' D0 = some (.lst (((EE.take i).map fun x => decide (0 ≤ x)).map V.bl))) ⟨same_upd nD0, upd_same⟩ (fun i H' _ hP => hP.1 _ _ heL)
      (fun i x H2' H2 hi hP hY => ?_) (fun H2 hP => ?_)
    · obtain ⟨rfl, k, v, ek, rfl⟩ := hY
      obtain ⟨s2, hD2⟩ := hP
      rw [lk] at hi
      have hiE : i < EE.length := by omega
      have ek2 : (dct M.names (EE.map V.int))[i]? = some (Sum.inr M.names[i], V.int EE[i]) := by
        unfold dct
        rw [List.getElem?_map, List.getElem?_zip_eq_some (z := (M.names[i], V.int EE[i])) |>.mpr ⟨List.getElem?_eq_getElem hi, by rw [List.getElem?_map, List.getElem?_eq_getElem hiE]; rfl⟩]
        rfl
      rw [ek2] at ek
      cases ek
      refine ⟨rfl, .ref e, rfl, _, rfl, e, .int EE[i], rfl, dget_rd (.inr ⟨od, s2 _ _ heL⟩) ok.nd (List.getElem?_eq_getElem hi) (by rw [List.getElem?_map, List.getElem?_eq_getElem hiE]; rfl), _, _, rfl, rfl, ?_⟩
      refine ⟨_, hD2, by rw [List.length_map, List.length_map, List.length_take]; exact small1000 (by omega), fun c o ec => ?_, ?_⟩
      · rw [upd_ne (ne_of_none ec nD0)]
        exact s2 c o ec
      · rw [upd_same, take_succ hiE, List.map_append, List.map_append]
        rfl
    · obtain ⟨s2, hD2⟩ := hP
      rw [lk, ← le', List.take_length] at hD2
      refine ⟨s2 _ _ heL, D0, _, rfl, .inl (.inl (by rw [upd_ne eD]; exact hD2)), ?_⟩
      rw [all_map]
      exact q _ (s1.trans (un _ s2))
end
end Rc

namespace Rc
open PySem PySem.Spec PyProof.Rows L2 RZ
section
variable {P : Program} {w : World} {K : PySem.W.Frag} {mg : Str → Option Value} {base : Heap}
/-! ### fallen_of -/
abbrev sFaO : Stmt := topS 32
abbrev nFaO : List Str := ["book", "who"]
theorem scFaO : FnScope nFaO ["book"] (defScope sFaO) := ⟨rfl, rfl, rfl, by decide +kernel, rfl, by decide +kernel, by decide +kernel⟩
def spFaO (K : PySem.W.Frag) (C : Addr) : Sp := fun vs H Q _ => ∃ (b : Addr) (M : Bk), vs = [.ref b] ∧ BookAt K C H b M ∧ M.Ok ∧ ∀ d H', Same H H' → H d = none → H' d = some (.dK (dct M.names (M.drops.map V.int))) → Q (.ref d) H'
theorem ok_faO {f f1 f2 C : Addr} {fd fd1 fd2 : FuncData} (F : Fun K "fallen_of" "fallen_of" sFaO f fd) (T : ClsF K C) (PS' : HasM P w K mg base C 1 "persons" ["self"] (spPersons K C) f1 fd1) (FL : HasM P w K mg base C 4 "fallen" ["self", "who"] (spNum K C Bk.drops) f2 fd2) :
    FnOk P w K mg base CX0 5 f fd ["book"] (spFaO K C) := by
  refine F.ok scFaO (fun vs H Q E h => ?_) (fun cdv A outer s H vs Q E hr h => ?_)
  · obtain ⟨_, _, rfl, _⟩ := h
    rfl
  · obtain ⟨b, M, rfl, hb, ok, q⟩ := h
    have hr1 := hr.mono (show 1 ≤ 4 by decide)
    refine ⟨_, pss_one (ps_ret (pe_dc (own := [("who", 1)]) (g := gName 1) (tt := tYes) rfl scFaO.nd (pi_list (pe_meth0 (pv 0) T.cl PS'.m PS'.ok hr1 PS'.b .nil pass0)) (blkOk_by (N := nFaO) (sc := defScope sFaO) (own := [("who", 1)]) (by decide +kernel))
      (fun _ _ _ _ _ => pg_name (i := 1) scFaO.nd rfl (.inl rfl) (hf := .inr rfl)) (fun _ _ _ _ _ => pts_nil) (fun _ _ _ _ _ => pv 1)
      (fun _ _ _ _ _ => pe_meth (pv 0) T.cl FL.m FL.ok hr FL.b .nil pass0 (pa_cons (pv 1) pa_nil)))), ?_⟩
    obtain ⟨dx, tn, on, wg, ws, wd, e, _⟩ := hb.ex
    refine ⟨.ref b, rfl, b, dx, _, rfl, e, bf_no (NoF.mk' (by decide +kernel)), b, M, rfl, hb, fun l nl => ⟨l, rfl, ⟨_, .inl (.inl upd_same)⟩, fun D nD => ?_⟩⟩
    have s1 := same_upd (o := .lst (M.names.map V.str)) nl
    have hl1 : upd H l (.lst (M.names.map V.str)) l = some (.lst (M.names.map V.str)) := upd_same
    have nDH : H D = none := s1.free nD
    generalize upd H l (.lst (M.names.map V.str)) = H1 at s1 hl1 nD
    have ld := ok.ld
    have n12 := ok.n1
    have lnm : (M.names.map V.str).length = M.names.length := List.length_map ..
    refine out_it (walk_list (K := K) (a := l) (xs := M.names.map V.str)) (fun i H' => Same H1 H' ∧ H' D = some (.dK (dct (M.names.take i) ((M.drops.take i).map V.int)))) ⟨same_upd nD, upd_same⟩ (fun i H' _ hP => .inl (.inl (hP.1 _ _ hl1)))
      (fun i x H2' H2 hi hP hY => ?_) (fun H2 hP => ?_)
    · obtain ⟨rfl, hx⟩ := hY
      obtain ⟨s2, hD⟩ := hP
      rw [lnm] at hi
      have ex : x = .str M.names[i] := by
        rw [List.getElem?_map, List.getElem?_eq_getElem hi] at hx
        exact (Option.some.inj hx).symm
      subst ex
      have hid : i < M.drops.length := by omega
      have s02 := s1.trans s2
      refine ⟨rfl, _, rfl, .ref b, rfl, b, dx, _, rfl, s02 _ _ e, bf_no (NoF.mk' (by decide +kernel)), _, rfl, b, M, M.names[i], i, M.drops[i], rfl, book_same hb s02, ok.names, List.getElem?_eq_getElem hi, List.getElem?_eq_getElem hid, fun H3 s3 => ?_⟩
      have hD3 := s3 _ _ hD
      have lrep : ((M.drops.take i).map V.int).length = (M.names.take i).length := by
        rw [List.length_map, List.length_take, List.length_take, ld]
      refine ⟨_, Sum.inr M.names[i], rfl, hD3, ?_, fun c o ec => ?_, ?_⟩
      · rw [dct_len lrep, List.length_take]
        exact small1000 (by omega)
      · rw [upd_ne (ne_of_none ec nD)]
        exact s3 _ _ (s2 c o ec)
      · have no : ∀ kv ∈ dct (M.names.take i) ((M.drops.take i).map V.int), ¬ kv.1 = (Sum.inr M.names[i] : Key) := dct_nokey fun z => by
          obtain ⟨j, hj, e'⟩ := List.getElem_of_mem z
          rw [List.length_take] at hj
          rw [List.getElem_take] at e'
          have := (List.getElem_inj ok.nd).mp e'
          omega
        rw [upd_same, put_new no, ← dct_snoc lrep, ← take_succ hi, take_succ hid, List.map_append]
        rfl
    · obtain ⟨s2, hD⟩ := hP
      rw [lnm, List.take_length, ← ld, List.take_length] at hD
      exact q D H2 (s1.trans s2) nDH hD
end
end Rc

namespace Rc
open PySem PySem.Spec PyProof.Rows L2 RZ
/-- what is at hand while deeds are drawn -/
structure RB (K : PySem.W.Frag) (H : Hp) (p nl ar dl : Addr) (zs as : List Str) (H' : Hp) (xs : List V) (ds : List Deed) : Prop where
  hn : H' nl = some (.lst (zs.map V.str))
  ha : H' ar = some (.lst (as.map V.str))
  hd : H' dl = some (.lst xs)
  dd : DtAll K H' xs (deedsD ds)
  hp : Pot H' p
  bt : But p H H'
structure Apart (H : Hp) (p nl ar dl : Addr) : Prop where
  np : nl ≠ p
  ap : ar ≠ p
  dp : dl ≠ p
  nd : nl ≠ dl
  ad : ar ≠ dl
  new : H dl = none
theorem RB.but {K : PySem.W.Frag} {H H1 H2 : Hp} {p nl ar dl : Addr} {zs as : List Str} {xs : List V} {ds : List Deed} (r : RB K H p nl ar dl zs as H1 xs ds) (ap : Apart H p nl ar dl) (b : But p H1 H2) (hp : Pot H2 p) : RB K H p nl ar dl zs as H2 xs ds :=
  ⟨b _ _ ap.np r.hn, b _ _ ap.ap r.ha, b _ _ ap.dp r.hd, DtAll.keepT (b.kt r.hp) _ (tup_deeds ds) r.dd, hp, r.bt.trans b⟩
theorem RB.same {K : PySem.W.Frag} {H H1 H2 : Hp} {p nl ar dl : Addr} {zs as : List Str} {xs : List V} {ds : List Deed} (r : RB K H p nl ar dl zs as H1 xs ds) (s : Same H1 H2) : RB K H p nl ar dl zs as H2 xs ds :=
  ⟨s _ _ r.hn, s _ _ r.ha, s _ _ r.hd, DtAll.same s _ r.dd, r.hp.same s, r.bt.trans (same_but s)⟩
theorem RB.more {K : PySem.W.Frag} {H H1 : Hp} {p nl ar dl t : Addr} {zs as : List Str} {xs : List V} {ds : List Deed} (r : RB K H p nl ar dl zs as H1 xs ds) (ap : Apart H p nl ar dl) {z y : Str} {n : Int} (nt : H1 t = none) :
    RB K H p nl ar dl zs as (upd (upd H1 t (.tup [.str "put", .str z, .str y, .int n])) dl (.lst (xs ++ [.ref t]))) (xs ++ [.ref t]) (ds ++ [.put z y n]) := by
  have r2 := r.same (same_upd (o := .tup [.str "put", .str z, .str y, .int n]) nt)
  have ht : upd H1 t (.tup [.str "put", .str z, .str y, .int n]) t = some (.tup [.str "put", .str z, .str y, .int n]) := upd_same
  have td : t ≠ dl := (ne_of_none r.hd nt).symm
  generalize upd H1 t (.tup [.str "put", .str z, .str y, .int n]) = H2 at r2 ht
  refine ⟨by rw [upd_ne ap.nd]; exact r2.hn, by rw [upd_ne ap.ad]; exact r2.ha, upd_same, ?_, ?_, fun c o nc e => ?_⟩
  · unfold deedsD
    rw [List.map_append]
    refine (DtAll.keepT (kt_upd r2.hd fun z => z) _ (tup_deeds ds) r2.dd).append (.cons (.tup (.inl (.inl ?_)) (.cons (.str _) (.cons (.str _) (.cons (.str _) (.cons (.int _) .nil))))) .nil)
    rw [upd_ne td]
    exact ht
  · obtain ⟨x, y, e, rr⟩ := r2.hp
    exact ⟨x, y, by rw [upd_ne ap.dp.symm]; exact e, rr⟩
  · rw [upd_ne (ne_of_none e ap.new)]
    exact r2.bt _ _ nc e
theorem rd_ix {as : List Str} (h0 : 0 < as.length) (i : Nat) : atI (as.map V.str) ((((i : Nat) : Int) + 1) % ((as.map V.str).length : Int)) = some (.str (rd as (i + 1))) := by
  have hl := Nat.mod_lt (i + 1) h0
  have e : ((((i : Nat) : Int) + 1) % ((as.map V.str).length : Int)) = (((i + 1) % as.length : Nat) : Int) := by
    rw [List.length_map, Int.natCast_emod, Int.natCast_add]
    rfl
  rw [e]
  refine atI_nat ?_
  rw [List.getElem?_map]
  have e2 := rd_at hl
  rw [e2]
  show some (V.str (rd as ((i + 1) % as.length))) = _
  unfold rd
  rw [Nat.mod_mod]
theorem md_lens (zs : List Str) (ds : List Deed) : (mdAt zs ds).given.length = zs.length ∧ (mdAt zs ds).notes.length = zs.length := by
  have h : ∀ (ds : List Deed) (D : Md), (ds.foldl (doneD zs) D).given.length = D.given.length ∧ (ds.foldl (doneD zs) D).notes.length = D.notes.length := fun ds => by
    induction ds with
    | nil => exact fun D => ⟨rfl, rfl⟩
    | cons d r ih =>
      intro D
      obtain ⟨a, b⟩ := ih (doneD zs D d)
      obtain ⟨c, e⟩ := done_lens zs D d
      exact ⟨a.trans c, b.trans e⟩
  obtain ⟨a, b⟩ := h ds (newMd zs.length)
  exact ⟨a.trans List.length_replicate, b.trans List.length_replicate⟩
end Rc

namespace Rc
open PySem PySem.Spec PyProof.Rows L2 RZ
theorem whole_take : ∀ {l : List (Str × Int)} (k : Nat), (∀ n ∈ l, 1 ≤ n.2) → 0 ≤ wholeN (l.take k) ∧ wholeN (l.take k) ≤ wholeN l
  | [], k, _ => by
    rw [List.take_nil]
    exact ⟨Int.le_refl _, Int.le_refl _⟩
  | n :: r, 0, h => by
    rw [List.take_zero]
    exact ⟨Int.le_refl _, wholeN_nonneg h⟩
  | n :: r, k + 1, h => by
    obtain ⟨a, b⟩ := whole_take (l := r) k fun x hx => h x (List.mem_cons_of_mem _ hx)
    have h1 := h n List.mem_cons_self
    obtain ⟨t, m⟩ := n
    rw [List.take_succ_cons, wholeN_cons, wholeN_cons]
    have h1' : 1 ≤ m := h1
    exact ⟨by show 0 ≤ m + _; omega, by show m + _ ≤ m + _; omega⟩
theorem Gs.wholeB {zs : List Str} {D : Md} (g : Gs zs D) {l : List (Str × Int)} (hl : l ∈ D.notes) : 0 ≤ wholeN l ∧ wholeN l ≤ 60 * 10 ^ 58 := by
  have h1 := wholeN_le (g.nt l hl)
  have h2 := g.rows l hl
  have h3 : ((l.length : Nat) : Int) * 10 ^ 58 ≤ 60 * 10 ^ 58 := Int.mul_le_mul_of_nonneg_right (by omega) (by decide)
  exact ⟨wholeN_nonneg fun n hn => (g.nt l hl n hn).2.1, by omega⟩
section
variable {P : Program} {w : World} {K : PySem.W.Frag} {mg : Str → Option Value} {base : Heap}
/-! ### _law_shares -/
abbrev sLSa : Stmt := topS 60
abbrev nLSa : List Str := ["_law_pot_here", "_law_model_here", "_law_found", "_law_owner", "_law_notes", "_law_whole", "_law_ahead", "_law_some", "_law_goal", "_law_coins"]
theorem scLSa : FnScope nLSa ["_law_pot_here", "_law_model_here"] (defScope sLSa) := ⟨rfl, rfl, rfl, by decide +kernel, rfl, by decide +kernel, by decide +kernel⟩
def spLSa (K : PySem.W.Frag) : Sp := fun vs H Q _ => ∃ (p : Addr) (a : MdA) (D : Md) (zs : List Str), vs = [.ref p, .ref a.m] ∧ Pot H p ∧ ModelAt K H zs a D ∧ ¬ a.Has p ∧ Gs zs D ∧ Gb D ∧ ∀ d G H', But p H H' → Pot H' p → H d = none → d ≠ p → H' d = some (.dK (dct zs (List.map V.int G))) → VecOk (bkOf zs D) G → Q (.ref d) H'
/-- a sum of coins, as the law adds them -/
theorem ok_lsa {f fT : Addr} {fd fdT : FuncData} (F : Fun K "_law_shares" "_law_shares" sLSa f fd) (B : Blt mg) (B2 : Blt2 mg) (B3 : Blt3 mg) (TK : HasTake P w K mg base fT fdT) : FnOk P w K mg base CX0 2 f fd ["_law_pot_here", "_law_model_here"] (spLSa K) := by
  refine F.ok scLSa (fun vs H Q E h => ?_) (fun cdv Ar outer s H vs Q E hr h => ?_)
  · obtain ⟨_, _, _, _, rfl, _⟩ := h
    rfl
  · obtain ⟨p, a, D, zs, rfl, hp, hM, nap, g, gb, q⟩ := h
    have hu := hu_of hr
    refine ⟨_, pss_cons (ps_set (i := 2) scLSa.nd rfl (.inl rfl) pe_dnewK)
      (pss_cons (ps_for PassesOwn.never rfl (pi_list (pe_dget hu (pv 1) pe_str (fun _ _ => rfl))) (pg_name (i := 3) scLSa.nd rfl (.inl rfl))
        (pss_cons (ps_set (i := 4) scLSa.nd rfl (.inl rfl) (pe_dget hu (pe_dget hu (pv 1) pe_str (fun _ _ => rfl)) (pv 3) (fun _ _ => rfl)))
        (pss_cons (ps_set (i := 5) scLSa.nd rfl (.inl rfl) (pe_callB (cr_sum rfl) (by rfl) B3.sum (by decide +kernel) (pa_cons
          (pe_lc (own := [("_law_goal", 8), ("_law_coins", 9)]) (g := gTup K 2 (gCons (gName 8) (gCons (gName 9) gNil))) (tt := tYes) rfl scLSa.nd (pi_list (pv 4)) (blkOk_by (N := nLSa) (sc := defScope sLSa) (own := [("_law_goal", 8), ("_law_coins", 9)]) (by decide +kernel))
            (fun _ _ _ _ _ => pg_tup rfl (pgs_cons (pg_name (i := 8) scLSa.nd rfl (.inl rfl) (hf := .inr rfl)) (pgs_cons (pg_name (i := 9) scLSa.nd rfl (.inl rfl) (hf := .inr rfl)) pgs_nil)))
            (fun _ _ _ _ _ => pts_nil) (fun _ _ _ _ _ => pv 9)) pa_nil)))
        (pss_cons (ps_set (i := 6) scLSa.nd rfl (.inl rfl) (pe_callB (cr_sum rfl) (by rfl) B3.sum (by decide +kernel) (pa_cons
          (pe_lc (own := [("_law_goal", 8), ("_law_coins", 9)]) (g := gTup K 2 (gCons (gName 8) (gCons (gName 9) gNil))) (tt := tYes) rfl scLSa.nd (pi_list (pe_slice sl_list (pv 4) po_none (po_some (pe_call TK.ok hr (by rfl) TK.g TK.kp TK.b .nil pass0 (pa_cons (pv 0) (pa_cons (pe_op op_add (pe_callB call_len_seq (by rfl) B.len PySem.boot_len (pa_cons (pv 4) pa_nil)) pe_int) pa_nil)))))) (blkOk_by (N := nLSa) (sc := defScope sLSa) (own := [("_law_goal", 8), ("_law_coins", 9)]) (by decide +kernel))
            (fun _ _ _ _ _ => pg_tup rfl (pgs_cons (pg_name (i := 8) scLSa.nd rfl (.inl rfl) (hf := .inr rfl)) (pgs_cons (pg_name (i := 9) scLSa.nd rfl (.inl rfl) (hf := .inr rfl)) pgs_nil)))
            (fun _ _ _ _ _ => pts_nil) (fun _ _ _ _ _ => pv 9)) pa_nil)))
        (pss_cons (ps_set (i := 7) scLSa.nd rfl (.inl rfl) (pe_lst (pa_cons pe_int (pa_cons (pv 5) (pa_cons (pe_dget hu (pe_dget hu (pv 1) pe_str (fun _ _ => rfl)) (pv 3) (fun _ _ => rfl)) (pa_cons (pv 6)
          (pa_cons (pe_callB (call_max2 rfl) (by rfl) B2.max (by decide +kernel) (pa_cons pe_int (pa_cons (pe_op op_sub (pv 6) pe_int) pa_nil)))
          (pa_cons (pe_callB (call_min2 rfl) (by rfl) B2.min (by decide +kernel) (pa_cons (pv 5) (pa_cons (pe_op op_add (pv 6) pe_int) pa_nil))) pa_nil))))))))
        (pss_one (ps_dput hu (pv 2) (pv 3) (pe_ix ix_list (pe_op op_cat (pv 7) (pe_lst (pa_cons (pe_call TK.ok hr (by rfl) TK.g TK.kp TK.b .nil pass0 (pa_cons (pv 0) (pa_cons (pe_op op_add (pv 5) pe_int) pa_nil))) pa_nil))) (pe_call TK.ok hr (by rfl) TK.g TK.kp TK.b .nil pass0 (pa_cons (pv 0) (pa_cons pe_int pa_nil))) (fun _ _ => rfl)) rfl)))))))
      (pss_one (ps_ret (pv 2)))), ?_⟩
    have lz := g.nz.n1
    have b300 : (60 : Int) * 10 ^ 58 + 1 < 2 ^ 300 := by decide
    intro d nd
    have dp : d ≠ p := hp.ne nd
    have s0 := same_upd (o := .dK []) nd
    have hd0 : upd H d (.dK []) d = some (.dK []) := upd_same
    generalize upd H d (.dK []) = H0 at s0 hd0
    have hM0 := model_same hM s0
    refine ⟨.ref a.m, rfl, a.m, .ref a.lo, rfl, hM0.g0, a.lo, rfl, ⟨_, .inl (.inl hM0.ho)⟩, ?_⟩
    have nlop : a.lo ≠ p := fun z => nap (.inr (.inl z.symm))
    refine for_it (walk_list (K := K) (a := a.lo) (xs := zs.map V.str)) (fun i σ H' => ∃ (G : List Int) (y3 y4 y5 y6 y7 y8 y9 : Option V), σ = [some (.ref p), some (.ref a.m), some (.ref d), y3, y4, y5, y6, y7, y8, y9] ∧ But p H H' ∧ Pot H' p ∧ H' d = some (.dK (dct (zs.take i) (G.map V.int))) ∧ G.length = i ∧ ∀ (j : Nat) (l : List (Str × Int)) (x : Int), D.notes[j]? = some l → G[j]? = some x → 0 ≤ x ∧ x ≤ wholeN l)
      ⟨[], _, _, _, _, _, _, _, rfl, same_but s0, hp.same s0, hd0, rfl, fun j l x _ e => by cases e⟩ (fun i σ H' _ hP => ?_) (fun i x σ H1' H1 hi hP hY => ?_) (fun σ H1 hP => ?_)
    · obtain ⟨_, _, _, _, _, _, _, _, _, bt, _⟩ := hP
      exact .inl (.inl (bt _ _ nlop hM.ho))
    · obtain ⟨rfl, hx⟩ := hY
      obtain ⟨G, y3, y4, y5, y6, y7, y8, y9, rfl, bt1, hp1, hd1, lG, rg⟩ := hP
      rw [List.length_map] at hi
      have ei := List.getElem?_eq_getElem hi
      have exx : x = .str zs[i] := by
        rw [List.getElem?_map, ei] at hx
        exact (Option.some.inj hx).symm
      subst exx
      have tkz := take_succ hi
      have nin : zs[i] ∉ zs.take i := fun z => by
        obtain ⟨j, hj, e'⟩ := List.getElem_of_mem z
        rw [List.length_take] at hj
        rw [List.getElem_take] at e'
        have := (List.getElem_inj g.nz.nd).mp e'
        omega
      generalize zs[i] = z at ei tkz nin
      have hM1 := model_but hM bt1 hp nap
      obtain ⟨gv, f', l, r, xs, eg, ef, el, er, hr0, dr0⟩ := hM1.at_ ei
      have hlm := List.mem_of_getElem? el
      have ll := g.rows l hlm
      have pos : ∀ n ∈ l, 1 ≤ n.2 := fun n hn => (g.nt l hlm n hn).2.1
      obtain ⟨W0, W1⟩ := g.wholeB hlm
      have f0 := g.fl f' (List.mem_of_getElem? ef)
      have fw := gb.fw i l f' el ef
      have lx : xs.length = l.length := by
        rw [dr0.len]
        unfold notesD
        rw [List.length_map]
      have rp : r ≠ p := fun z => nap (by rw [← z]; exact .inr (.inr (.inr (.inr (.inr (List.mem_of_getElem? er))))))
      have ndp : a.dn ≠ p := fun z => nap (.inr (.inr (.inr (.inr (.inl z.symm)))))
      refine ⟨.ref a.m, rfl, a.m, .ref a.dn, rfl, hM1.g3, .str z, rfl, a.dn, .ref r, rfl, hM1.gn ei er, ?_⟩
      -- whole
      refine ⟨.ref r, rfl, r, rfl, ⟨_, .inl (.inl hr0)⟩, fun D1 nD1 => ?_⟩
      refine lc_it (walk_list (K := K) (a := r) (xs := xs)) (fun i' H' => Same H1 H' ∧ H' D1 = some (.lst ((l.take i').map fun n => .int n.2))) ⟨same_upd nD1, upd_same⟩ (fun i' H' _ hP => hP.1.seq (.inl (.inl hr0)))
        (fun i' x' H2' H2 hi' hP hY => ?_) (fun H2 hP => ?_)
      · obtain ⟨rfl, hx'⟩ := hY
        obtain ⟨hil, dn⟩ := (DtAll.same hP.1 _ dr0).notes_get hx'
        obtain ⟨na, rfl, qn⟩ := note_inv dn
        refine ⟨na, _, rfl, qn, rfl, _, _, rfl, _, _, rfl, rfl, rfl, _, rfl, _, hP.2, ?_, fun c o ec => ?_, ?_⟩
        · rw [List.length_map, List.length_take]
          exact small1000 (by omega)
        · rw [upd_ne (ne_of_none ec nD1)]
          exact hP.1 c o ec
        · rw [upd_same, take_succ hil, List.map_append]
          rfl
      · obtain ⟨s2, hD1⟩ := hP
        refine ⟨D1, l.map (·.2), rfl, .inl (.inl ?_), ?_⟩
        · rw [hD1, lx, List.take_length, List.map_map]
          rfl
        have eW : (l.map (·.2)).sum = wholeN l := rfl
        rw [eW]
        have hr2 := s2 _ _ hr0
        have hp2 := hp1.same s2
        -- ahead
        refine ⟨.ref r, rfl, .ref p, rfl, .ref r, rfl, r, _, rfl, .inl (.inl (.inl hr2)), _, _, rfl, rfl, p, _, rfl, hp2, litM _ (by omega) (by omega), fun t H3 t0 t1 hp3 bt3 => ⟨_, rfl, r, _, rfl, .inl (.inl (bt3 _ _ rp hr2)), fun sl nsl => ?_⟩⟩
        have et : t = ((t.toNat : Nat) : Int) := by rw [Int.toNat_of_nonneg t0]
        rw [et, cut_take]
        generalize t.toNat = kk at et
        have s4 := same_upd (o := .lst (xs.take kk)) nsl
        have hsl : upd H3 sl (.lst (xs.take kk)) sl = some (.lst (xs.take kk)) := upd_same
        have dsl : DtAll K (upd H3 sl (.lst (xs.take kk))) (xs.take kk) (notesD (l.take kk)) := by
          have e1 : notesD (l.take kk) = (notesD l).take kk := by
            unfold notesD
            rw [List.map_take]
          rw [e1]
          exact DtAll.same s4 _ (DtAll.keepT (bt3.kt hp2) _ (by rw [← e1]; exact tup_notes _) (DtAll.take kk (DtAll.same s2 _ dr0)))
        generalize upd H3 sl (.lst (xs.take kk)) = H4 at s4 hsl dsl
        obtain ⟨A0, A1⟩ := whole_take (l := l) kk pos
        have lt : (xs.take kk).length = (l.take kk).length := by rw [List.length_take, List.length_take, lx]
        have llt : (l.take kk).length ≤ 60 := by
          rw [List.length_take]
          omega
        generalize l.take kk = lk at dsl A0 A1 lt llt
        generalize xs.take kk = xk at hsl dsl lt
        refine ⟨sl, rfl, ⟨_, .inl (.inl hsl)⟩, fun D2 nD2 => ?_⟩
        refine lc_it (walk_list (K := K) (a := sl) (xs := xk)) (fun i' H' => Same H4 H' ∧ H' D2 = some (.lst ((lk.take i').map fun n => .int n.2))) ⟨same_upd nD2, upd_same⟩ (fun i' H' _ hP => hP.1.seq (.inl (.inl hsl)))
          (fun i' x' H5' H5 hi' hP hY => ?_) (fun H5 hP => ?_)
        · obtain ⟨rfl, hx'⟩ := hY
          obtain ⟨hil, dn⟩ := (DtAll.same hP.1 _ dsl).notes_get hx'
          obtain ⟨na, rfl, qn⟩ := note_inv dn
          refine ⟨na, _, rfl, qn, rfl, _, _, rfl, _, _, rfl, rfl, rfl, _, rfl, _, hP.2, ?_, fun c o ec => ?_, ?_⟩
          · rw [List.length_map, List.length_take]
            exact small1000 (by omega)
          · rw [upd_ne (ne_of_none ec nD2)]
            exact hP.1 c o ec
          · rw [upd_same, take_succ hil, List.map_append]
            rfl
        · obtain ⟨s5, hD2⟩ := hP
          refine ⟨D2, lk.map (·.2), rfl, .inl (.inl ?_), ?_⟩
          · rw [hD2, lt, List.take_length, List.map_map]
            rfl
          have eA : (lk.map (·.2)).sum = wholeN lk := rfl
          rw [eA]
          generalize wholeN lk = Ah at A0 A1
          generalize hWg : wholeN l = Wh at W0 W1 A1 fw
          have s45 := s4.trans s5
          have bt15 : But p H1 H5 := (same_but s2).trans (bt3.trans (same_but s45))
          have bt05 := bt1.trans bt15
          have hM5 := model_but hM bt05 hp nap
          have hp5 := hp3.same s45
          -- some
          refine ⟨.int Wh, rfl, .ref a.m, rfl, a.m, .ref a.df, rfl, hM5.g2, .str z, rfl, a.df, .int f', rfl, hM5.gf ei ef, .int Ah, rfl, .int Ah, rfl, _, _, rfl, rfl, _, _, rfl, .int Wh, rfl, .int Ah, rfl, _, _, rfl, rfl, _, _, rfl, by show 6 ≤ sizeLine; decide, fun l6 nl6 => ?_⟩
          have l6p : l6 ≠ p := hp5.ne nl6
          refine ⟨.ref l6, rfl, .ref p, rfl, .int Wh, rfl, _, _, rfl, rfl, p, _, rfl, hp5.new nl6, litM _ (by omega) (by omega), fun t7 H7 t70 t71 hp7 bt7 => ⟨by show 1 ≤ sizeLine; decide, fun l8 nl8 => ?_⟩⟩
          have hl6 := bt7 _ _ l6p (upd_same (H := H5) (a := l6))
          have s8 := same_upd (o := .lst [V.int t7]) nl8
          have hl8 : upd H7 l8 (.lst [V.int t7]) l8 = some (.lst [V.int t7]) := upd_same
          generalize upd H7 l8 (.lst [V.int t7]) = H8 at s8 hl8
          refine ⟨l6, l8, _, _, rfl, rfl, s8 _ _ hl6, hl8, small_line (by show 6 + 1 ≤ 1000; decide), fun l9 nl9 => ?_⟩
          have hp8 := hp7.same s8
          have l9p : l9 ≠ p := hp8.ne nl9
          refine ⟨.ref p, rfl, p, 7, rfl, hp8.new nl9, litM _ (by decide) (by decide), fun u H10 u0 u1 hp10 bt10 => ?_⟩
          have hl10 := bt10 _ _ l9p (upd_same (H := H8) (a := l9))
          obtain ⟨v, ev, mv⟩ := pick (xs := [V.int 0, V.int Wh, V.int f', V.int Ah, V.int (if Ah - 1 > 0 then Ah - 1 else 0), V.int (if Ah + 1 < Wh then Ah + 1 else Wh)] ++ [V.int t7]) u0 u1
          refine ⟨l9, _, _, v, rfl, rfl, .inl (.inl hl10), ev, ?_⟩
          have hv : ∃ m : Int, v = .int m ∧ 0 ≤ m ∧ m ≤ Wh := by
            simp only [List.cons_append, List.nil_append, List.mem_cons, List.not_mem_nil, or_false] at mv
            rcases mv with rfl | rfl | rfl | rfl | rfl | rfl | rfl
            · exact ⟨0, rfl, Int.le_refl _, W0⟩
            · exact ⟨_, rfl, W0, Int.le_refl _⟩
            · exact ⟨_, rfl, f0, fw⟩
            · exact ⟨_, rfl, A0, A1⟩
            · exact ⟨_, rfl, by split <;> omega, by split <;> omega⟩
            · exact ⟨_, rfl, by split <;> omega, by split <;> omega⟩
            · exact ⟨_, rfl, t70, by omega⟩
          obtain ⟨m, rfl, m0, mW⟩ := hv
          have bt510 : But p H5 H10 := (But.new nl6).trans (bt7.trans ((same_but s8).trans ((But.new nl9).trans bt10)))
          have bt110 := bt15.trans bt510
          have hd10 := bt110 _ _ dp hd1
          have lrep : (G.map V.int).length = (zs.take i).length := by
            rw [List.length_map, List.length_take, lG]
            omega
          refine ⟨.ref d, rfl, .str z, rfl, d, _, rfl, DPut.k (k := Sum.inr z) hd10 (by rw [dct_len lrep, List.length_take]; exact small1000 (by omega)), ?_⟩
          have no : ∀ kv ∈ dct (zs.take i) (G.map V.int), ¬ kv.1 = (Sum.inr z : Key) := dct_nokey nin
          rw [put_new no, ← dct_snoc lrep, ← tkz]
          refine ⟨G ++ [m], _, _, _, _, _, _, _, rfl, fun c o nc ec => ?_, ?_, ?_, by rw [List.length_append, lG]; rfl, fun j l' x' e1 e2 => ?_⟩
          · rw [upd_ne (ne_of_none ec nd)]
            exact bt110 _ _ nc (bt1 c o nc ec)
          · obtain ⟨px, py, pe, pr⟩ := hp10
            exact ⟨px, py, by rw [upd_ne dp.symm]; exact pe, pr⟩
          · rw [upd_same, List.map_append]
            rfl
          · by_cases hj : j < G.length
            · rw [List.getElem?_append_left hj] at e2
              exact rg j l' x' e1 e2
            · rw [List.getElem?_append_right (by omega)] at e2
              have hj0 : j - G.length = 0 := by
                cases hh : j - G.length with
                | zero => rfl
                | succ k => rw [hh] at e2; cases e2
              rw [hj0] at e2
              have em : m = x' := Option.some.inj e2
              have ej : j = i := by omega
              rw [ej, el] at e1
              have el' : l = l' := Option.some.inj e1
              rw [← el', ← em, hWg]
              exact ⟨m0, mW⟩
    · obtain ⟨G, y3, y4, y5, y6, y7, y8, y9, rfl, bt1, hp1, hd1, lG, rg⟩ := hP
      rw [List.length_map, List.take_length] at hd1
      rw [List.length_map] at lG
      exact ⟨.ref d, rfl, q d G H1 bt1 hp1 nd dp hd1 ⟨lG, fun j l x e1 e2 => rg j l x e1 e2⟩⟩
end
end Rc

namespace Rc
open PySem PySem.Spec PyProof.Rows L2 RZ
theorem least_all {E : List Int} (h : E ≠ []) : decide (0 ≤ leastI E) = E.all fun x => decide (0 ≤ x) := by
  obtain ⟨h1, h2⟩ := least_mem h
  by_cases c : 0 ≤ leastI E
  · rw [decide_eq_true c]
    symm
    rw [List.all_eq_true]
    exact fun x hx => decide_eq_true (Int.le_trans c (h2 x hx))
  · rw [decide_eq_false c]
    symm
    rw [Bool.eq_false_iff]
    intro e
    rw [List.all_eq_true] at e
    exact c (of_decide_eq_true (e _ h1))
def But2 (p q : Addr) (H H' : Hp) : Prop := ∀ c o, c ≠ p → c ≠ q → H c = some o → H' c = some o
section
variable {P : Program} {w : World} {K : PySem.W.Frag} {mg : Str → Option Value} {base : Heap}
/-! ### _law_ends -/
abbrev sLEn : Stmt := topS 61
abbrev nLEn : List Str := ["_law_model_here", "_law_shares_here", "_law_twin", "_law_owner"]
theorem scLEn : FnScope nLEn ["_law_model_here", "_law_shares_here"] (defScope sLEn) := ⟨rfl, rfl, rfl, by decide +kernel, rfl, by decide +kernel, by decide +kernel⟩
def spLEn (K : PySem.W.Frag) : Sp := fun vs H Q _ => ∃ (a : MdA) (D : Md) (zs : List Str) (d : Addr) (G : List Int), vs = [.ref a.m, .ref d] ∧ ModelAt K H zs a D ∧ Gs zs D ∧ H d = some (.dK (dct zs (G.map V.int))) ∧ G.length = zs.length ∧ ∀ e H', Same H H' → H e = none → H' e = some (.dK (dct zs ((endsM (bkOf zs D) G).map V.int))) → Q (.ref e) H'
theorem ok_len {f f1 f2 : Addr} {fd fd1 fd2 : FuncData} (F : Fun K "_law_ends" "_law_ends" sLEn f fd) (B3 : Blt3 mg) (CP : Has P w K mg base 2 "_law_copied" ["_law_model_here"] (spLCp K) f1 fd1) (LC : Has P w K mg base 2 "_law_cash" ["_law_model_here", "_law_owner"] (spLCs K) f2 fd2) :
    FnOk P w K mg base CX0 3 f fd ["_law_model_here", "_law_shares_here"] (spLEn K) := by
  refine F.ok scLEn (fun vs H Q E h => ?_) (fun cdv Ar outer s H vs Q E hr h => ?_)
  · obtain ⟨_, _, _, _, _, rfl, _⟩ := h
    rfl
  · obtain ⟨a, D, zs, d, G, rfl, hM, g, hd, lG, q⟩ := h
    have hu := hu_of hr
    refine ⟨_, pss_cons (ps_set (i := 2) scLEn.nd rfl (.inr rfl) (pe_call CP.ok hr (by rfl) CP.g CP.kp CP.b .nil pass0 (pa_cons (pv 0) pa_nil)))
      (pss_cons (ps_for PassesOwn.never rfl (pi_list (pe_dget hu (pv 0) pe_str (fun _ _ => rfl))) (pg_name (i := 3) scLEn.nd rfl (.inl rfl)) (pss_one (ps_dput hu (pe_dget hu (pv 2) pe_str (fun _ _ => rfl)) (pv 3) (pe_dget hu (pv 1) (pv 3) (fun _ _ => rfl)) rfl)))
      (pss_one (ps_ret (pe_callTy (call_dictP rfl) (by rfl) B3.dict (by decide +kernel) (pa_cons (pe_lc (own := [("_law_owner", 3)]) (g := gName 3) (tt := tYes) rfl scLEn.nd (pi_list (pe_dget hu (pv 0) pe_str (fun _ _ => rfl))) (blkOk_by (N := nLEn) (sc := defScope sLEn) (own := [("_law_owner", 3)]) (by decide +kernel))
        (fun _ _ _ _ _ => pg_name (i := 3) scLEn.nd rfl (.inl rfl) (hf := .inr rfl)) (fun _ _ _ _ _ => pts_nil)
        (fun _ _ _ _ _ => pe_tup (pa_cons (pv 3) (pa_cons (pe_call LC.ok hr (by rfl) LC.g LC.kp LC.b .nil pass0 (pa_cons (pv 2) (pa_cons (pv 3) pa_nil))) pa_nil)))) pa_nil))))), ?_⟩
    have nz := g.nz
    have lz := nz.n1
    refine ⟨.ref a.m, rfl, a, D, zs, rfl, hM, nz, fun c H1 s1 nc hC1 => ?_⟩
    have hM1 := model_same hM s1
    refine ⟨.ref a.m, rfl, a.m, .ref a.lo, rfl, hM1.g0, a.lo, rfl, ⟨_, .inl (.inl hM1.ho)⟩, ?_⟩
    refine for_it (walk_list (K := K) (a := a.lo) (xs := zs.map V.str)) (fun i σ H' => ∃ E y3, σ = [some (.ref a.m), some (.ref d), some (.ref c.m), y3] ∧ Same H H' ∧ ModelAt K H' zs c E ∧ E.given = D.given ∧ E.notes = D.notes ∧ ∀ j, j < i → E.fallen[j]? = G[j]?)
      ⟨D, _, rfl, s1, hC1, rfl, rfl, fun j hj => absurd hj (Nat.not_lt_zero _)⟩ (fun i σ H' _ hP => ?_) (fun i x σ H2' H2 hi hP hY => ?_) (fun σ H2 hP => ?_)
    · obtain ⟨_, _, _, s2, _⟩ := hP
      exact .inl (.inl (s2 _ _ hM.ho))
    · obtain ⟨rfl, hx⟩ := hY
      obtain ⟨E, y3, rfl, s2, hC, e1, e2, e3⟩ := hP
      rw [List.length_map] at hi
      have ei := List.getElem?_eq_getElem hi
      have exx : x = .str zs[i] := by
        rw [List.getElem?_map, ei] at hx
        exact (Option.some.inj hx).symm
      subst exx
      generalize zs[i] = z at ei
      have hiG : i < G.length := by omega
      have hiE : i < E.fallen.length := by rw [hC.lf]; exact hi
      refine ⟨.ref d, rfl, .str z, rfl, d, .int G[i], rfl, dget_rd (.inl (s2 _ _ hd)) nz.nd ei (by rw [List.getElem?_map, List.getElem?_eq_getElem hiG]; rfl), .ref c.m, rfl, c.m, .ref c.df, rfl, hC.g2, .str z, rfl, c.df, _, rfl, DPut.k (k := Sum.inr z) hC.hf (by rw [dct_len (by rw [List.length_map, hC.lf])]; exact small1000 (by omega)), ?_⟩
      rw [dct_put hC.zn ei (by rw [List.length_map]; exact hiE), map_set V.int]
      refine ⟨{ E with fallen := E.fallen.set i G[i] }, _, rfl, fun x o e => ?_, hC.setF nz.n0 G[i], e1, e2, fun j hj => ?_⟩
      · rw [upd_ne (ne_of_none e (nc _ (.inr (.inr (.inr (.inl rfl))))))]
        exact s2 x o e
      · show (E.fallen.set i G[i])[j]? = _
        by_cases hji : j = i
        · subst hji
          rw [List.getElem?_set_self hiE, List.getElem?_eq_getElem hiG]
        · rw [List.getElem?_set_ne (fun z => hji z.symm)]
          exact e3 j (by omega)
    · obtain ⟨E, y3, rfl, s2, hC, e1, e2, e3⟩ := hP
      rw [List.length_map] at e3
      have eE : E = withF D G := by
        refine md_ext e1 (List.ext_getElem? fun j => ?_) e2
        by_cases hj : j < zs.length
        · exact e3 j hj
        · rw [List.getElem?_eq_none (by rw [hC.lf]; omega)]
          show none = G[j]?
          rw [List.getElem?_eq_none (by omega)]
      subst eE
      have hM2 := model_same hM s2
      refine ⟨.ref a.m, rfl, a.m, .ref a.lo, rfl, hM2.g0, a.lo, rfl, ⟨_, .inl (.inl hM2.ho)⟩, fun D0 nD0 => ?_⟩
      have le : (endsM (bkOf zs D) G).length = zs.length := endsL_len (bkOf zs D) G _ []
      have at_ : ∀ (i : Nat) (z : Str), zs[i]? = some z → (endsM (bkOf zs D) G)[i]? = some (cashD (withF D G) i z) := fun i z ei => by
        rw [endsM_at g.ok lG ei, ← cash_eq zs]
        rfl
      generalize endsM (bkOf zs D) G = EE at q le at_
      have rowsE : RowsOk (withF D G) := g.rows
      refine lc_it (walk_list (K := K) (a := a.lo) (xs := zs.map V.str)) (fun i H' => Same H2 H' ∧ ∃ ps, H' D0 = some (.lst (List.map V.ref ps)) ∧ PairsAt K H' ps (dct (zs.take i) ((EE.take i).map V.int))) ⟨same_upd nD0, [], upd_same, .nil⟩ (fun i H' _ hP => .inl (.inl (hP.1 _ _ hM2.ho)))
        (fun i x H3' H3 hi hP hY => ?_) (fun H3 hP => ?_)
      · obtain ⟨rfl, hx⟩ := hY
        obtain ⟨sm, ps, hD, hps⟩ := hP
        rw [List.length_map] at hi
        have ei := List.getElem?_eq_getElem hi
        have exx : x = .str zs[i] := by
          rw [List.getElem?_map, ei] at hx
          exact (Option.some.inj hx).symm
        subst exx
        have hiE : i < EE.length := by omega
        have ev : EE[i] = cashD (withF D G) i zs[i] := by
          have := at_ i _ ei
          rw [List.getElem?_eq_getElem hiE] at this
          exact Option.some.inj this
        refine ⟨rfl, _, rfl, .ref c.m, rfl, _, rfl, c, _, zs, zs[i], i, rfl, model_same hC sm, ei, rowsE, fun H4 s4 => ⟨by show 2 ≤ sizeLine; decide, fun t nt => ?_⟩⟩
        have hD4 := s4 _ _ hD
        refine ⟨_, by rw [upd_ne (ne_of_none hD4 nt)]; exact hD4, ?_, ?_⟩
        · rw [List.length_map, Paired.len hps]
          unfold dct
          rw [List.length_map, List.length_zip, List.length_take]
          exact small1000 (by omega)
        · obtain ⟨a1, a2, a3, _⟩ := pairs_step (z := zs[i]) (v := .int (cashD (withF D G) i zs[i])) nD0 (sm.trans s4) hD4 (pairs_kt (kt_same s4) hps) (by rw [List.length_map, List.length_take, List.length_take, le]) nt
          refine ⟨a1, ps ++ [t], a2, ?_⟩
          rw [take_succ hi, take_succ hiE, List.map_append, ev]
          exact a3
      · obtain ⟨sm, ps, hD, hps⟩ := hP
        rw [List.length_map, List.take_length, ← le, List.take_length] at hps
        refine ⟨D0, ps, _, rfl, .inl (.inl hD), hps, fun e ne => ?_⟩
        rw [merge_new nz.nd]
        exact q e _ (s2.trans (sm.trans (same_upd ne))) ((s2.trans sm).free ne) upd_same
/-! ### _law_walked -/
abbrev sLWk : Stmt := topS 62
abbrev nLWk : List Str := ["_law_pot_here", "_law_model_here", "_law_most_here", "_law_time", "_law_step_here"]
theorem scLWk : FnScope nLWk ["_law_pot_here", "_law_model_here", "_law_most_here"] (defScope sLWk) := ⟨rfl, rfl, rfl, by decide +kernel, rfl, by decide +kernel, by decide +kernel⟩
def spLWk (K : PySem.W.Frag) : Sp := fun vs H Q _ => ∃ (p : Addr) (a : MdA) (D : Md) (zs : List Str) (n : Int), vs = [.ref p, .ref a.m, .int n] ∧ 1 ≤ n ∧ n ≤ 50 ∧ Pot H p ∧ ModelAt K H zs a D ∧ ¬ a.Has p ∧ Gs zs D ∧ Gb D ∧
  ∀ D' H', ModelAt K H' zs a D' → Gs zs D' → Gb D' → D'.given = D.given → D'.notes = D.notes → Pot H' p → But2 p a.df H H' → Q .non H'
theorem ok_lwk {f fT f1 f2 : Addr} {fd fdT fd1 fd2 : FuncData} (F : Fun K "_law_walked" "_law_walked" sLWk f fd) (B2 : Blt2 mg) (TK : HasTake P w K mg base fT fdT) (SP : Has P w K mg base 6 "_law_step" ["_law_pot_here", "_law_model_here"] (spLSp K) f1 fd1)
    (WN : Has P w K mg base 6 "_law_went" ["_law_model_here", "_law_step_here"] (spLWn K) f2 fd2) : FnOk P w K mg base CX0 7 f fd ["_law_pot_here", "_law_model_here", "_law_most_here"] (spLWk K) := by
  refine F.ok scLWk (fun vs H Q E h => ?_) (fun cdv Ar outer s H vs Q E hr h => ?_)
  · obtain ⟨_, _, _, _, _, rfl, _⟩ := h
    rfl
  · obtain ⟨p, a, D, zs, n, rfl, n1, n50, hp, hM, nap, g, gb, q⟩ := h
    have hr1 := hr.mono (show 1 ≤ 6 by decide)
    refine ⟨_, pss_one (ps_for PassesOwn.never rfl (pi_range1 (by rfl) B2.range (pa_cons (pe_call TK.ok hr1 (by rfl) TK.g TK.kp TK.b .nil pass0 (pa_cons (pv 0) (pa_cons (pv 2) pa_nil))) pa_nil)) (pg_name (i := 3) scLWk.nd rfl (.inl rfl))
        (pss_cons (ps_set (i := 4) scLWk.nd rfl (.inl rfl) (pe_call SP.ok hr (by rfl) SP.g SP.kp SP.b .nil pass0 (pa_cons (pv 0) (pa_cons (pv 1) pa_nil))))
        (pss_one (ps_if (pt_cmpR op_notN (pv 4) pe_non (nomark _)) (pss_one (ps_expr (pe_call WN.ok hr (by rfl) WN.g WN.kp WN.b .nil pass0 (pa_cons (pv 1) (pa_cons (pv 4) pa_nil))))) pss_nil)))), ?_⟩
    have b300 : (50 : Int) < 2 ^ 300 := by decide
    have adp : p ≠ a.df := fun c => nap (by rw [c]; exact .inr (.inr (.inr (.inl rfl))))
    refine ⟨.ref p, rfl, .int n, rfl, p, n, rfl, hp, litM _ (by omega) (by omega), fun t H1 t0 t1 hp1 bt1 => ?_⟩
    refine ⟨t, rfl, by omega, by omega, ?_⟩
    refine for_it walk_range (fun i σ H' => ∃ D' y3 y4, σ = [some (.ref p), some (.ref a.m), some (.int n), y3, y4] ∧ ModelAt K H' zs a D' ∧ Gs zs D' ∧ Gb D' ∧ D'.given = D.given ∧ D'.notes = D.notes ∧ Pot H' p ∧ But2 p a.df H H') ⟨D, _, _, rfl, model_but hM bt1 hp nap, g, gb, rfl, rfl, hp1, fun c o n1 _ e => bt1 c o n1 e⟩ (fun _ _ _ _ _ => trivial) (fun i x σ H2' H2 hi hP hY => ?_) (fun σ H2 hP => ?_)
    · obtain ⟨rfl, rfl⟩ := hY
      obtain ⟨D', y3, y4, rfl, hM2, g2, gb2, e1, e2, hp2, b2⟩ := hP
      refine ⟨.ref p, rfl, .ref a.m, rfl, p, a, D', zs, rfl, hp2, hM2, g2, gb2, fun _ H3 s3 => ?_, fun T wd z m r H3 nT bt3 hp3 hT cd => ?_⟩
      · refine ⟨.non, rfl, rfl, _, rfl, ?_⟩
        rw [decide_eq_true rfl]
        exact iteF ⟨D', _, _, rfl, model_same hM2 s3, g2, gb2, e1, e2, hp2.same s3, fun c o n1 n2 e => s3 _ _ (b2 c o n1 n2 e)⟩
      · refine ⟨.ref T, rfl, rfl, _, rfl, ?_⟩
        rw [decide_eq_false (fun c => by cases c)]
        have hM3 := model_but hM2 bt3 hp2 nap
        refine iteT ⟨.ref a.m, rfl, .ref T, rfl, a, D', zs, T, wd, z, m, r, rfl, hM3, g2, .inl (.inl hT), cd, fun H4 b4 hM4 => ?_⟩
        obtain ⟨k1, k2, _⟩ := fallAll_keeps zs m r D'
        exact ⟨_, _, _, rfl, hM4, cd.g, cd.gb, k1.trans e1, k2.trans e2, hp3.but b4 adp, fun c o n1 n2 e => b4 _ _ n2 (bt3 _ _ n1 (b2 c o n1 n2 e))⟩
    · obtain ⟨D', y3, y4, rfl, hM2, g2, gb2, e1, e2, hp2, b2⟩ := hP
      exact q D' H2 hM2 g2 gb2 e1 e2 hp2 b2
end
end Rc

namespace Rc
open PySem PySem.Spec PyProof.Rows L2 RZ
theorem endsM_eq {zs : List Str} {D E : Md} (h1 : E.given = D.given) (h2 : E.notes = D.notes) (G : List Int) : endsM (bkOf zs E) G = endsM (bkOf zs D) G := by
  show (List.range zs.length).map (fun j => E.given.getD j 0 - G.getD j 0 + (((E.notes.zip G).take zs.length).map fun p => sumTo (zs.getD j Str.empty) (goneN p.1 p.2)).sum + sumTo (zs.getD j Str.empty) []) = (List.range zs.length).map (fun j => D.given.getD j 0 - G.getD j 0 + (((D.notes.zip G).take zs.length).map fun p => sumTo (zs.getD j Str.empty) (goneN p.1 p.2)).sum + sumTo (zs.getD j Str.empty) [])
  rw [h1, h2]
theorem vec_eq {zs : List Str} {D E : Md} (h2 : E.notes = D.notes) {G : List Int} (v : VecOk (bkOf zs D) G) : VecOk (bkOf zs E) G := ⟨v.len, fun j l x e1 e2 => v.rg j l x (by
  have e1' : E.notes[j]? = some l := e1
  rw [h2] at e1'
  exact e1') e2⟩
section
variable {P : Program} {w : World} {K : PySem.W.Frag} {mg : Str → Option Value} {base : Heap}
/-! ### _law_begun -/
abbrev sLBg : Stmt := topS 63
abbrev nLBg : List Str := ["_law_pot_here", "_law_persons", "_law_many", "_law_size", "_law_model_here", "_law_deeds_here"]
theorem scLBg : FnScope nLBg ["_law_pot_here"] (defScope sLBg) := ⟨rfl, rfl, rfl, by decide +kernel, rfl, by decide +kernel, by decide +kernel⟩
def spLBg (K : PySem.W.Frag) (C : Addr) : Sp := fun vs H Q _ => ∃ (p : Addr), vs = [.ref p] ∧ Pot H p ∧ ∀ zs a ds b T H', Pot H' p → But p H H' → H' T = some (.tup [.ref (MdA.m a), .ref b]) → ModelAt K H' zs a (mdAt zs ds) → BookAt K C H' b (bkOf zs (mdAt zs ds)) → NamesOk zs → (∀ d ∈ ds, d.Ok zs) → ds.length ≤ 60 → (∀ c, a.Has c → H c = none) → Q (.ref T) H'
theorem two_at (x y : Int) (b : Bool) : atI [V.int x, V.int y] (if b = true then 1 else 0) = some (.int (if b = true then y else x)) := by
  cases b
  · exact atI_nat (j := 0) rfl
  · exact atI_nat (j := 1) rfl
theorem ok_lbg {f fT f1 f2 fI C : Addr} {fd fdT fd1 fd2 fdI : FuncData} (F : Fun K "_law_begun" "_law_begun" sLBg f fd) (B : Blt mg) (TK : HasTake P w K mg base fT fdT) (DR : Has P w K mg base 4 "_law_drawn" ["_law_pot_here", "_law_persons", "_law_many", "_law_size"] (spLDr K) f1 fd1) (BK : Has P w K mg base 7 "_law_booked" ["_law_tome", "_law_deeds_here"] (spLBk K C) f2 fd2)
    (M : Mk K C fI) (gC : mg "Book" = some (.ref C)) (GI : FnOk P w K mg base CX0 3 fI fdI ["self", "persons"] (spInit K C)) (bI : Binds K fdI ["self", "persons"] []) : FnOk P w K mg base CX0 8 f fd ["_law_pot_here"] (spLBg K C) := by
  refine F.ok scLBg (fun vs H Q E h => ?_) (fun cdv Ar outer s H vs Q E hr h => ?_)
  · obtain ⟨_, rfl, _⟩ := h
    rfl
  · obtain ⟨p, rfl, hp, q⟩ := h
    have hu := hu_of hr
    have hr1 := hr.mono (show 1 ≤ 7 by decide)
    have hr4 := hr.mono (show 4 ≤ 7 by decide)
    refine ⟨_, pss_cons (ps_par (i := 1) (j := 2) rfl scLBg.nd rfl rfl (by decide) rfl rfl (pa_cons
        (pe_ix ix_list (pe_lst (pa_cons (pe_op op_add pe_int (pe_call TK.ok hr1 (by rfl) TK.g TK.kp TK.b .nil pass0 (pa_cons (pv 0) (pa_cons pe_int pa_nil)))) (pa_cons pe_int pa_nil)))
          (pe_callTy call_int1 (by rfl) B.int (by decide +kernel) (pa_cons (pe_cmpR op_eq (pe_call TK.ok hr1 (by rfl) TK.g TK.kp TK.b .nil pass0 (pa_cons (pv 0) (pa_cons pe_int pa_nil))) pe_int (nomark _)) pa_nil)) (fun _ _ => rfl))
        (pa_cons (pe_call TK.ok hr1 (by rfl) TK.g TK.kp TK.b .nil pass0 (pa_cons (pv 0) (pa_cons pe_int pa_nil))) pa_nil)) (by rfl))
      (pss_cons (ps_set (i := 3) scLBg.nd rfl (.inl rfl) (pe_call TK.ok hr1 (by rfl) TK.g TK.kp TK.b .nil pass0 (pa_cons (pv 0) (pa_cons pe_int pa_nil))))
      (pss_cons (ps_asg (pe_call DR.ok hr4 (by rfl) DR.g DR.kp DR.b .nil pass0 (pa_cons (pv 0) (pa_cons (pv 1) (pa_cons
          (pe_ix ix_list (pe_lst (pa_cons (pe_call TK.ok hr1 (by rfl) TK.g TK.kp TK.b .nil pass0 (pa_cons (pv 0) (pa_cons pe_int pa_nil))) (pa_cons pe_int pa_nil)))
            (pe_callTy call_int1 (by rfl) B.int (by decide +kernel) (pa_cons (pe_cmpR op_eq (pv 2) pe_int (nomark _)) pa_nil)) (fun _ _ => rfl)) (pa_cons (pv 3) pa_nil))))) (pg_tup rfl (pgs_cons (pg_name (i := 4) scLBg.nd rfl (.inl rfl)) (pgs_cons (pg_name (i := 5) scLBg.nd rfl (.inl rfl)) pgs_nil))))
      (pss_one (ps_ret (pe_tup (pa_cons (pv 4) (pa_cons (pe_call BK.ok hr (by rfl) BK.g BK.kp BK.b .nil pass0 (pa_cons (pe_make M GI hr4 (by rfl) gC bI .nil pass0 (pa_cons (pe_dget hu (pv 4) pe_str (fun _ _ => rfl)) pa_nil)) (pa_cons (pv 5) pa_nil))) pa_nil))))))), ?_⟩
    refine ⟨.ref p, rfl, p, 5, rfl, hp, litM _ (by decide) (by decide), fun t1 H1 t10 t11 hp1 bt1 => ⟨1, t1, rfl, rfl, by show 2 ≤ sizeLine; decide, fun l1 nl1 => ?_⟩⟩
    have l1p : l1 ≠ p := hp1.ne nl1
    refine ⟨.ref p, rfl, p, 8, rfl, hp1.new nl1, litM _ (by decide) (by decide), fun t2 H2 t20 t21 hp2 bt2 => ⟨rfl, .inr ⟨_, rfl, ?_⟩⟩⟩
    have hl2 := bt2 _ _ l1p (upd_same (H := H1) (a := l1))
    generalize decide (V.int t2 = V.int 7) = b1
    refine ⟨l1, _, _, _, rfl, rfl, .inl (.inl hl2), two_at (1 + t1) 12 b1, ?_⟩
    obtain ⟨n, en, n1, n12⟩ : ∃ n : Nat, (if b1 = true then (12 : Int) else 1 + t1) = (n : Int) ∧ 1 ≤ n ∧ n ≤ 12 := by
      cases b1
      · exact ⟨(1 + t1).toNat, by rw [Int.toNat_of_nonneg (by omega)]; rfl, by omega, by omega⟩
      · exact ⟨12, rfl, by decide, by decide⟩
    rw [en]
    refine ⟨.ref p, rfl, p, 8, rfl, hp2, litM _ (by decide) (by decide), fun t3 H3 t30 t31 hp3 bt3 => ⟨_, _, rfl, ?_⟩⟩
    refine ⟨.ref p, rfl, p, 2, rfl, hp3, litM _ (by decide) (by decide), fun sz H4 sz0 sz1 hp4 bt4 => ?_⟩
    refine ⟨.ref p, rfl, .int (n : Nat), rfl, .ref p, rfl, p, 13, rfl, hp4, litM _ (by decide) (by decide), fun t5 H5 t50 t51 hp5 bt5 => ⟨by show 2 ≤ sizeLine; decide, fun l5 nl5 => ?_⟩⟩
    refine ⟨.int t3, rfl, rfl, .inr ⟨_, rfl, ?_⟩⟩
    generalize decide (V.int t3 = V.int 7) = b2
    refine ⟨l5, _, _, _, rfl, rfl, .inl (.inl upd_same), two_at t5 60 b2, ?_⟩
    obtain ⟨m, em, m60⟩ : ∃ m : Nat, (if b2 = true then (60 : Int) else t5) = (m : Int) ∧ m ≤ 60 := by
      cases b2
      · exact ⟨t5.toNat, by rw [Int.toNat_of_nonneg t50]; rfl, by omega⟩
      · exact ⟨60, rfl, by decide⟩
    rw [em]
    have s6 := same_upd (o := .lst [V.int t5, V.int 60]) nl5
    have hp6 := hp5.new nl5 (o := .lst [V.int t5, V.int 60])
    generalize upd H5 l5 (.lst [V.int t5, V.int 60]) = H6 at s6 hp6
    have bt06 : But p H H6 := bt1.trans ((But.new nl1).trans (bt2.trans (bt3.trans (bt4.trans (bt5.trans (same_but s6))))))
    refine ⟨.int sz, rfl, p, n, m, sz, rfl, by omega, hp6, n1, n12, m60, fun T zs a dl xs ds H7 hp7 bt7 hT hM hdl dd nz lzs lds ods naH dlp => ?_⟩
    refine ⟨T, _, rfl, .inl (.inl hT), rfl, _, _, rfl, _, _, rfl, rfl, ?_⟩
    have bt07 := bt06.trans bt7
    have naH0 : ∀ c, a.Has c → H c = none := fun c hc => by
      cases e : H c with
      | none => rfl
      | some o =>
        have hcp : c ≠ p := fun z => by
          obtain ⟨px, py, pe, _⟩ := hp6
          have := naH c hc
          rw [z, pe] at this
          cases this
        have := bt06 c o hcp e
        rw [naH c hc] at this
        cases this
    refine ⟨.ref a.m, rfl, .ref a.m, rfl, a.m, .ref a.lo, rfl, hM.g0, fun x dy nx ndy nxy => ?_⟩
    have s9 : Same H7 (upd (upd H7 dy (.own x)) x (.ins C dy [])) := fun c o e => by
      rw [upd_ne (ne_of_none e nx), upd_ne (ne_of_none e ndy)]
      exact e
    refine ⟨x, dy, a.lo, zs, rfl, upd_same, s9 _ _ hM.ho, nz, fun H10 b10 bk => ⟨rfl, ?_⟩⟩
    have s810 : Same H7 H10 := fun c o e => b10 c o (ne_of_none e nx) (s9 c o e)
    have b0 : BookAt K C H10 x (bkOf zs (mdAt zs [])) := bk
    have ok0 := (Gd.new (zs := zs)).ok nz List.length_replicate List.length_replicate
    have my0 : manyM (bkOf zs (mdAt zs [])) ≤ 0 := (Gd.new (zs := zs)).my
    refine ⟨.ref dl, rfl, x, _, dl, xs, ds, rfl, b0, ok0, s810 _ _ hdl, DtAll.same s810 _ dd, ods, by omega, fun b' H11 s11 hb11 => ⟨by show 2 ≤ sizeLine; decide, fun T' nT => ?_⟩⟩
    have eb : List.foldl stepM (bkOf zs (mdAt zs [])) ds = bkOf zs (mdAt zs ds) := fold_eq zs ds (newMd zs.length)
    rw [eb] at hb11
    have s511 := s810.trans s11
    have sT := same_upd (o := .tup [V.ref a.m, V.ref b']) nT
    have s5T := s511.trans sT
    exact q zs a ds b' T' _ (hp7.same s5T) (bt07.trans (same_but s5T)) upd_same (model_same hM s5T) (book_same hb11 sT) nz ods (by omega) naH0
end
end Rc

namespace Rc
open PySem PySem.Spec PyProof.Rows L2 RZ
theorem moreK_zip : ∀ (zs : List Str) (G : List Int), moreK (zs.zip G) = dct zs (G.map V.int)
  | [], _ => rfl
  | _ :: _, [] => rfl
  | z :: zs, x :: G => by
    show (Sum.inr z, V.int x) :: moreK (zs.zip G) = (Sum.inr z, V.int x) :: dct zs (G.map V.int)
    rw [moreK_zip zs G]
theorem moreAt_zip : ∀ {zs : List Str} {G : List Int} {i : Nat} {z : Str} {x : Int}, zs.Nodup → zs[i]? = some z → G[i]? = some x → moreAt (zs.zip G) z = x
  | [], _, _, _, _, _, h, _ => by cases h
  | _ :: _, [], _, _, _, _, _, h => by cases h
  | y :: zs, g :: G, 0, z, x, nd, h1, h2 => by
    have e1 : y = z := Option.some.inj h1
    have e2 : g = x := Option.some.inj h2
    unfold moreAt
    rw [List.zip_cons_cons, List.find?_cons_of_pos (by simp [e1])]
    exact e2
  | y :: zs, g :: G, i + 1, z, x, nd, h1, h2 => by
    obtain ⟨n1, n2⟩ := List.nodup_cons.mp nd
    have h1' : zs[i]? = some z := by simpa using h1
    have ih := moreAt_zip (i := i) n2 h1' (by simpa using h2 : G[i]? = some x)
    have hne : ¬ y = z := fun c => n1 (by rw [c]; exact List.mem_of_getElem? h1')
    unfold moreAt at ih ⊢
    rw [List.zip_cons_cons, List.find?_cons_of_neg (by simp [hne])]
    exact ih
/-- what has fallen, let fall at once -/
theorem fall_all {zs : List Str} {D E : Md} (g : Gs zs D) (zf : D.fallen = zeros zs.length) (g' : Gs zs E) (gb' : Gb E) (h1 : E.given = D.given) (h2 : E.notes = D.notes) : fallM (bkOf zs D) (zs.zip E.fallen) = bkOf zs E ∧ FallOk (bkOf zs D) (zs.zip E.fallen) := by
  have ez : ∀ i, i < zs.length → D.fallen[i]? = some 0 := fun i hi => by
    rw [zf]
    show (List.replicate zs.length (0 : Int))[i]? = _
    rw [List.getElem?_replicate, if_pos hi]
  have e : fallM (bkOf zs D) (zs.zip E.fallen) = bkOf zs E := by
    have e1 : ((zs.zip D.fallen).map fun p => p.2 + moreAt (zs.zip E.fallen) p.1) = E.fallen := by
      refine List.ext_getElem? fun i => ?_
      rw [List.getElem?_map]
      by_cases hi : i < zs.length
      · have hE : i < E.fallen.length := by rw [g'.lf]; exact hi
        rw [List.getElem?_zip_eq_some (z := (zs[i], 0)) |>.mpr ⟨List.getElem?_eq_getElem hi, ez i hi⟩, List.getElem?_eq_getElem hE]
        show some (0 + moreAt (zs.zip E.fallen) zs[i]) = _
        rw [moreAt_zip g.nz.nd (List.getElem?_eq_getElem hi) (List.getElem?_eq_getElem hE), Int.zero_add]
      · rw [List.getElem?_eq_none (by rw [List.length_zip]; omega), List.getElem?_eq_none (by rw [g'.lf]; omega)]
        rfl
    show Bk.mk zs D.given D.notes ((zs.zip D.fallen).map fun p => p.2 + moreAt (zs.zip E.fallen) p.1) = Bk.mk zs E.given E.notes E.fallen
    rw [e1, h1, h2]
  refine ⟨e, fun p hp => ?_, fun j z ej => ?_⟩
  · obtain ⟨i, hi, ep⟩ := List.getElem_of_mem hp
    have hi1 : i < zs.length := by
      rw [List.length_zip] at hi
      omega
    have hE : i < E.fallen.length := by rw [g'.lf]; exact hi1
    have hN : i < D.notes.length := by rw [g.ln]; exact hi1
    rw [List.getElem_zip] at ep
    subst ep
    have hw := gb'.fw i D.notes[i] E.fallen[i] (by rw [h2]; exact List.getElem?_eq_getElem hN) (List.getElem?_eq_getElem hE)
    exact ⟨i, D.notes[i], 0, List.getElem?_eq_getElem hi1, List.getElem?_eq_getElem hN, ez i hi1, g'.fl _ (List.getElem_mem hE), by omega⟩
  · rw [e]
    exact g'.cs j z ej
theorem covered_all {zs : List Str} {E : Md} (g : Gs zs E) : ((endsM (bkOf zs E) E.fallen).all fun x => decide (0 ≤ x)) = true := by
  rw [List.all_eq_true]
  intro x hx
  obtain ⟨i, hi, e⟩ := List.getElem_of_mem hx
  have hi' : i < zs.length := by
    have := endsL_len (bkOf zs E) E.fallen (bkOf zs E).names.length []
    unfold endsM at hi
    rw [this] at hi
    exact hi
  have ee := endsM_at (M := bkOf zs E) (G := E.fallen) g.ok g.lf (List.getElem?_eq_getElem hi' : zs[i]? = some zs[i])
  rw [List.getElem?_eq_getElem hi] at ee
  have := Option.some.inj ee
  rw [← e, this]
  exact decide_eq_true (g.cs i _ (List.getElem?_eq_getElem hi'))
theorem fall_vec {zs : List Str} {E : Md} (g : Gs zs E) (gb : Gb E) : VecOk (bkOf zs E) E.fallen := ⟨g.lf, fun j l x e1 e2 => ⟨g.fl x (List.mem_of_getElem? e2), gb.fw j l x e1 e2⟩⟩
end Rc

namespace Rc
open PySem PySem.Spec PyProof.Rows L2
/-! ### what can be shown -/
structure ShowOk (d : PyData) : Prop where
  sh : d.showable = true
  tp : DictTop d
  dp : d.depth ≤ 20
  ft : (∃ i, d = .int i) ∨ d.shown.length ≤ sizeLine
theorem NiceD.show {d : PyData} {n : Nat} (h : NiceD d n) (hn : n ≤ 8000) : ShowOk d := ⟨h.sh, .inl h.nd, by have := h.dp; omega, nice_fits h hn⟩
theorem nice_text {z : Str} {n : Nat} (hc : ∀ c ∈ z.cps.toList, c < 128) (hl : z.length ≤ n) : NiceD (.str z) n := by
  refine ⟨by simp only [PyData.showable], ?_, by simp only [PyData.hasDict], by simp only [PyData.depth]; omega, ?_, ?_⟩
  · simp only [PyData.leavesShort, List.all_eq_true, decide_eq_true_eq]
    exact fun c h => Nat.lt_trans (hc c h) (by decide)
  · simp only [PyData.bulk]
    exact hl
  · simp only [PyData.canLay0]
    show z.cps.all (fun c => decide (c < 0x110000)) = true
    rw [← Array.all_toList, List.all_eq_true]
    exact fun c h => decide_eq_true (Nat.lt_trans (hc c h) (by decide))
section
variable {X : Cx}
/-- repr, whatever is being handled -/
theorem call_reprU {K : PySem.W.Frag} (eK : X.K = K) (hu : X.A.units + 64 < cLine) (hg : X.A.guards = some []) : CallR X (.builtin "repr") (rRepr K) := by
  subst eK
  intro pins s σ H xs us Q I r h
  obtain ⟨v, d, rfl, hd, hs, ht, hp, hz, q⟩ := h
  obtain ⟨u, rfl, ru⟩ := vals1 r
  obtain ⟨as, rd, nsm⟩ := Dt.reads I d v u hd ru
  have far : ∀ a, u = .ref a → d.shown.length ≤ sizeLine → wpAny (model X.prog X.w) X.A (call (.builtin "repr") [u]) (EP X pins σ Q) X.xe s := by
    rintro a rfl fit
    refine repr_of_reads' rd hs (fun hx => ?_) hg (by omega) (fun _ _ e => e) (fun h' t tk hk => ⟨.str _, H, I.kept hk, ⟨t, rfl⟩, q⟩) fit
    rcases ht with z | z
    · rw [z] at hx; cases hx
    · exact nsm z
  cases hd with
  | non => cases ru; exact PySem.P.repr_of_none ⟨.str _, H, I.tok _, ⟨_, rfl⟩, q⟩
  | bl b => cases ru; exact PySem.P.repr_of_bool ⟨.str _, H, I.tok _, ⟨_, rfl⟩, q⟩
  | int i =>
    obtain ⟨t, rfl⟩ := ru
    exact PySem.P.repr_of_int (by simpa [PyData.showable] using hs) ⟨.str _, H, I.tok _, ⟨_, rfl⟩, by simpa [PyData.shown] using q⟩
  | str x =>
    obtain ⟨t, rfl⟩ := ru
    exact PySem.P.repr_of_str ⟨.str _, H, I.tok _, ⟨_, rfl⟩, by simpa [PyData.shown] using q⟩ (by simpa [PyData.shown] using notInt hz (fun _ z => nomatch z))
  | lst _ _ => exact far _ ru (notInt hz fun _ z => nomatch z)
  | tup _ _ => exact far _ ru (notInt hz fun _ z => nomatch z)
  | dct _ _ _ => exact far _ ru (notInt hz fun _ z => nomatch z)
/-- isinstance(e, c), e the exception of the suite, with fields -/
def rIsX (K : PySem.W.Frag) (D a : Addr) (cls : Value) (d : Option Addr) : List V → Hp → VK → Prop := fun xs H Q => ∃ (c : V) (cv : Value) (b : Bool) (dd : Addr) (fs : List (Str × V)),
  xs = [.ref a, c] ∧ (∀ u, RelV c u → u = cv) ∧ PySem.W.kitOne K (.ref D) cv = some b ∧ cls = .ref D ∧ d = some dd ∧ H dd = some (.xd fs) ∧ Q (.bl b) H
theorem call_isX {K : PySem.W.Frag} {a D : Addr} {oe : Obj} {cls : Value} {d : Option Addr} {pn : List (Addr × Obj)} (eK : X.K = K) (C : ExcC K D) (hz : Zc cls d oe) (hf : ∃ vs, oe.data = .fields vs) : CallR (X.suite a ((a, oe) :: pn)) (.builtin "isinstance") (rIsX K D a cls d) := by
  subst eK
  intro pins s σ H xs us Q I r h
  obtain ⟨c, cv, b, dd, fs, rfl, hcv, e, rfl, rfl, hdd, q⟩ := h
  cases r with
  | cons rx rr =>
    cases rr with
    | cons rt rr =>
      cases rr
      cases rx
      have ec := hcv _ rt
      subst ec
      obtain ⟨hget, _⟩ := I.pin (a, oe) (List.mem_append.mpr (.inl List.mem_cons_self))
      obtain ⟨vs, hv⟩ := hf
      have hx : ObjOk X.prog X.w H s.heap dd (.xd fs) := I.hok dd _ hdd
      obtain ⟨mA, ⟨od, es, ep, hod, _⟩, _⟩ := hx
      have J : PySem.W.InstAt s.heap a oe D (some od) := by
        obtain ⟨h1, h2⟩ := hz
        exact ⟨hget, h1, by unfold PySem.W.notCls; rw [hv] <;> rfl, by rw [h2]; exact hod⟩
      obtain ⟨cdD, hcD, _⟩ := PySem.W.any_some C.hd
      exact PySem.W.kia_one (PySem.W.kitx_exc (by rw [hcD]; rfl) C.hg C.hk C.hs C.ha C.hn C.ht C.hm) I.kIn J e (fun z => nomatch z) fun tk => ⟨.bl b, H, I.kept (t' := tk) fun _ _ z => z, rfl, q⟩
/-- "a" * 9 -/
theorem op_mulA : OpR X (binaryOp .Mult) (fun x y H Q => x = .str "a" ∧ y = .int 9 ∧ Q (.str "aaaaaaaaa") H) := by
  intro pins s σ H x y v u Q I rx ry h
  obtain ⟨rfl, rfl, q⟩ := h
  obtain ⟨t, rfl⟩ := rx
  obtain ⟨t', rfl⟩ := ry
  refine PySem.P.mul_str (by decide) (fun _ _ => by decide) (fun _ _ => by decide +kernel) ?_
  rw [if_neg (by decide), if_neg (by decide)]
  exact ⟨by decide +kernel, ⟨.str "aaaaaaaaa", H, I.tok _, ⟨_, rfl⟩, q⟩⟩
end
/-- BookError, beside NoSuch -/
structure ClsB (K : PySem.W.Frag) (mg : Str → Option Value) (CB CN : Addr) : Prop where
  g : mg "BookError" = some (.ref CB)
  ex : PySem.W.subIn K (.ref CB) (.type "BaseException") = some true
  hd : PySem.W.hasDictIn K CB = true
  ty : PySem.W.typeIn K (.ref CB) = some (.type "type")
  no : PySem.W.subIn K (.ref CN) (.ref CB) = some false
  self : PySem.W.subIn K (.ref CN) (.ref CN) = some true
  kit : PySem.W.kitOne K (.ref CN) (.ref CB) = some false
  kil : PySem.W.kitOne K (.ref CN) (.type "LookupError") = some true
  lk : mg "LookupError" = none
  cl : PySem.W.findIn K (.ref CN) "__class__" = some (some (.builtin "object.__class__"))
  sp : PySem.W.specialIn K (.builtin "object.__class__") "__get__" = some (some (.builtin "getset_descriptor.__get__"))
  tk : PySem.W.takesIn K (.builtin "object.__class__") = some true
  ob : PySem.W.mroIn K CN (.type "object") = some true
section
variable {P : Program} {K : PySem.W.Frag} {mg : Str → Option Value} {CB CN : Addr}
theorem ClsB.exc (B : ClsB K mg CB CN) (N : ClsN P K mg CN) : ExcC K CN := ⟨N.ga, N.gg, N.exC, N.hd, B.cl, B.sp, B.tk, B.ob⟩
theorem ClsB.miss (B : ClsB K mg CB CN) : PySem.W.exmOne K (.ref CN) (.ref CB) = some false := PySem.W.exm_ref B.ex B.hd B.ty B.no
theorem ClsB.hit (B : ClsB K mg CB CN) (N : ClsN P K mg CN) : PySem.W.exmOne K (.ref CN) (.ref CN) = some true := PySem.W.exm_ref N.exC N.hd N.tyC B.self
theorem no_xf (N : ClsN P K mg CN) : XfC K CN := ⟨N.ga, N.gg, N.exC, N.hd⟩
end
end Rc

set_option pp.maxSteps 700
namespace Rc
open PySem PySem.Spec PyProof.Rows L2
/-! ### methods within a try; exceptions without fields -/
section
variable {X : Cx} {CX : CXT} {k : Nat} {f C : Addr} {fd : FuncData} {ps : List Str} {sp : Sp} {E : L2.St → XK} {m : Str} {pos apos : Pos} {e o : Expr} {es : List Expr} {ta : TE} {t : TA}
def tMethP (C : Addr) (m : Str) (sp : Sp) (E : L2.St → XK) (ta : TE) (t : TA) : TE := fun σ H Q => ta σ H fun x H1 => ∃ a dx fs, x = .ref a ∧ H1 a = some (.ins C dx fs) ∧ fs.lookup m = none ∧ t σ H1 fun vs H2 => sp (x :: vs) H2 Q (E σ)
theorem pe_methP {pl : Sem Bool} (he : PE X o ta) (c : Cls X.K C) (hm : Meth X.K C m f) (F : FnOk X.prog X.w X.K X.mg X.base CX k f fd ps sp) (hr : Room k X.A) (hb : Binds X.K fd ps []) (hx : ∀ σ, PassesAt CX X σ (E σ)) (ha : PA X (e :: es) t)
    (hst : starEach (e :: es) X.env = (false, eval e X.env) :: starEach es X.env := by rfl) (hpl : (backTo pos (starEach es X.env)).any (·.1) = false := by rfl)
    (ht : eval (.Call (.Attribute o m apos) (e :: es) [] pos) X.env = (do
      let ov ← eval o X.env
      standAt apos.atName
      let (f, first) ← holding [ov] (getMethod ov m pl)
      callWith pos f first (backTo pos (starEach (e :: es) X.env)) (backToKw pos (keywordEach [] X.env))) := by rfl) :
    PE X (.Call (.Attribute o m apos) (e :: es) [] pos) (tMethP C m sp E ta t) := by
  refine ⟨fun pins s σ H Q I h => ?_⟩
  refine PySem.W.methodCall_KW (pl := pl) (thn (he.run pins s σ H _ I h) fun u s1 ⟨x, H1, I1, rx, a, dx, fs, ex, ea, l, q⟩ => ?_) ht
  subst ex
  obtain rfl : u = Value.ref a := rx
  refine getmeth_ok I1 ea c hm l ?_
  refine PySem.W.callWith_K (first := [.ref a]) (h₀ := X.base) I.ok.mod.kin hm.kp (thn (ha.run pos pins s1 σ H1 _ I1 q) fun us s2 ⟨vs, H2, I2, r, q2⟩ => ⟨I2.kIn, ?_⟩) hst hpl
  exact run_fnS (us := .ref a :: us) (vs := .ref a :: vs) F hr hb (hx σ) I2 (.cons rfl r) q2
/-- isinstance(e, c), e without fields -/
def rIsN (K : PySem.W.Frag) (D a : Addr) (cls : Value) (d : Option Addr) : List V → Hp → VK → Prop := fun xs H Q => ∃ (c : V) (cv : Value) (b : Bool), xs = [.ref a, c] ∧ (∀ u, RelV c u → u = cv) ∧ PySem.W.kitOne K (.ref D) cv = some b ∧ cls = .ref D ∧ d = none ∧ Q (.bl b) H
theorem call_isN {K : PySem.W.Frag} {a D : Addr} {oe : Obj} {cls : Value} {d : Option Addr} {pn : List (Addr × Obj)} (eK : X.K = K) (C : ExcC K D) (hz : Zc cls d oe) (hf : ∃ vs, oe.data = .fields vs) : CallR (X.suite a ((a, oe) :: pn)) (.builtin "isinstance") (rIsN K D a cls d) := by
  subst eK
  intro pins s σ H xs us Q I r h
  obtain ⟨c, cv, b, rfl, hcv, e, rfl, rfl, q⟩ := h
  exact call_isE C hz hf pins s σ H _ us Q I r ⟨c, cv, b, rfl, hcv, e, q⟩
end
/-- an exception class over BookError, without an __init__ of its own -/
structure ClsP (K : PySem.W.Frag) (mg : Str → Option Value) (nm : Str) (D CB : Addr) : Prop where
  gP : mg nm = some (.ref D)
  xP : PySem.W.excIn K D [.type "ValueError", .type "Exception", .type "BaseException", .type "object"] "ValueError.__new__" = true
  kP : PySem.W.keepIn K (.ref D) = true
  bP : PySem.W.subIn K (.ref D) (.type "BaseException") = some true
  tP : PySem.W.typeIn K (.ref D) = some (.type "type")
  hd : PySem.W.hasDictIn K D = true
  sP : PySem.W.subIn K (.ref D) (.ref D) = some true
  ga : PySem.W.findIn K (.ref D) "__getattribute__" = some (some (.builtin "BaseException.__getattribute__"))
  gg : PySem.W.findIn K (.ref D) "__getattr__" = some none
  cl : PySem.W.findIn K (.ref D) "__class__" = some (some (.builtin "object.__class__"))
  sp : PySem.W.specialIn K (.builtin "object.__class__") "__get__" = some (some (.builtin "getset_descriptor.__get__"))
  tk : PySem.W.takesIn K (.builtin "object.__class__") = some true
  ob : PySem.W.mroIn K D (.type "object") = some true
  gB : mg "BookError" = some (.ref CB)
  kit : PySem.W.kitOne K (.ref D) (.ref CB) = some true
section
variable {K : PySem.W.Frag} {mg : Str → Option Value} {nm : Str} {D CB : Addr}
theorem ClsP.exc (P : ClsP K mg nm D CB) : ExcC K D := ⟨P.ga, P.gg, P.bP, P.hd, P.cl, P.sp, P.tk, P.ob⟩
theorem ClsP.hit (P : ClsP K mg nm D CB) : PySem.W.exmOne K (.ref D) (.ref D) = some true := PySem.W.exm_ref P.bP P.hd P.tP P.sP
theorem mkClsP {h : Heap} (X : K.In h) (G : h.Ns mainGlobals mg) (a : PySem.W.nsIn K mainGlobals nm = some (some (.ref D)))
    (a1 : PySem.W.excIn K D [.type "ValueError", .type "Exception", .type "BaseException", .type "object"] "ValueError.__new__" = true) (a2 : PySem.W.keepIn K (.ref D) = true) (a3 : PySem.W.subIn K (.ref D) (.type "BaseException") = some true)
    (a4 : PySem.W.typeIn K (.ref D) = some (.type "type")) (a5 : PySem.W.hasDictIn K D = true) (a6 : PySem.W.subIn K (.ref D) (.ref D) = some true)
    (a7 : PySem.W.findIn K (.ref D) "__getattribute__" = some (some (.builtin "BaseException.__getattribute__"))) (a8 : PySem.W.findIn K (.ref D) "__getattr__" = some none) (a9 : PySem.W.findIn K (.ref D) "__class__" = some (some (.builtin "object.__class__")))
    (b1 : PySem.W.specialIn K (.builtin "object.__class__") "__get__" = some (some (.builtin "getset_descriptor.__get__"))) (b2 : PySem.W.takesIn K (.builtin "object.__class__") = some true) (b3 : PySem.W.mroIn K D (.type "object") = some true)
    (b4 : PySem.W.nsIn K mainGlobals "BookError" = some (some (.ref CB))) (b5 : PySem.W.kitOne K (.ref D) (.ref CB) = some true) : ClsP K mg nm D CB :=
  ⟨PySem.W.mg_of X G a, a1, a2, a3, a4, a5, a6, a7, a8, a9, b1, b2, b3, PySem.W.mg_of X G b4, b5⟩
end
end Rc

namespace Rc
open PySem PySem.Spec PyProof.Rows L2 RZ PySem.Builtin.Str
/-! ### texts of plain signs -/
def Asc (x : Str) : Prop := ∀ c ∈ x.cps.toList, c < 128
instance (x : Str) : Decidable (Asc x) := inferInstanceAs (Decidable (∀ c ∈ x.cps.toList, c < 128))
theorem Asc.app {x y : Str} (a : Asc x) (b : Asc y) : Asc (x ++ y) := fun c hc => by
  have e : (x ++ y).cps.toList = x.cps.toList ++ y.cps.toList := by
    show (x.cps ++ y.cps).toList = _
    rw [Array.toList_append]
  rw [e] at hc
  rcases List.mem_append.mp hc with h | h
  · exact a c h
  · exact b c h
theorem asc2 {a b : Str} (ha : Asc a) (hb : Asc b) : ∀ t ∈ [a, b], Asc t := fun t h => by
  rcases List.mem_cons.mp h with rfl | h
  · exact ha
  · rw [List.mem_singleton.mp h]
    exact hb
theorem asc_ok {x : Str} (h : Asc x) : PyData.strOk x = true := by
  show x.cps.all (· < 0x110000) = true
  rw [← Array.all_toList, List.all_eq_true]
  exact fun c hc => decide_eq_true (Nat.lt_trans (h c hc) (by decide))
theorem quote_two (x : Str) : reprQuote x = 34 ∨ reprQuote x = 39 := by
  unfold reprQuote
  split <;> simp
theorem char_asc : ∀ q ∈ [34, 39], ∀ c < 128, ∀ d ∈ Builtin.Str.reprChar q c, d < 128 := by decide +kernel
theorem repr_asc {x : Str} (h : Asc x) : Asc (reprText x) := by
  have q2 : reprQuote x ∈ [34, 39] := by
    rcases quote_two x with e | e <;> rw [e] <;> decide
  have q3 : reprQuote x < 128 := by
    rcases quote_two x with e | e <;> rw [e] <;> decide
  unfold reprText
  generalize reprQuote x = q at q2 q3
  have go : ∀ (l : List Nat) (acc : Array Nat), (∀ c ∈ l, c < 128) → (∀ c ∈ acc.toList, c < 128) → ∀ c ∈ (l.foldl (fun out c => out ++ (Builtin.Str.reprChar q c).toArray) acc).toList, c < 128 := fun l => by
    induction l with
    | nil => exact fun _ _ ha => ha
    | cons a r ih =>
      intro acc hl ha
      refine ih _ (fun c hc => hl c (List.mem_cons_of_mem _ hc)) fun c hc => ?_
      rw [Array.toList_append] at hc
      rcases List.mem_append.mp hc with h | h
      · exact ha c h
      · exact char_asc q q2 a (hl a List.mem_cons_self) c (by simpa using h)
  intro c hc
  have hc : c ∈ ((x.cps.foldl (fun out c => out ++ (Builtin.Str.reprChar q c).toArray) #[q]).push q).toList := hc
  rw [Array.toList_push] at hc
  rcases List.mem_append.mp hc with hc | hc
  · rw [← Array.foldl_toList] at hc
    exact go _ _ h (fun c hc => by rw [List.mem_singleton.mp hc]; exact q3) c hc
  · rw [List.mem_singleton.mp hc]
    exact q3
theorem text_asc : ∀ (ts : List Str) (k : Nat) (acc : Str), Asc acc → (∀ t ∈ ts, Asc t) → Asc (textFrom k acc ts)
  | [], _, _, ha, _ => ha
  | t :: r, k, acc, ha, h => by
    refine text_asc r (k + 1) _ ((ha.app ?_).app (h t List.mem_cons_self)) fun u hu => h u (List.mem_cons_of_mem _ hu)
    split
    · exact (by decide +kernel : Asc (", " : Str))
    · exact (by decide +kernel : Asc ("" : Str))
theorem list_asc {ts : List Str} (h : ∀ t ∈ ts, Asc t) : Asc (listText ts) := (text_asc ts 0 _ (by decide +kernel : Asc ("[" : Str)) h).app (by decide +kernel : Asc ("]" : Str))
theorem shownAll_strs : ∀ zs : List Str, PyData.shownAll (zs.map .str) = zs.map reprText
  | [] => by simp [PyData.shownAll]
  | z :: r => by
    rw [List.map_cons, List.map_cons, PyData.shownAll, shownAll_strs r, PyData.shown]
theorem name_asc {z : Str} (h : nameT z = true) : Asc z := fun c hc => abc_lt c (name_signs h c hc)
theorem str_asc {z : Str} (h : Asc z) : Asc (PyData.shown (.str z)) := by
  rw [PyData.shown]
  exact repr_asc h
theorem names_asc {zs : List Str} (h : ∀ z ∈ zs, nameT z = true) : Asc (PyData.shown (.list (zs.map .str))) := by
  rw [PyData.shown, shownAll_strs]
  refine list_asc fun t ht => ?_
  obtain ⟨z, hz, rfl⟩ := List.mem_map.mp ht
  exact repr_asc (name_asc (h z hz))
theorem one_asc {z : Str} (h : nameT z = true) : Asc (PyData.shown (.tuple [.str z])) := by
  have e : PyData.shown (.tuple [.str z]) = ("(" : Str) ++ reprText z ++ (",)" : Str) := by
    simp only [PyData.shown, PyData.shownAll]
    rfl
  rw [e]
  exact ((by decide +kernel : Asc ("(" : Str)).app (repr_asc (name_asc h))).app (by decide +kernel)
/-! ### lists of plain texts -/
theorem strs_self12 : ∀ l : List Str, PyData.eqvAll (l.map PyData.str) (l.map PyData.str) = true
  | [] => by simp [PyData.eqvAll]
  | x :: r => by
    rw [List.map_cons, PyData.eqvAll, strs_self12 r]
    have : PyData.eqv (.str x) (.str x) = true := by simp [PyData.eqv]
    rw [this]
    rfl
theorem list_self12 (l : List Str) : PyData.eqv (.list (l.map PyData.str)) (.list (l.map PyData.str)) = true := by
  have := strs_self12 l
  simp only [PyData.eqv]
  exact this
theorem shaped12 {l : List Str} (h : ∀ t ∈ l, Asc t) : SeqAt.shaped (.list (l.map PyData.str)) = true := by
  have c : PyData.canLayAll0 (l.map PyData.str) = true := by
    induction l with
    | nil => rfl
    | cons a r ih =>
      rw [List.map_cons, PyData.canLayAll0, ih fun t ht => h t (List.mem_cons_of_mem _ ht), PyData.canLay0, asc_ok (h a List.mem_cons_self)]
      rfl
  have d : PyData.depthAll (l.map PyData.str) ≤ 1 := by
    induction l with
    | nil => exact Nat.zero_le _
    | cons a r ih =>
      rw [List.map_cons]
      simp only [PyData.depthAll]
      have h1 : (PyData.str a).depth ≤ 0 := by simp only [PyData.depth]; omega
      have h2 := ih (fun t ht => h t (List.mem_cons_of_mem _ ht)) (by
        rw [List.map_cons, PyData.canLayAll0, Bool.and_eq_true] at c
        exact c.2)
      omega
  unfold SeqAt.shaped
  have ec : (PyData.list (l.map PyData.str)).canLay0 = true := by rw [PyData.canLay0]; exact c
  rw [ec, decide_eq_true (show (PyData.list (l.map PyData.str)).depth ≤ 64 by simp only [PyData.depth]; omega)]
  rfl
theorem strs_dp12 {K : PySem.W.Frag} {H : Hp} {x : Addr} {l : List Str} (h : H x = some (.lst (l.map V.str))) : Dp K H (.ref x) (.list (l.map PyData.str)) := .lst (.inl (.inl h)) (DpAll.strs l)
end Rc

namespace Rc
open PySem PySem.Spec PyProof.Rows L2
/-! ### a dict with a key of another kind: d[None] = v, d[("a",)] = v -/
section
variable {prog : Program} {w : World} {A : Around} {E : Value → Shared → Prop} {s : Shared}
theorem hash_none {Q : Int → Shared → Prop} (h : Q 0xFCA86420 { s with toks := s.toks + 1 }) : wpAny (model prog w) A (pyHash .none) Q E s := by
  have tT : s.TypeIs .none "NoneType" := rfl
  unfold pyHash
  unfold pyHashByItsType
  have hv : [Value.none].any Value.onHeap = false := rfl
  refine wpAny_bind ?_
  rw [cRoomFor, if_neg (by rw [hv]; exact Bool.false_ne_true)]; refine wpAny_pure ?_
  refine wpAny_bind (wpAny_specialOf tT PySem.F.slot_NoneType_hash.lookup ?_)
  show wpAny _ _ (if (some (Value.builtin "NoneType.__hash__") == some Value.none) = true then _ else _) Q E s
  rw [if_neg (by rw [beq_builtin_none]; exact Bool.false_ne_true)]
  refine wpAny_bind (wpAny_specialOf tT PySem.F.slot_NoneType_hash.lookup ?_)
  show wpAny _ _ (callSpecialIfBoundUnlessNone? .none "__hash__" _ >>= _) Q E s
  refine wpAny_bind (wpAny_callSpecialIfBoundUnlessNone?_slot tT PySem.F.slot_NoneType_hash
    (wpAny_call_entry PySem.F.slot_NoneType_hash tT PySem.F.entry_NoneType_hash
      (show wpAny _ _ (do ret (← mkInt 0xFCA86420)) _ _ s from wpAny_ret_mkInt ?_) (PySem.F.args_NoneType_hash_1 _)))
  show wpAny _ _ (if (decide (-(2 : Int) ^ 63 ≤ 0xFCA86420) && decide ((0xFCA86420 : Int) < 2 ^ 63)) = true then _ else _) Q E _
  rw [if_pos (by decide)]
  exact wpAny_pure h
/-- no key of the dict is like it -/
theorem find_none {d : Addr} {o : Obj} {es : Array DictEntry} {ep : Nat} {hk : Int} {Q : Option Nat → Shared → Prop} (ho : s.heap.get? d = some o) (hd : o.data = .dict es ep) (hs : ∀ e ∈ es, ∃ x t, e.key = .str x t) (h : Q none s) :
    wpAny (model prog w) A (dictFind d .none hk) Q E s := by
  have hall : ((Value.none :: (placesWithHash es.size (fun i => es[i]?.map (·.hash)) hk).filterMap fun i => es[i]?.map (·.key)).all carriedByValue) = true := by
    rw [List.all_cons, List.all_eq_true.mpr]
    · rfl
    · intro v hv
      obtain ⟨i, _, hi⟩ := List.mem_filterMap.mp hv
      cases he : es[i]? with
      | none => rw [he] at hi; cases hi
      | some e =>
        rw [he] at hi
        obtain rfl : e.key = v := by simpa using hi
        obtain ⟨x, t, ek⟩ := hs e (Array.mem_of_getElem? he)
        rw [ek]
        rfl
  unfold dictFind
  try with_reducible refine wpAny_holding ?_
  refine wpAny_bind (wpAny_dictEntries ho hd ?_)
  dsimp only
  rw [if_pos hall]
  refine wpAny_bind ?_
  refine wpAny_forIn_list _ (fun rest b s' => s' = s ∧ b = (none, ())) _ ?_ ?_ _ _ ⟨rfl, rfl⟩
  · rintro x rest b s' ⟨rfl, rfl⟩
    cases hex : es[x]? with
    | none => exact wpAny_pure ⟨rfl, rfl⟩
    | some e =>
      obtain ⟨y, t, ek⟩ := hs e (Array.mem_of_getElem? hex)
      dsimp only
      by_cases hh : (e.hash == hk) = true
      · rw [if_pos hh, ek]
        refine wpAny_bind (wpAny_dictEpoch ho hd (wpAny_bind (SeqAt.EqAt.str_none y t _ _ _ _ (wpAny_bind (wpAny_dictEpoch ho hd ?_)))))
        show wpAny _ _ (if (ep != ep) = true then _ else _) _ E _
        rw [if_neg (by simp)]
        simp only [Bool.false_eq_true, if_false]
        exact wpAny_bind (wpAny_rule (wpAny_pure ⟨rfl, rfl⟩))
      · rw [if_neg hh]
        exact wpAny_pure ⟨rfl, rfl⟩
  · rintro b s' ⟨rfl, rfl⟩
    exact wpAny_pure h
theorem tells_no {u : Value} {stored : List Value} {Q : Bool → Shared → Prop} (hq : ∀ Q' : Bool → Shared → Prop, Q' true s → wpAny (model prog w) A (eqIsQuiet 8 u) Q' E s) (hst : ∀ v ∈ stored, carriedByValue v = true) (h : Q false s) : wpAny (model prog w) A (tableMayTell u stored) Q E s := by
  unfold tableMayTell
  split
  · exact wpAny_pure h
  · refine wpAny_bind (hq _ ?_)
    simp only [Bool.not_true, Bool.false_eq_true, if_false]
    refine wpAny_bind ?_
    refine wpAny_forIn_list _ (fun rest r s' => s' = s ∧ r = (none, ()) ∧ ∀ v ∈ rest, carriedByValue v = true) _ ?_ ?_ _ _ ⟨rfl, rfl, hst⟩
    · rintro x rest r s' ⟨rfl, rfl, hr⟩
      rw [eqIsQuiet_byValue 8 (hr x List.mem_cons_self)]
      refine wpAny_bind (wpAny_pure ?_)
      simp only [Bool.not_true, Bool.false_eq_true, if_false]
      exact wpAny_pure ⟨rfl, rfl, fun v hv => hr v (List.mem_cons_of_mem _ hv)⟩
    · rintro r s' ⟨rfl, rfl, _⟩
      exact wpAny_pure h
theorem find_tup {d a : Addr} {o : Obj} {es : Array DictEntry} {ep : Nat} {hk : Int} {ks : List Key} {items : Array Value} {Q : Option Nat → Shared → Prop} (hu : A.units < cLine) (hkey : (tupleKind (mixKind prog w)).is s.heap ks a) (hT : IsTup s.heap a items)
    (ho : s.heap.get? d = some o) (hd : o.data = .dict es ep) (hs : ∀ e ∈ es, ∃ x t, e.key = .str x t) (h : Q none s) : wpAny (model prog w) A (dictFind d (.ref a) hk) Q E s := by
  have hany : ¬ (es.any fun e => e.key == Value.ref a && e.hash != hk) = true := by
    rw [← Array.any_toList, List.any_eq_true]
    rintro ⟨e, hin, hc⟩
    obtain ⟨x, t, ek⟩ := hs e (Array.mem_toList_iff.mp hin)
    rw [ek] at hc
    simp at hc
  have hst : ∀ v ∈ (placesWithHash es.size (fun i => es[i]?.map (·.hash)) hk).filterMap (fun i => es[i]?.map (·.key)), carriedByValue v = true := by
    intro v hv
    obtain ⟨i, _, hi⟩ := List.mem_filterMap.mp hv
    cases hei : es[i]? with
    | none => rw [hei] at hi; cases hi
    | some e =>
      rw [hei] at hi
      obtain rfl : e.key = v := by simpa using hi
      obtain ⟨x, t, ek⟩ := hs e (Array.mem_of_getElem? hei)
      rw [ek]
      rfl
  unfold dictFind
  try with_reducible refine wpAny_holding ?_
  refine wpAny_bind (wpAny_dictEntries ho hd ?_)
  dsimp only
  rw [if_neg (show ¬ ((Value.ref a :: (placesWithHash es.size (fun i => es[i]?.map (·.hash)) hk).filterMap (fun i => es[i]?.map (·.key))).all carriedByValue) = true by simp [carriedByValue])]
  rw [if_neg hany]
  by_cases hone : (((placesWithHash es.size (fun i => es[i]?.map (·.hash)) hk).filterMap (fun i => es[i]?.map (·.key))) == [Value.ref a]) = true <;>
  (first | rw [if_pos hone] | rw [if_neg hone]) <;> (first | refine wpAny_bind (wpAny_pure ?_) | refine wpAny_bind (tells_no (fun Q' q => (tupleKind (mixKind prog w)).quiet hkey q) hst ?_)) <;> (
    rw [if_neg (by simp)]
    refine wpAny_bind ?_
    refine wpAny_forIn_list _ (fun rest b s' => s' = s ∧ b = (none, none)) _ ?_ ?_ _ _ ⟨rfl, rfl⟩
    · rintro x rest b s' ⟨rfl, rfl⟩
      cases hex : es[x]? with
      | none => exact wpAny_pure ⟨rfl, rfl⟩
      | some e =>
        obtain ⟨y, t, ek⟩ := hs e (Array.mem_of_getElem? hex)
        dsimp only
        by_cases hh : (e.hash == hk) = true
        · rw [if_pos hh, ek]
          refine wpAny_bind (wpAny_dictEpoch ho hd (wpAny_bind (SeqAt.EqAt.str_tuple y t hT hu _ _ _ _ (wpAny_bind (wpAny_dictEpoch ho hd ?_)))))
          show wpAny _ _ (if (ep != ep) = true then _ else _) _ E _
          rw [if_neg (by simp)]
          simp only [Bool.false_eq_true, if_false]
          refine wpAny_bind (wpAny_rule ?_)
          first | rw [if_neg (by simp)] | skip
          first
            | exact wpAny_pure ⟨rfl, rfl⟩
            | exact wpAny_bind (wpAny_pure (wpAny_pure ⟨rfl, rfl⟩))
        · rw [if_neg hh]
          exact wpAny_pure ⟨rfl, rfl⟩
    · rintro b s' ⟨rfl, rfl⟩
      exact wpAny_pure h)
theorem set_raw {d : Addr} {o : Obj} {es : Array DictEntry} {ep n : Nat} {u r : Value} {hk : Int} {Q : Unit → Shared → Prop} (hu : A.units + 1 < cLine) (ho : s.heap.get? d = some o) (hc : o.ExactDict) (hd : o.data = .dict es ep) (hz : es.size ≤ sizeLine)
    (hash : ∀ (A' : Around) (E' : Value → Shared → Prop) (Q' : Int → Shared → Prop), A'.units < cLine → Q' hk { s with toks := s.toks + n } → wpAny (model prog w) A' (pyHash u) Q' E' s)
    (find : ∀ (A' : Around) (E' : Value → Shared → Prop) (Q' : Option Nat → Shared → Prop), A'.units < cLine → Q' none { s with toks := s.toks + n } → wpAny (model prog w) A' (dictFind d u hk) Q' E' { s with toks := s.toks + n })
    (hQ : ∀ h', (∃ o', h'.get? d = some o' ∧ o'.ExactDict ∧ o'.data = .dict (es.push ⟨hk, u, r⟩) (ep + 1)) → Heap.SameBut d s.heap h' → Q () { s with heap := h', toks := s.toks + n }) :
    wpAny (model prog w) A (setItem (.ref d) u r) Q E s := by
  have hT : s.TypeIs (.ref d) "dict" := ⟨o, ho, hc.1⟩
  have hr : A.in1.units < cLine := tupleKind_room_in1 (knd := mixKind prog w) hu
  unfold setItem
  try with_reducible refine wpAny_holding ?_
  refine wpAny_bind (wpAny_sequenceKey hT (by decide) ?_)
  refine wpAny_bind (wpAny_callSpecial?_slot (name := Str.ofString "__setitem__") hT slot_dict_setitem
    (wpAny_call_entry slot_dict_setitem hT entry_dict_setitem ?_ (args_dict_setitem _ _ _)))
  show wpAny _ _ (Builtin.Dict.notOrdered "__setitem__" ⟨[.ref d, u, r], []⟩ >>= _) _ _ s
  refine wpAny_bind (wpAny_notOrdered_dict hT ?_)
  show wpAny _ _ (dictSet d u r >>= _) _ _ s
  refine wpAny_bind ?_
  unfold dictSet
  try with_reducible refine wpAny_holding ?_
  refine wpAny_bind (hash _ _ _ hr ?_)
  unfold dictSetHashed
  try with_reducible refine wpAny_holding ?_
  refine wpAny_bind (find _ _ _ hr ?_)
  refine wpAny_bind (wpAny_rule (wpAny_updateDictKeys (hz := hz) (s := { s with toks := s.toks + n }) ho hd ?_))
  exact wpAny_pure ⟨.none, rfl, wpAny_pure (hQ _ ⟨_, Heap.get?_update_self _ ho (Obj.isFreed_of_dict (Obj.data_mapDictKeys hd _)), hc.mapDictKeys _, Obj.data_mapDictKeys hd _⟩ (Heap.SameBut.update ..))⟩
end
/-! as a thing of the heap -/
def MxAt (d : Addr) (ks vs : List V) (h : Heap) : Prop := (d == sysModules) = false ∧ ks.length ≤ sizeLine ∧ ∃ o es ep, h.get? d = some o ∧ o.ExactDict ∧ o.data = .dict es ep ∧ Vals ks (es.toList.map (·.key)) ∧ Vals vs (es.toList.map (·.val))
def dMx (d : Addr) (ks vs : List V) : HO := .ext (MxAt d ks vs)
theorem mx_ok {P : Program} {w : World} {H : Hp} {h : Heap} {d : Addr} {ks vs : List V} (e : MxAt d ks vs h) : ObjOk P w H h d (dMx d ks vs) := by
  refine ⟨e, ?_, fun h1 h2 x k => ?_⟩
  · obtain ⟨_, _, o, _, _, e, _⟩ := e
    exact ⟨o, e⟩
  · obtain ⟨a, b, o, es, ep, ho, r⟩ := x
    exact ⟨a, b, o, es, ep, k o ho, r⟩
theorem mx_of {P : Program} {w : World} {H : Hp} {h : Heap} {d : Addr} {ks vs : List V} (ok : HOk P w H h) (e : H d = some (dMx d ks vs)) : MxAt d ks vs h := (show ObjOk P w H h d (dMx d ks vs) from ok d _ e).1
theorem vals_snoc {xs : List V} {us : List Value} {x : V} {u : Value} (h : Vals xs us) (r : RelV x u) : Vals (xs ++ [x]) (us ++ [u]) := h.append (.cons r .nil)
/-- a key of another kind -/
inductive Frn (H : Hp) : V → Prop
  | non : Frn H .non
  | tup {t : Addr} {x : Str} : H t = some (.tup [.str x]) → Frn H (.ref t)
/-- d[k] = v, k of another kind -/
def rSetM : TSet := fun o i v H Q => ∃ (d : Addr) (zs : List Str) (ws : List V), o = .ref d ∧ H d = some (.dK (dct zs ws)) ∧ zs.length = ws.length ∧ zs.length < 1000 ∧ Frn H i ∧ Q (upd H d (dMx d (zs.map V.str ++ [i]) (ws ++ [v])))
theorem dct_fst : ∀ {zs : List Str} {ws : List V}, zs.length = ws.length → (dct zs ws).map (fun p => kV p.1) = zs.map V.str ∧ (dct zs ws).map (·.2) = ws
  | [], [], _ => ⟨rfl, rfl⟩
  | z :: zs, w :: ws, h => by
    obtain ⟨a, b⟩ := dct_fst (zs := zs) (ws := ws) (by simpa using h)
    constructor
    · show V.str z :: (dct zs ws).map (fun p => kV p.1) = V.str z :: zs.map V.str
      rw [a]
    · show w :: (dct zs ws).map (·.2) = w :: ws
      rw [b]
  | [], _ :: _, h => by simp at h
  | _ :: _, [], h => by simp at h
theorem set_mx {X : Cx} (hu : X.A.units + 1 < cLine) : PSet X rSetM := by
  intro pins s σ H o i v ov iv u Q I ro ri rv h
  obtain ⟨d, zs, ws, rfl, e, lz, l1, fr, q⟩ := h
  obtain rfl : ov = Value.ref d := ro
  obtain ⟨z, hd, vs, rel, ob, es, ep, ho, hx, hdt, hk, hp, _⟩ := dk_of I.hok e
  obtain ⟨k1, k2⟩ := keys_rel hp rel
  obtain ⟨f1, f2⟩ := dct_fst lz
  rw [f1] at k1
  rw [f2] at k2
  have les : es.size = zs.length := by
    have := k1.length
    rw [List.length_map, List.length_map] at this
    simpa using this.symm
  have hs : ∀ e ∈ es, ∃ x t, e.key = Value.str x t := fun e he => by
    have hm : e.key ∈ es.toList.map (·.key) := List.mem_map.mpr ⟨e, Array.mem_toList_iff.mpr he, rfl⟩
    obtain ⟨j, hj⟩ := List.mem_iff_getElem?.mp hm
    have hjl : j < (zs.map V.str).length := by
      rw [k1.length]
      exact (List.getElem?_eq_some_iff.mp hj).1
    obtain ⟨u', e1, r1⟩ := k1.get (List.getElem?_eq_getElem hjl)
    rw [hj] at e1
    cases e1
    rw [List.getElem_map] at r1
    obtain ⟨t, e2⟩ := r1
    exact ⟨_, t, e2⟩
  have line : es.size ≤ sizeLine := by rw [les]; exact small_line (by omega)
  have fin : ∀ (hk' : Int) (h' : Heap) (t' : Nat), (∃ o', h'.get? d = some o' ∧ o'.ExactDict ∧ o'.data = .dict (es.push ⟨hk', iv, u⟩) (ep + 1)) → Heap.SameBut d s.heap h' →
      (fun _ s' => ∃ H', Inv X pins σ H' s' ∧ Q H') () { s with heap := h', toks := t' } := fun hk' h' t' ⟨o', e1, e2, e3⟩ sb => by
    refine ⟨_, d_write I (by rw [e]; exact True.intro) sb ⟨o', e1⟩ (mx_ok ⟨hd, ?_, o', _, _, e1, e2, e3, ?_, ?_⟩), q⟩
    · rw [List.length_append, List.length_map]
      exact small_line (show zs.length + 1 ≤ 1000 by omega)
    · rw [Array.toList_push, List.map_append]
      exact vals_snoc k1 ri
    · rw [Array.toList_push, List.map_append]
      exact vals_snoc k2 rv
  cases fr with
  | non =>
    obtain rfl : iv = Value.none := ri
    exact set_raw (n := 1) hu ho hx hdt line (fun A' E' Q' _ q' => hash_none q') (fun A' E' Q' _ q' => find_none (s := { s with toks := s.toks + 1 }) ho hdt hs q') fun h' a b => fin _ h' _ a b
  | @tup t x hT =>
    obtain rfl : iv = Value.ref t := ri
    have hkey : (tupleKind (mixKind X.prog X.w)).is s.heap [Sum.inr x] t := key_of (ks := [Sum.inr x]) I.hok hT
    obtain ⟨_, its, _, hI⟩ := (show ObjOk X.prog X.w H s.heap t (.tup [.str x]) from I.hok t _ hT)
    exact set_raw hu ho hx hdt line (fun A' E' Q' hu' q' => (tupleKind (mixKind X.prog X.w)).pyHash hu' hkey q') (fun A' E' Q' hu' q' => find_tup (s := { s with toks := _ }) hu' hkey hI ho hdt hs q') fun h' a b => fin _ h' _ a b
end Rc

namespace Rc
open PySem PySem.Spec PyProof.Rows L2 RZ
/-! ### isinstance(d, dict), len(d), repr(d) of such a one -/
section
variable {prog : Program} {w : World} {A : Around} {E : Value → Shared → Prop} {s : Shared}
theorem meets_len_raw {d : Addr} {n : Nat} (hd : (d == sysModules) = false) :
    MeetsIn prog w (Builtin.«dict.__len__» ⟨[.ref d], []⟩) (fun _ R s => (∃ o es ep, s.heap.get? d = some o ∧ o.data = .dict es ep ∧ es.size = n) ∧ R (.ok (.ret (.int n s.toks))) { s with toks := s.toks + 1 }) :=
  .of_wp fun A R s ⟨⟨o, es, ep, ho, hdat, hn⟩, h⟩ => by
    show wpAny _ _ (dictSize d >>= _) _ _ s
    unfold dictSize
    refine wpAny_bind (wpAny_bind (wpAny_dictEntries ho hdat (wpAny_pure ?_)))
    show wpAny _ _ (Builtin.Dict.pendingCount d >>= _) _ _ s
    refine wpAny_bind (wpAny_pendingCount_other hd ?_)
    refine wpAny_ret_mkInt ?_
    rw [Nat.add_zero, hn]; exact h
theorem len_body_raw {d : Addr} {o : Obj} {es : Array DictEntry} {ep : Nat} {Q : Value → Shared → Prop} (hd : (d == sysModules) = false) (ho : s.heap.get? d = some o) (hc : o.ExactDict) (hdat : o.data = .dict es ep) (hfit : (es.size : Int) < 2 ^ 63)
    (h : Q (.int es.size (s.toks + 1)) { s with toks := s.toks + 1 + 1 }) : wpAny (model prog w) A (Builtin.«len» ⟨[.ref d], []⟩) (fun fin s' => ∃ r, fin = .done (.ret r) ∧ Q r s') E s := by
  have hT : s.TypeIs (.ref d) "dict" := ⟨o, ho, hc.1⟩
  unfold Builtin.«len»
  refine wpAny_bind (m := oneArg "len" _) (wpAny_pure ?_)
  refine wpAny_bind (m := callSpecial? (.ref d) (Str.ofString "__len__")) (wpAny_callSpecial?_slot (name := Str.ofString "__len__") hT PySem.F.slot_dict_len
    (call_meetsIn PySem.F.slot_dict_len hT PySem.F.entry_dict_len (PySem.F.args_dict_len_1 _) (meets_len_raw (n := es.size) hd) ⟨⟨o, es, ep, ho, hdat, rfl⟩, ?_⟩))
  show wpAny _ _ _ _ _ { s with toks := s.toks + 1 }
  refine wpAny_bind (wpAny_holding (wpAny_pure ?_))
  refine wpAny_bind (wpAny_letGo ?_)
  show wpAny _ _ (if ((es.size : Nat) : Int) < 0 then _ else _) _ _ _
  rw [if_neg (by omega)]
  show wpAny _ _ (if ((es.size : Nat) : Int) ≥ 2 ^ 63 then _ else _) _ _ _
  rw [if_neg (by omega)]
  exact wpAny_bind (wpAny_mkInt (wpAny_pure ⟨_, rfl, h⟩))
theorem call_len_raw {d : Addr} {o : Obj} {es : Array DictEntry} {ep : Nat} {Q : Value → Shared → Prop} (hd : (d == sysModules) = false) (ho : s.heap.get? d = some o) (hc : o.ExactDict) (hdat : o.data = .dict es ep) (hfit : (es.size : Int) < 2 ^ 63)
    (h : Q (.int es.size (s.toks + 1)) { s with toks := s.toks + 1 + 1 }) : wpAny (model prog w) A (call (.builtin "len") [.ref d]) Q E s :=
  Calls.call_function_entry kind_len plain_len entry_len (args_len1 _) (len_body_raw hd ho hc hdat hfit h)
end
section
variable {X : Cx}
def rIsiM (K : PySem.W.Frag) : List V → Hp → VK → Prop := fun xs H Q => rIsi K xs H Q ∨ ∃ (d : Addr) (ks vs : List V), xs = [.ref d, .ty "dict"] ∧ H d = some (dMx d ks vs) ∧ Q (.bl true) H
theorem call_isiM : CallR X (.builtin "isinstance") (rIsiM X.K) := by
  intro pins s σ H xs us Q I r h
  rcases h with h | ⟨d, ks, vs, rfl, hd, q⟩
  · exact call_isi pins s σ H xs us Q I r h
  · obtain ⟨u1, u2, rfl, r1, r2⟩ := vals2 r
    obtain rfl : u1 = Value.ref d := r1
    obtain rfl : u2 = Value.type "dict" := r2
    obtain ⟨_, _, o, es, ep, ho, hc, _⟩ := mx_of I.hok hd
    exact PySem.W.kia_one PySem.W.kitx_dict I.kIn ⟨o, ho, hc.1⟩ (kit_ty (a := "dict") (b := "dict") (r := true) (by decide +kernel)) (fun z => nomatch z) fun tk => ⟨.bl true, H, I.tok tk, rfl, q⟩
def rLenM : List V → Hp → VK → Prop := fun xs H Q => (∃ a kvs, xs = [V.ref a] ∧ H a = some (.dK kvs) ∧ Q (.int kvs.length) H) ∨ ∃ (d : Addr) (ks vs : List V), xs = [.ref d] ∧ H d = some (dMx d ks vs) ∧ Q (.int ks.length) H
theorem call_lenM : CallR X (.builtin "len") rLenM := by
  intro pins s σ H xs us Q I r h
  rcases h with h | ⟨d, ks, vs, rfl, hd, q⟩
  · exact call_lenD pins s σ H xs us Q I r h
  · obtain ⟨u, rfl, ru⟩ := vals1 r
    obtain rfl : u = Value.ref d := ru
    obtain ⟨hs, hl, o, es, ep, ho, hc, hdt, k1, k2⟩ := mx_of I.hok hd
    have e1 : es.size = ks.length := by
      have := k1.length
      rw [List.length_map] at this
      simpa using this.symm
    have hn := line63
    refine call_len_raw hs ho hc hdt (by omega) ?_
    rw [e1]
    exact ⟨.int ks.length, H, I.kept (t' := s.toks + 1 + 1) fun _ _ z => z, ⟨_, rfl⟩, q⟩
/-- [..], the new one not where modules stand -/
def tLstN (t : TA) : TE := fun σ H Q => t σ H fun xs H1 => xs.length ≤ sizeLine ∧ ∀ a, H1 a = none → a ≠ sysModules → Q (.ref a) (upd H1 a (.lst xs))
theorem sys_fresh {pins : List (Addr × Obj)} {σ : L2.St} {H : Hp} {s : Shared} (I : Inv X pins σ H s) : s.heap.objs.size ≠ sysModules := by
  have := I.big
  intro e
  rw [e] at this
  exact absurd this (by decide)
theorem pe_lstN {es : List Expr} {t : TA} {pos : Pos} (h : PA X es t) : PE X (.List es pos) (tLstN t) := by
  refine ⟨fun pins s σ H Q I hq => ?_⟩
  refine wpAny_List_spliced (thn (h.run pos pins s σ H _ I hq) fun us s1 ⟨xs, H1, I1, r, z, q⟩ => ⟨by rw [← r.length]; exact z, ?_⟩)
  have hf : H1 s1.heap.objs.size = none := I1.hok.fresh (Nat.le_refl _)
  refine ⟨.ref s1.heap.objs.size, upd H1 s1.heap.objs.size (.lst xs), I1.laid (t' := s1.toks) (fun b u e => Heap.get?_push_of_some _ e) (Nat.le_refl _) ?_, rfl, q _ hf (sys_fresh I1)⟩
  exact ⟨z, us, 0, r, Heap.get?_push_size _ rfl⟩
end
/-- flat, or a list or a tuple of such -/
inductive FlV (H : Hp) : V → PyData → Prop
  | flat {v : V} {d : PyData} : Flat v d → FlV H v d
  | lst {a : Addr} {xs : List V} {ds : List PyData} : H a = some (.lst xs) → a ≠ sysModules → Flats xs ds → FlV H (.ref a) (.list ds)
  | tup {a : Addr} {xs : List V} {ds : List PyData} : H a = some (.tup xs) → Flats xs ds → FlV H (.ref a) (.tuple ds)
inductive FlVs (H : Hp) : List V → List PyData → Prop
  | nil : FlVs H [] []
  | cons {v : V} {d : PyData} {vs : List V} {ds : List PyData} : FlV H v d → FlVs H vs ds → FlVs H (v :: vs) (d :: ds)
theorem FlV.keep {H H' : Hp} {v : V} {d : PyData} (h : FlV H v d) (k : ∀ c o, H c = some o → ((∃ xs, o = .lst xs) ∨ ∃ xs, o = .tup xs) → H' c = some o) : FlV H' v d := by
  cases h with
  | flat f => exact .flat f
  | lst e n f => exact .lst (k _ _ e (.inl ⟨_, rfl⟩)) n f
  | tup e f => exact .tup (k _ _ e (.inr ⟨_, rfl⟩)) f
theorem FlVs.keep {H H' : Hp} : ∀ {vs : List V} {ds : List PyData}, FlVs H vs ds → (∀ c o, H c = some o → ((∃ xs, o = .lst xs) ∨ ∃ xs, o = .tup xs) → H' c = some o) → FlVs H' vs ds
  | _, _, .nil, _ => .nil
  | _, _, .cons a b, k => .cons (a.keep k) (b.keep k)
theorem dts_flat {K : PySem.W.Frag} {H : Hp} : ∀ {vs : List V} {ds : List PyData}, Flats vs ds → DtAll K H vs ds
  | _, _, .nil => .nil
  | _, _, .cons f r => by
    refine .cons ?_ (dts_flat r)
    cases f with
    | non => exact .non
    | bl b => exact .bl b
    | int i => exact .int i
    | str x => exact .str x
theorem FlV.dt {K : PySem.W.Frag} {H : Hp} {v : V} {d : PyData} (h : FlV H v d) : Dt K H v d := by
  cases h with
  | flat f =>
    cases f with
    | non => exact .non
    | bl b => exact .bl b
    | int i => exact .int i
    | str x => exact .str x
  | lst e n f => exact .lst (.inl (.inl e)) (dts_flat f)
  | tup e f => exact .tup (.inl (.inl e)) (dts_flat f)
theorem FlV.reads {X : Cx} {pins : List (Addr × Obj)} {σ : L2.St} {H : Hp} {s : Shared} (I : Inv X pins σ H s) {v : V} {d : PyData} {u : Value} (h : FlV H v d) (r : RelV v u) : ∃ as, Reads s.heap u d as ∧ sysModules ∉ as := by
  cases h with
  | flat f => exact ⟨_, f.reads r, by simp⟩
  | @lst a xs ds e n f =>
    obtain rfl : u = Value.ref a := r
    obtain ⟨_, its, k, rv, ho⟩ := (show ObjOk X.prog X.w H s.heap a (.lst xs) from I.hok a _ e)
    exact ⟨_, .list ho rfl rfl (f.reads rv), fun z => n ((List.mem_singleton.mp (by simpa using z)).symm)⟩
  | @tup a xs ds e f =>
    obtain rfl : u = Value.ref a := r
    obtain ⟨_, its, rv, o, h1, h2, k, h3⟩ := (show ObjOk X.prog X.w H s.heap a (.tup xs) from I.hok a _ e)
    exact ⟨_, .tuple h1 h2 h3 (f.reads rv), by simp⟩
theorem FlVs.reads {X : Cx} {pins : List (Addr × Obj)} {σ : L2.St} {H : Hp} {s : Shared} (I : Inv X pins σ H s) : ∀ {vs : List V} {ds : List PyData} {us : List Value}, FlVs H vs ds → Vals vs us → ∃ as, ReadsAll s.heap us ds as ∧ sysModules ∉ as
  | _, _, _, .nil, .nil => ⟨_, .nil, by simp⟩
  | _, _, _, .cons a b, .cons r1 r2 => by
    obtain ⟨as, q1, n1⟩ := a.reads I r1
    obtain ⟨bs, q2, n2⟩ := FlVs.reads I b r2
    exact ⟨_, .cons q1 q2, fun z => (List.mem_append.mp z).elim n1 n2⟩
/-- a dict of any kind: its keys, its values -/
def AnyD (H : Hp) (d : Addr) (ks vs : List V) : Prop := H d = some (dMx d ks vs) ∨ ∃ kvs : List (Key × V), H d = some (.dK kvs) ∧ ks = kvs.map (fun p => kV p.1) ∧ vs = kvs.map (·.2)
theorem AnyD.same {H H' : Hp} {d : Addr} {ks vs : List V} (h : AnyD H d ks vs) (e : ∀ o, H d = some o → H' d = some o) : AnyD H' d ks vs := by
  rcases h with h | ⟨kvs, h, r⟩
  · exact .inl (e _ h)
  · exact .inr ⟨kvs, e _ h, r⟩
section
variable {X : Cx}
theorem any_raw {pins : List (Addr × Obj)} {σ : L2.St} {H : Hp} {s : Shared} (I : Inv X pins σ H s) {d : Addr} {ks vs : List V} (h : AnyD H d ks vs) : MxAt d ks vs s.heap := by
  rcases h with h | ⟨kvs, h, rfl, rfl⟩
  · exact mx_of I.hok h
  · obtain ⟨z, hd, ws, rel, ob, es, ep, ho, hx, hdt, hk, hp, _⟩ := dk_of I.hok h
    obtain ⟨k1, k2⟩ := keys_rel hp rel
    exact ⟨hd, by rw [List.length_map]; exact z, ob, es, ep, ho, hx, hdt, k1, k2⟩
def rReprG (K : PySem.W.Frag) : List V → Hp → VK → Prop := fun xs H Q => rRepr K xs H Q ∨ ∃ (d : Addr) (ks vs : List V) (ps : List (PyData × PyData)), xs = [.ref d] ∧ AnyD H d ks vs ∧ FlVs H ks (ps.map (·.1)) ∧ FlVs H vs (ps.map (·.2)) ∧ (PyData.dict ps).showable = true ∧ (PyData.dict ps).depth ≤ 20 ∧ (PyData.dict ps).shown.length ≤ sizeLine ∧ Q (.str (PyData.dict ps).shown) H
theorem call_reprG {k : Nat} (hr : Room k X.A) (hg : X.A.guards = some []) : CallR X (.builtin "repr") (rReprG X.K) := by
  intro pins s σ H xs us Q I r h
  rcases h with h | ⟨d, ks, vs, ps, rfl, ad, fk, fv, sh, dp, hz, q⟩
  · exact call_repr hr hg pins s σ H xs us Q I r h
  · obtain ⟨u, rfl, ru⟩ := vals1 r
    obtain rfl : u = Value.ref d := ru
    obtain ⟨hs, _, o, es, ep, ho, hc, hdt, k1, k2⟩ := any_raw I ad
    obtain ⟨as, r1, n1⟩ := fk.reads I k1
    obtain ⟨bs, r2, n2⟩ := fv.reads I k2
    have hu := hr.units
    refine repr_of_reads' (.dict ho hc.1 hdt r1 r2) sh (fun _ z => ?_) hg (by omega) (fun _ _ e => e) (fun h' t tk hk => ⟨.str _, H, I.kept hk, ⟨t, rfl⟩, q⟩) hz
    rcases List.mem_append.mp z with z | z
    · rcases List.mem_cons.mp z with z | z
      · rw [← z] at hs
        simp at hs
      · exact n1 z
    · exact n2 z
end
end Rc

namespace Rc
open PySem PySem.Spec PyProof.Rows L2 RZ
/-! ### what is no vector -/
def dictD : PyData → Bool
  | .dict _ => true
  | _ => false
theorem kit_dict {K : PySem.W.Frag} (d : PyData) : PySem.W.kitOne K (.type (tyD d)) (.type "dict") = some (dictD d) :=
  match d with
  | PyData.none => kit_ty (a := "NoneType") (b := "dict") (r := false) (by decide +kernel)
  | .bool _ => kit_ty (a := "bool") (b := "dict") (r := false) (by decide +kernel)
  | .int _ => kit_ty (a := "int") (b := "dict") (r := false) (by decide +kernel)
  | .str _ => kit_ty (a := "str") (b := "dict") (r := false) (by decide +kernel)
  | .list _ => kit_ty (a := "list") (b := "dict") (r := false) (by decide +kernel)
  | .tuple _ => kit_ty (a := "tuple") (b := "dict") (r := false) (by decide +kernel)
  | .dict _ => kit_ty (a := "dict") (b := "dict") (r := true) (by decide +kernel)
/-- one of its entries is wrong -/
def BadE (H : Hp) (M : Bk) (z : Str) (v : V) : Prop :=
  (¬ z ∈ M.names ∧ z.length ≤ 1000) ∨ (z ∈ M.names ∧ ∃ e, FlV H v e ∧ ShortD e ∧ wholeD e = false) ∨ ∃ k x, M.names[k]? = some z ∧ v = .int x ∧ (x < 0 ∨ wholeN (M.stacks.getD k []) < x)
inductive NV (K : PySem.W.Frag) (H : Hp) (M : Bk) : V → Prop
  | nod {v : V} {d : PyData} : Dt K H v d → dictD d = false → NV K H M v
  | siz {d : Addr} {ks vs : List V} : AnyD H d ks vs → ks.length ≠ M.names.length → NV K H M (.ref d)
  | bad {d : Addr} {zs : List Str} {ws : List V} {i : Nat} {z : Str} {v : V} : H d = some (.dK (dct zs ws)) → zs.length = ws.length → zs.length = M.names.length → zs[i]? = some z → ws[i]? = some v →
      (∀ j, j < i → ∃ k y x, zs[j]? = some y ∧ ws[j]? = some (.int x) ∧ M.names[k]? = some y ∧ 0 ≤ x ∧ x ≤ wholeN (M.stacks.getD k [])) → BadE H M z v → NV K H M (.ref d)
theorem BadE.keep {H H' : Hp} {M : Bk} {z : Str} {v : V} (h : BadE H M z v) (k : ∀ c o, H c = some o → ((∃ xs, o = .lst xs) ∨ ∃ xs, o = .tup xs) → H' c = some o) : BadE H' M z v := by
  rcases h with h | ⟨h, e, f, r⟩ | h
  · exact .inl h
  · exact .inr (.inl ⟨h, e, f.keep k, r⟩)
  · exact .inr (.inr h)
theorem NV.same {K : PySem.W.Frag} {H H' : Hp} {M : Bk} {v : V} (h : NV K H M v) (s : Same H H') : NV K H' M v := by
  cases h with
  | nod a b => exact .nod (Dt.same s _ a) b
  | siz a b => exact .siz (a.same fun o e => s _ _ e) b
  | bad a b c d e f g => exact .bad (s _ _ a) b c d e f (g.keep fun c o q _ => s c o q)
theorem dct_at {zs : List Str} {ws : List V} {i : Nat} {z : Str} {v : V} (h1 : zs[i]? = some z) (h2 : ws[i]? = some v) : (dct zs ws)[i]? = some (Sum.inr z, v) := by
  unfold dct
  rw [List.getElem?_map, List.getElem?_zip_eq_some (z := (z, v)) |>.mpr ⟨h1, h2⟩]
  rfl
section
variable {P : Program} {w : World} {K : PySem.W.Frag} {mg : Str → Option Value} {base : Heap}
def spNIs (K : PySem.W.Frag) (C : Addr) : Sp := fun vs H Q _ => ∃ (b : Addr) (M : Bk) (v : V), vs = [.ref b, v] ∧ BookAt K C H b M ∧ M.Ok ∧ NV K H M v ∧ ∀ H', Same H H' → Q (.bl false) H'
set_option maxHeartbeats 2000000 in
theorem no_isV {f f1 f2 f3 f4 C : Addr} {fd fd1 fd2 fd3 fd4 : FuncData} (F : Fun K "is_vector" "is_vector" sIsV f fd) (T : ClsF K C) (B : Blt mg) (B3 : Blt3 mg) (PS' : HasM P w K mg base C 1 "persons" ["self"] (spPersons K C) f1 fd1)
    (HS : HasM P w K mg base C 2 "has" ["self", "who"] (spHas K C) f2 fd2) (WH : Has P w K mg base 1 "is_whole" ["thing"] (spBool K wholeD) f3 fd3) (WO : HasM P w K mg base C 5 "whole_of" ["self", "who"] (spCalc K C fun M j _ => wholeN (M.stacks.getD j [])) f4 fd4) :
    FnOk P w K mg base CX0 6 f fd ["book", "thing"] (spNIs K C) := by
  refine F.ok scIsV (fun vs H Q E h => ?_) (fun cdv A outer s H vs Q E hr h => ?_)
  · obtain ⟨_, _, _, rfl, _⟩ := h
    rfl
  · obtain ⟨b, M, v, rfl, hb, ok, nv, q⟩ := h
    have hr1 := hr.mono (show 1 ≤ 5 by decide)
    have hr2 := hr.mono (show 2 ≤ 5 by decide)
    refine ⟨_, pss_cons (ps_if (PW.pt (pw_or (pt_not (pt_val (pe_callB call_isiM (by rfl) B.isi (by decide +kernel) (pa_cons (pv 1) (pa_cons (pe_bltn (v := .ty "dict") (by rfl) B3.dict (by decide +kernel) rfl) pa_nil)))))
        (pw_or1 (pt_cmpR op_ne (pe_callB call_lenM (by rfl) B.len PySem.boot_len (pa_cons (pv 1) pa_nil)) (pe_callB call_len_seq (by rfl) B.len PySem.boot_len (pa_cons (pe_meth0 (pv 0) T.cl PS'.m PS'.ok hr1 PS'.b .nil pass0) pa_nil)) (nomark _))))) (pss_one (ps_ret pe_bl)) pss_nil)
      (pss_cons (ps_lock (ps_for PassesOwn.never rfl (pi_items (pv 1)) (pg_tup rfl (pgs_cons (pg_name (i := 2) scIsV.nd rfl (.inl rfl)) (pgs_cons (pg_name (i := 3) scIsV.nd rfl (.inl rfl)) pgs_nil)))
        (pss_cons (ps_if (PW.pt (pw_or (pt_not (pt_val (pe_meth (pv 0) T.cl HS.m HS.ok hr2 HS.b .nil pass0 (pa_cons (pv 2) pa_nil)))) (pw_or1 (pt_not (pt_val (pe_call WH.ok hr1 (by rfl) WH.g WH.kp WH.b .nil pass0 (pa_cons (pv 3) pa_nil))))))) (pss_one (ps_ret pe_bl)) pss_nil)
        (pss_one (ps_if (PW.pt (pw_or (pt_cmpR op_lt (pv 3) pe_int (nomark _)) (pw_or1 (pt_cmpR op_gt (pv 3) (pe_meth (pv 0) T.cl WO.m WO.ok hr WO.b .nil pass0 (pa_cons (pv 2) pa_nil)) (nomark _))))) (pss_one (ps_ret pe_bl)) pss_nil)))))
      (pss_one (ps_ret pe_bl))), ?_⟩
    obtain ⟨dx, tn, on, wg, ws0, wd, e, _⟩ := hb.ex
    cases nv with
    | @nod _ d hd nd =>
      refine ⟨v, rfl, .inl ⟨v, .ty "dict", _, _, dictD d, rfl, .ty "dict", hd.ty, kit_dict d, _, rfl, ?_⟩⟩
      rw [nd]
      exact iteT (iteT (q _ (Same.refl _)))
    | @siz d ks vs ad ne =>
      have fin : ∀ n : Nat, n ≠ M.names.length → ∀ l, H l = none → decide (V.int (n : Int) = V.int (((M.names.map V.str).length : Nat) : Int)) = false := fun n hn l _ => decide_eq_false fun c => hn (by
        have := V.int.inj c
        rw [List.length_map] at this
        omega)
      rcases ad with hm | ⟨kvs, hk, rfl, rfl⟩
      · refine ⟨.ref d, rfl, .inr ⟨d, ks, vs, rfl, hm, _, rfl, iteF ?_⟩⟩
        refine ⟨.ref d, rfl, .inr ⟨d, ks, vs, rfl, hm, .ref b, rfl, b, dx, _, rfl, e, bf_no (NoF.mk' (by decide +kernel)), b, M, rfl, hb, fun l nl => ⟨l, _, rfl, .inl (.inl (.inl upd_same)), rfl, _, rfl, ?_⟩⟩⟩
        rw [fin _ ne l nl]
        exact iteT (q _ (same_upd nl))
      · refine ⟨.ref d, rfl, .inl ⟨_, .ty "dict", _, _, true, rfl, .ty "dict", .base (.dK hk), kit_ty (by decide +kernel), _, rfl, iteF ?_⟩⟩
        refine ⟨.ref d, rfl, .inl ⟨d, _, rfl, hk, .ref b, rfl, b, dx, _, rfl, e, bf_no (NoF.mk' (by decide +kernel)), b, M, rfl, hb, fun l nl => ⟨l, _, rfl, .inl (.inl (.inl upd_same)), rfl, _, rfl, ?_⟩⟩⟩
        rw [List.length_map] at ne
        rw [fin _ ne l nl]
        exact iteT (q _ (same_upd nl))
    | @bad d zs ws i z v hd lz ln ez ev good bd =>
      have lk : (dct zs ws).length = zs.length := dct_len lz.symm
      refine ⟨.ref d, rfl, .inl ⟨_, .ty "dict", _, _, true, rfl, .ty "dict", .base (.dK hd), kit_ty (by decide +kernel), _, rfl, iteF ?_⟩⟩
      refine ⟨.ref d, rfl, .inl ⟨d, _, rfl, hd, .ref b, rfl, b, dx, _, rfl, e, bf_no (NoF.mk' (by decide +kernel)), b, M, rfl, hb, fun l nl => ⟨l, _, rfl, .inl (.inl (.inl upd_same)), rfl, _, rfl, ?_⟩⟩⟩
      have s1 := same_upd (o := .lst (M.names.map V.str)) nl
      generalize upd H l (.lst (M.names.map V.str)) = H1 at s1
      rw [show (decide (V.int ((dct zs ws).length : Int) = V.int ((M.names.map V.str).length : Int))) = true from decide_eq_true (by rw [lk, List.length_map, ln])]
      have hd1 := s1 _ _ hd
      have hb1 := book_same hb s1
      refine iteF ⟨d, _, hd1, trivial, fun od => ?_⟩
      have hbL := hb1.keep (kp_lock (od := od) hd1)
      have bdL : BadE (upd H1 d (.frz od (.dK (dct zs ws)))) M z v := bd.keep fun c o ec lt => by
        have nc : c ≠ d := fun c' => by
          rw [c', hd] at ec
          cases ec
          rcases lt with ⟨_, e⟩ | ⟨_, e⟩ <;> cases e
        rw [upd_ne nc]
        exact s1 _ _ ec
      obtain ⟨dx, tn, on, wg, ws0, wd, e, _⟩ := hbL.ex
      have hdL : upd H1 d (.frz od (.dK (dct zs ws))) d = some (.frz od (.dK (dct zs ws))) := upd_same
      have un : ∀ H', Same (upd H1 d (.frz od (.dK (dct zs ws)))) H' → Same H1 (upd H' d (.dK (dct zs ws))) := fun H' s' => same_unlock hd1 s'
      generalize upd H1 d (.frz od (.dK (dct zs ws))) = HL at hbL e hdL un bdL
      have out : ∀ H', Same HL H' → H' d = some (.frz od (.dK (dct zs ws))) ∧ Q (.bl false) (upd H' d (.dK (dct zs ws))) := fun H' s' => ⟨s' _ _ hdL, q _ (s1.trans (un _ s'))⟩
      have il : i < zs.length := (List.getElem?_eq_some_iff.mp ez).1
      refine ⟨.ref d, rfl, d, od, _, rfl, hdL, ?_⟩
      refine for_it (walk_items (kvs := dct zs ws)) (fun j σ H' => j ≤ i ∧ ∃ y2 y3, σ = [some (.ref b), some (.ref d), y2, y3] ∧ Same HL H') ⟨Nat.zero_le _, _, _, rfl, Same.refl _⟩ (fun j σ H' _ hP => ?_) (fun j x σ H2' H2 hj hP hY => ?_) (fun σ H' hP => ?_)
      · obtain ⟨_, _, _, _, s1⟩ := hP
        exact s1 _ _ hdL
      · obtain ⟨Tt, x1, x2, rfl, nT, rfl, e1, e2⟩ := hY
        obtain ⟨ji, y2, y3, rfl, s2⟩ := hP
        have e1' : (dct zs ws)[j]?.map (fun kv => kV kv.1) = some x1 := e1
        have e2' : (dct zs ws)[j]?.map Prod.snd = some x2 := e2
        by_cases hji : j < i
        · obtain ⟨k, y, m, g1, g2, g3, r0, r1⟩ := good j hji
          rw [dct_at g1 g2] at e1' e2'
          have ex1 : x1 = .str y := (Option.some.inj e1').symm
          have ex2 : x2 = .int m := (Option.some.inj e2').symm
          subst ex1 ex2
          have hm : y ∈ M.names := List.mem_of_getElem? g3
          have s3 := s2.trans (same_upd (o := .tup [V.str y, V.int m]) nT)
          have hT : upd H2' Tt (.tup [V.str y, V.int m]) Tt = some (.tup [V.str y, V.int m]) := upd_same
          generalize upd H2' Tt (.tup [V.str y, V.int m]) = H3 at s3 hT
          refine ⟨Tt, [.str y, .int m], rfl, .inl (.inl hT), rfl, _, _, rfl, _, _, rfl, rfl, ?_⟩
          have lz := (nameT_len (ok.nm y hm)).2
          refine ⟨.ref b, rfl, b, dx, _, rfl, s3 _ _ e, bf_no (NoF.mk' (by decide +kernel)), .str y, rfl, b, M, .str y, .str y, rfl, book_same hbL s3, ok.names, .str y, (fun y' ey => by cases ey; omega), fun H4 s4 => ⟨_, rfl, ?_⟩⟩
          have eh : hasD M (.str y) = true := decide_eq_true hm
          rw [eh]
          refine iteF ⟨.int m, rfl, .int m, .int m, rfl, .int m, (fun y ey => by cases ey), fun H5 s5 => ⟨_, rfl, iteF ⟨.int m, rfl, _, _, rfl, rfl, _, rfl, ?_⟩⟩⟩
          rw [show decide (m < 0) = false from decide_eq_false (by omega)]
          have s35 := s3.trans (s4.trans s5)
          refine iteF ⟨.int m, rfl, .ref b, rfl, b, dx, _, rfl, s35 _ _ e, bf_no (NoF.mk' (by decide +kernel)), .str y, rfl, b, M, y, k, rfl, book_same hbL s35, ok, g3, fun H6 s6 => ⟨_, _, rfl, rfl, _, rfl, ?_⟩⟩
          show if decide (wholeN (M.stacks.getD k []) < m) = true then _ else _
          rw [show decide (wholeN (M.stacks.getD k []) < m) = false from decide_eq_false (by omega)]
          exact iteF ⟨hji, _, _, rfl, s35.trans s6⟩
        · have ej : j = i := by omega
          subst ej
          rw [dct_at ez ev] at e1' e2'
          have ex1 : x1 = .str z := (Option.some.inj e1').symm
          have ex2 : x2 = v := (Option.some.inj e2').symm
          subst ex1 ex2
          have s3 := s2.trans (same_upd (o := .tup [V.str z, x2]) nT)
          have hT : upd H2' Tt (.tup [V.str z, x2]) Tt = some (.tup [V.str z, x2]) := upd_same
          generalize upd H2' Tt (.tup [V.str z, x2]) = H3 at s3 hT
          refine ⟨Tt, [.str z, x2], rfl, .inl (.inl hT), rfl, _, _, rfl, _, _, rfl, rfl, ?_⟩
          rcases bdL with ⟨nm, zl⟩ | ⟨hm, ee, fl, sd, nw⟩ | ⟨k, x, g3, rfl, r⟩
          · refine ⟨.ref b, rfl, b, dx, _, rfl, s3 _ _ e, bf_no (NoF.mk' (by decide +kernel)), .str z, rfl, b, M, .str z, .str z, rfl, book_same hbL s3, ok.names, .str z, (fun y' ey => by cases ey; exact zl), fun H4 s4 => ⟨_, rfl, ?_⟩⟩
            have eh : hasD M (.str z) = false := decide_eq_false nm
            rw [eh]
            exact iteT (iteT (out _ (s3.trans s4)))
          · have lz := (nameT_len (ok.nm z hm)).2
            refine ⟨.ref b, rfl, b, dx, _, rfl, s3 _ _ e, bf_no (NoF.mk' (by decide +kernel)), .str z, rfl, b, M, .str z, .str z, rfl, book_same hbL s3, ok.names, .str z, (fun y' ey => by cases ey; omega), fun H4 s4 => ⟨_, rfl, ?_⟩⟩
            have eh : hasD M (.str z) = true := decide_eq_true hm
            rw [eh]
            refine iteF ⟨x2, rfl, x2, ee, rfl, Dt.same (s3.trans s4) _ fl.dt, sd, fun H5 s5 => ⟨_, rfl, ?_⟩⟩
            rw [nw]
            exact iteT (out _ (s3.trans (s4.trans s5)))
          · have hm : z ∈ M.names := List.mem_of_getElem? g3
            have lz := (nameT_len (ok.nm z hm)).2
            refine ⟨.ref b, rfl, b, dx, _, rfl, s3 _ _ e, bf_no (NoF.mk' (by decide +kernel)), .str z, rfl, b, M, .str z, .str z, rfl, book_same hbL s3, ok.names, .str z, (fun y' ey => by cases ey; omega), fun H4 s4 => ⟨_, rfl, ?_⟩⟩
            have eh : hasD M (.str z) = true := decide_eq_true hm
            rw [eh]
            refine iteF ⟨.int x, rfl, .int x, .int x, rfl, .int x, (fun y ey => by cases ey), fun H5 s5 => ⟨_, rfl, iteF ⟨.int x, rfl, _, _, rfl, rfl, _, rfl, ?_⟩⟩⟩
            have s35 := s3.trans (s4.trans s5)
            by_cases x0 : x < 0
            · rw [show decide (x < 0) = true from decide_eq_true x0]
              exact iteT (iteT (out _ s35))
            · rw [show decide (x < 0) = false from decide_eq_false x0]
              refine iteF ⟨.int x, rfl, .ref b, rfl, b, dx, _, rfl, s35 _ _ e, bf_no (NoF.mk' (by decide +kernel)), .str z, rfl, b, M, z, k, rfl, book_same hbL s35, ok, g3, fun H6 s6 => ⟨_, _, rfl, rfl, _, rfl, ?_⟩⟩
              show if decide (wholeN (M.stacks.getD k []) < x) = true then _ else _
              rw [show decide (wholeN (M.stacks.getD k []) < x) = true from decide_eq_true (r.resolve_left x0)]
              exact iteT (out _ (s35.trans s6))
      · obtain ⟨ji, _⟩ := hP
        rw [lk] at ji
        omega
def spNVe (K : PySem.W.Frag) (C D : Addr) : Sp := fun vs H _ E => ∃ (b : Addr) (M : Bk) (v : V), vs = [.ref b, v] ∧ BookAt K C H b M ∧ M.Ok ∧ NV K H M v ∧ ∀ H', Same H H' → E (.ref D) none H'
theorem no_ckV {f f1 C D CB : Addr} {fd fd1 : FuncData} (F : Fun K "check_vector" "check_vector" sCkV f fd) (PV : ClsP K mg "NoVector" D CB) (IV : Has P w K mg base 6 "is_vector" ["book", "thing"] (spNIs K C) f1 fd1) : FnOk P w K mg base (L2.CX P w) 7 f fd ["book", "thing"] (spNVe K C D) := by
  refine F.okX scCkV (fun vs H Q E h => ?_) (fun cdv A outer s H vs Q E hr h => ?_)
  · obtain ⟨_, _, _, rfl, _⟩ := h
    rfl
  · obtain ⟨b, M, v, rfl, hb, ok, nv, q⟩ := h
    refine ⟨_, pss_one (ps_if (pt_not (pt_val (pe_call IV.ok hr (by rfl) IV.g IV.kp IV.b .nil pass0 (pa_cons (pv 0) (pa_cons (pv 1) pa_nil))))) (pss_one (ps_raise rfl (takes_of rfl rfl rfl rfl) (pmk_own PySem.F.excBase_ValueError PV.xP PV.gP PV.kP (raises_own PV.bP PV.tP) rfl))) pss_nil), ?_⟩
    exact ⟨.ref b, rfl, v, rfl, b, M, v, rfl, hb, ok, nv, fun H1 s1 => ⟨_, rfl, iteT (q H1 s1)⟩⟩
theorem no_enB {f f1 C D : Addr} {fd fd1 : FuncData} (F : Fun K "ends_by" "ends_by" sEnB f fd) (CV : HasX P w K mg base 7 "check_vector" ["book", "thing"] (spNVe K C D) f1 fd1) : FnOk P w K mg base (L2.CX P w) 8 f fd ["book", "vector"] (spNVe K C D) := by
  refine F.okX scEnB (fun vs H Q E h => ?_) (fun cdv A outer s H vs Q E hr h => ?_)
  · obtain ⟨_, _, _, rfl, _⟩ := h
    rfl
  obtain ⟨b, M, v, rfl, hx⟩ := h
  exact ⟨_, pss_cons (ps_expr (pe_call CV.ok hr (by rfl) CV.g CV.kp CV.b .nil (passes_call (takes_of rfl rfl rfl rfl) fun _ _ _ _ z => z) (pa_cons (pv 0) (pa_cons (pv 1) pa_nil)))) pss_never, .ref b, rfl, v, rfl, b, M, v, rfl, hx⟩
theorem no_isC {f f1 C D : Addr} {fd fd1 : FuncData} (F : Fun K "is_covered" "is_covered" sIsC f fd) (EB : HasX P w K mg base 8 "ends_by" ["book", "vector"] (spNVe K C D) f1 fd1) : FnOk P w K mg base (L2.CX P w) 9 f fd ["book", "vector"] (spNVe K C D) := by
  refine F.okX scIsC (fun vs H Q E h => ?_) (fun cdv A outer s H vs Q E hr h => ?_)
  · obtain ⟨_, _, _, rfl, _⟩ := h
    rfl
  obtain ⟨b, M, v, rfl, hx⟩ := h
  exact ⟨_, pss_cons (ps_set (i := 2) scIsC.nd rfl (.inr rfl) (pe_call EB.ok hr (by rfl) EB.g EB.kp EB.b .nil (passes_call (takes_of rfl rfl rfl rfl) fun _ _ _ _ z => z) (pa_cons (pv 0) (pa_cons (pv 1) pa_nil)))) pss_never, .ref b, rfl, v, rfl, b, M, v, rfl, hx⟩
end
end Rc

namespace Rc
open PySem PySem.Spec PyProof.Rows L2 RZ
/-! ### tuple(d.items()) -/
section
variable {prog : Program} {w : World} {A : Around} {E : Value → Shared → Prop} {s : Shared}
theorem code_tuple_items {r d : Addr} {es : Array DictEntry} {ep : Nat} {Q₁ : Value → Shared → Prop} (hh : A.handled = none) (hv : s.heap.IsItemsView r d) (hm : DT.Raw s.heap d es ep) (hn : es.size ≤ sizeLine)
    (h : ∀ (h' : Heap) (tk : Nat) (as : List Addr), (∀ b o, s.heap.get? b = some o → h'.get? b = some o) → as.length = es.size → DT.Made es s.heap.objs.size h' as →
      Q₁ (.ref h'.objs.size) { s with heap := h'.push { cls := .type "tuple", data := .seq (as.map Value.ref).toArray }, toks := tk }) :
    codeAny (model prog w) A (.call (.builtin "tuple.__new__") ⟨[.type "tuple", .ref r], []⟩) (wants Q₁ E) s := by
  refine codeAny_of_tree ?_
  show wpAny _ A.in1 (do checkBuiltinCall "tuple.__new__" ⟨[.type "tuple", .ref r], []⟩; again (.builtin "tuple.__new__" ⟨[.type "tuple", .ref r], []⟩)) _ _ s
  refine wpAny_bind (wpAny_of_eq (PySem.F.newCall_tuple_1 _) (wpAny_pure ⟨plainId_quiet PySem.F.plain_tuple_new _, codeAny_builtin PySem.F.entry_tuple_new ?_⟩))
  rw [Around.under_plainId PySem.F.plain_tuple_new _]
  have hsub := sub_tuple_self
  have hinit := init_tuple_lookup
  have hmh := madeHere_tuple
  have hTI : s.TypeIs (.ref r) "dict_items" := hv.typeIs
  have hh1 : A.in1.handled = none := hh
  wp_walk using wpAny_typeOf hTI, DT.collectI (A := A.in1) hh1 hv hm hn
  intro h' tk as hk hlt hl hG
  show wpAny _ _ (Builtin.Tuple.tupleExact (as.map Value.ref).toArray >>= fun v => ret v) _ _ _
  unfold Builtin.Tuple.tupleExact
  refine wpAny_bind (wpAny_newObj_type ?_ (by show (as.map Value.ref).toArray.size ≤ sizeLine; rw [List.size_toArray, List.length_map, hl]; exact hn))
  exact wpAny_pure (h h' tk as hk hl hG)
theorem call_tuple_items {r d : Addr} {es : Array DictEntry} {ep : Nat} {Q : Value → Shared → Prop} (hh : A.handled = none) (hv : s.heap.IsItemsView r d) (hm : DT.Raw s.heap d es ep) (hn : es.size ≤ sizeLine)
    (hQ : ∀ (h' : Heap) (tk : Nat) (as : List Addr), (∀ b o, s.heap.get? b = some o → h'.get? b = some o) → as.length = es.size → DT.Made es s.heap.objs.size h' as →
      Q (.ref h'.objs.size) { s with heap := h'.push { cls := .type "tuple", data := .seq (as.map Value.ref).toArray }, toks := tk }) :
    wpAny (model prog w) A (call (.type "tuple") [.ref r]) Q E s := by
  refine callType_codes (Q₁ := fun obj s₁ => s₁.TypeIs obj "tuple" ∧ Q obj s₁) PySem.F.called_tuple (PySem.F.typeCall_tuple_1 _) PySem.F.entry_object_init
    (code_tuple_items (A := A.in1) hh hv hm hn fun h' tk as hk hl hG => ⟨⟨_, Heap.get?_push_size _ rfl, rfl⟩, hQ h' tk as hk hl hG⟩) fun obj s₁ h₁ => ?_
  exact ⟨h₁.1, PySem.F.args_object_init_2 obj _, object_init_meets PySem.F.called_tuple.init.lookup PySem.F.called_tuple.made (by decide) prog w A.in1 _ s₁ ⟨h₁.1, rfl, h₁.2⟩⟩
end
section
variable {X : Cx}
/-- d.items() as a thing -/
def rItemsK : V → List V → Hp → VK → Prop := fun x xs H Q => ∃ (a : Addr) (kvs : List (Key × V)), x = .ref a ∧ xs = [] ∧ H a = some (.dK kvs) ∧ ∀ p, H p = none → Q (.ref p) (upd H p (L2.DX.itemsO p a))
theorem mt_itemsK : MtR X "dict.items" rItemsK := by
  intro pins s σ H x xs v us Q I rx rxs h
  obtain ⟨a, kvs, rfl, rfl, ha, q⟩ := h
  cases rx
  cases rxs
  obtain ⟨z, hd, ws, rel, o, es, ep, ho, hx, hdat, _⟩ := dk_of I.hok ha
  refine DT.callItems (es := es) (ep := ep) hd ⟨o, ho, hx, hdat⟩ ?_
  have hf : H s.heap.objs.size = none := I.hok.fresh (Nat.le_refl _)
  exact ⟨.ref s.heap.objs.size, upd H s.heap.objs.size (L2.DX.itemsO s.heap.objs.size a), I.laid (t' := s.toks) (fun b u e => Heap.get?_push_of_some _ e) (Nat.le_refl _) (L2.DX.itemsO_ok (Heap.get?_push_size _ rfl)), rfl, q _ hf⟩
def rTupIt : List V → Hp → VK → Prop := fun xs H Q => ∃ (p a : Addr) (kvs : List (Key × V)), xs = [.ref p] ∧ H p = some (L2.DX.itemsO p a) ∧ H a = some (.dK kvs) ∧
  ∀ (H' : Hp) (q : Addr) (ts : List Addr), Same H H' → ts.length = kvs.length → (∀ (j : Nat) (t : Addr) (kv : Key × V), ts[j]? = some t → kvs[j]? = some kv → H' t = some (.tup [kV kv.1, kv.2])) → H' q = some (.tup (ts.map V.ref)) → Q (.ref q) H'
theorem call_tupIt (hc : X.calm = true) : CallR X (.type "tuple") rTupIt := by
  intro pins s σ H xs us Q I r h
  obtain ⟨p, a, kvs, rfl, hp, ha, q⟩ := h
  obtain rfl := Vals.ref1 r
  have view : s.heap.IsItemsView p a := (show ObjOk X.prog X.w H s.heap p (L2.DX.itemsO p a) from I.hok p _ hp).1
  obtain ⟨z, hd, ws, rel, o, es, ep, ho, hx, hdat, hk0, hpr, _⟩ := dk_of I.hok ha
  obtain ⟨k1, k2⟩ := keys_rel hpr rel
  have les : es.size = kvs.length := by
    have := k1.length
    rw [List.length_map, List.length_map] at this
    simpa using this.symm
  have hh : X.A.handled = none := I.ok.hd hc
  refine call_tuple_items (es := es) (ep := ep) hh view ⟨o, ho, hx, hdat⟩ (by rw [les]; exact z) fun h' tk as hk hl hG => ?_
  have nd : as.Nodup := List.Pairwise.imp (fun h => Nat.ne_of_lt h) hG.rise
  have I1 : Inv X pins σ H { s with heap := h', toks := tk } := I.kept hk
  have pr : ∀ (j : Nat) (t : Addr), as[j]? = some t → ∃ (kv : Key × V) (u v : Value), kvs[j]? = some kv ∧ RelV (kV kv.1) u ∧ RelV kv.2 v ∧ h'.get? t = some { cls := .type "tuple", data := .seq #[u, v] } := fun j t hj => by
    obtain ⟨en, he, hg⟩ := hG.pairs j t hj
    have hje : j < es.size := (Array.getElem?_eq_some_iff.mp he).1
    have hjk : j < kvs.length := by omega
    have e1 : (kvs.map fun p => kV p.1)[j]? = some (kV kvs[j].1) := by rw [List.getElem?_map, List.getElem?_eq_getElem hjk]; rfl
    have e2 : (kvs.map (·.2))[j]? = some kvs[j].2 := by rw [List.getElem?_map, List.getElem?_eq_getElem hjk]; rfl
    obtain ⟨u, g1, r1⟩ := k1.get e1
    obtain ⟨v, g2, r2⟩ := k2.get e2
    rw [List.getElem?_map, Array.getElem?_toList, he] at g1 g2
    have g1' : en.key = u := Option.some.inj g1
    have g2' : en.val = v := Option.some.inj g2
    rw [g1', g2'] at hg
    exact ⟨kvs[j], u, v, List.getElem?_eq_getElem hjk, r1, r2, hg⟩
  obtain ⟨H2, I2, same, tk2⟩ := L2.DX.takeT (P := fun t vs => ∃ (j : Nat) (kv : Key × V), as[j]? = some t ∧ kvs[j]? = some kv ∧ vs = [kV kv.1, kv.2]) I as H I1 nd fun t ht => by
    obtain ⟨j, hj⟩ := List.mem_iff_getElem?.mp ht
    obtain ⟨kv, u, v, ek, r1, r2, hg⟩ := pr j t hj
    have lo := hG.above t ht
    exact ⟨Nat.le_of_lt lo, I.hok.fresh (Nat.le_of_lt lo), [kV kv.1, kv.2], ⟨j, kv, hj, ek, rfl⟩, fun _ => ⟨by show 2 ≤ sizeLine; decide, [u, v], .cons r1 (.cons r2 .nil), ⟨_, hg, rfl, _, rfl⟩⟩⟩
  have at2 : ∀ (j : Nat) (t : Addr) (kv : Key × V), as[j]? = some t → kvs[j]? = some kv → H2 t = some (.tup [kV kv.1, kv.2]) := fun j t kv hj hkv => by
    obtain ⟨vs, ⟨j', kv', h1, h2, h3⟩, h4⟩ := tk2 t (List.mem_of_getElem? hj)
    have ej : j' = j := (List.getElem?_inj (List.getElem?_eq_some_iff.mp h1).1 nd).mp (h1.trans hj.symm)
    subst ej
    rw [hkv] at h2
    cases h2
    rw [h4, h3]
  have nf : H2 h'.objs.size = none := I2.hok.fresh (Nat.le_refl _)
  have lv : (as.map Value.ref).length ≤ sizeLine := by rw [List.length_map, hl, les]; exact z
  have I3 : Inv X pins σ (upd H2 h'.objs.size (.tup (as.map V.ref))) { s with heap := h'.push { cls := .type "tuple", data := .seq (as.map Value.ref).toArray }, toks := tk } :=
    I2.laid (t' := tk) (fun b u e => Heap.get?_push_of_some _ e) (Nat.le_refl _) (show ObjOk X.prog X.w _ _ _ (.tup (as.map V.ref)) from ⟨by rw [List.length_map] at lv ⊢; exact lv, as.map Value.ref, LiI.vals_refs as, IsTup.new _ _⟩)
  refine ⟨.ref h'.objs.size, _, I3, rfl, q _ _ as (Same.trans (fun c o e => same c o e) (same_upd nf)) (by rw [hl, les]) (fun j t kv hj hkv => ?_) upd_same⟩
  have e := at2 j t kv hj hkv
  rw [upd_ne (ne_of_none e nf)]
  exact e
end
end Rc

namespace Rc
open PySem PySem.Spec PyProof.Rows L2 RZ
/-! ### dicts that can be shown -/
structure NiceKv (ps : List (PyData × PyData)) (n : Nat) : Prop where
  sh : PyData.showableKv ps = true
  lv : PyData.leavesShortKv 1921 ps = true
  dp : PyData.depthKv ps ≤ 5
  bk : PyData.bulkKv ps ≤ n
theorem NiceKv.nil : NiceKv [] 0 := ⟨by simp only [PyData.showableKv], by simp only [PyData.leavesShortKv], by simp only [PyData.depthKv]; omega, by simp only [PyData.bulkKv]; omega⟩
theorem NiceKv.cons {k v : PyData} {ps : List (PyData × PyData)} {a b m : Nat} (hk : NiceD k a) (hv : NiceD v b) (h : NiceKv ps m) : NiceKv ((k, v) :: ps) (a + b + 2 + m) := by
  have b1 := hk.bk
  have b2 := hv.bk
  have b3 := h.bk
  have d1 := hk.dp
  have d2 := hv.dp
  have d3 := h.dp
  refine ⟨?_, ?_, ?_, ?_⟩
  · simp only [PyData.showableKv, h.sh, hk.sh, hv.sh, Bool.and_true]
  · simp only [PyData.leavesShortKv, h.lv, hk.lv, hv.lv, Bool.and_true]
  · simp only [PyData.depthKv]; omega
  · simp only [PyData.bulkKv]; omega
theorem NiceKv.app {ps qs : List (PyData × PyData)} {m n : Nat} (h : NiceKv ps m) (h' : NiceKv qs n) : NiceKv (ps ++ qs) (m + n) := by
  obtain ⟨a1, a2, a3, a4⟩ := h
  obtain ⟨b1, b2, b3, b4⟩ := h'
  induction ps generalizing m with
  | nil =>
    refine ⟨b1, b2, b3, ?_⟩
    rw [List.nil_append]
    omega
  | cons q r ih =>
    obtain ⟨k, v⟩ := q
    simp only [PyData.showableKv, Bool.and_eq_true] at a1
    simp only [PyData.leavesShortKv, Bool.and_eq_true] at a2
    simp only [PyData.depthKv] at a3
    simp only [PyData.bulkKv] at a4
    obtain ⟨c1, c2, c3, c4⟩ := ih (m := PyData.bulkKv r) a1.2 a2.2 (by omega) (Nat.le_refl _)
    refine ⟨?_, ?_, ?_, ?_⟩
    · simp only [List.cons_append, PyData.showableKv, c1, a1.1, Bool.and_true]
    · simp only [List.cons_append, PyData.leavesShortKv, c2, a2.1, Bool.and_true]
    · simp only [List.cons_append, PyData.depthKv]; omega
    · simp only [List.cons_append, PyData.bulkKv]; omega
theorem NiceKv.show {ps : List (PyData × PyData)} {n : Nat} (h : NiceKv ps n) (hn : n ≤ 8000) : (PyData.dict ps).showable = true ∧ (PyData.dict ps).depth ≤ 20 ∧ (PyData.dict ps).shown.length ≤ sizeLine := by
  refine ⟨by simp only [PyData.showable]; exact h.sh, by simp only [PyData.depth]; have := h.dp; omega, ?_⟩
  have h1 := PyData.shown_le_bulk 1921 (by decide) (.dict ps) (by simp only [PyData.leavesShort]; exact h.lv)
  have hb : (PyData.dict ps).bulk ≤ n + 1 := by
    have := h.bk
    simp only [PyData.bulk]
    omega
  rw [sizeLine_eq]
  have : (1921 + 2) * (PyData.dict ps).bulk ≤ 1923 * 8001 := Nat.mul_le_mul (Nat.le_refl _) (by omega)
  omega
abbrev numD (zs : List Str) (G : List Int) : List (PyData × PyData) := (zs.zip G).map fun q => (.str q.1, .int q.2)
theorem nice_num {zs : List Str} {G : List Int} (hz : ∀ z ∈ zs, nameT z = true) (hG : ∀ x ∈ G, BigOk x) : NiceKv (numD zs G) (10 * zs.length) := by
  induction zs generalizing G with
  | nil => exact NiceKv.nil
  | cons z r ih =>
    cases G with
    | nil =>
      have : NiceKv [] 0 := NiceKv.nil
      exact ⟨this.1, this.2, this.3, Nat.le_trans this.4 (Nat.zero_le _)⟩
    | cons x G =>
      have h1 := ih (G := G) (fun y hy => hz y (List.mem_cons_of_mem _ hy)) (fun y hy => hG y (List.mem_cons_of_mem _ hy))
      have n1 := nice_text (n := 8) (name_asc (hz z List.mem_cons_self)) (nameT_len (hz z List.mem_cons_self)).2
      have := NiceKv.cons n1 (nice_int (hG x List.mem_cons_self)) h1
      exact ⟨this.1, this.2, this.3, Nat.le_trans this.4 (by rw [List.length_cons]; omega)⟩
theorem flv_strs {H : Hp} : ∀ (zs : List Str) (G : List Int), zs.length = G.length → FlVs H (zs.map V.str) ((numD zs G).map (·.1)) ∧ FlVs H (G.map V.int) ((numD zs G).map (·.2))
  | [], [], _ => ⟨.nil, .nil⟩
  | z :: zs, x :: G, h => by
    obtain ⟨a, b⟩ := flv_strs (H := H) zs G (by simpa using h)
    exact ⟨.cons (.flat (.str z)) a, .cons (.flat (.int x)) b⟩
  | [], _ :: _, h => by simp at h
  | _ :: _, [], h => by simp at h
theorem FlVs.app {H : Hp} {vs us : List V} {ds es : List PyData} (h : FlVs H vs ds) (h' : FlVs H us es) : FlVs H (vs ++ us) (ds ++ es) := by
  induction vs generalizing ds with
  | nil =>
    cases h
    exact h'
  | cons v vs ih =>
    cases h with
    | cons a b => exact .cons a (ih b)
theorem nice_pairs : ∀ {ps : List (Str × Int)}, (∀ n ∈ ps, nameT n.1 = true ∧ BigOk n.2) → NiceA (notesD ps) (11 * ps.length)
  | [], _ => NiceA.nil
  | n :: r, h => by
    obtain ⟨h1, h2⟩ := h n List.mem_cons_self
    have a := NiceA.cons (nice_name h1) (by simp only [PyData.depth]; omega) (NiceA.cons (nice_int h2) (by simp only [PyData.depth]; omega) NiceA.nil)
    have b := nice_pairs fun y hy => h y (List.mem_cons_of_mem _ hy)
    have c := NiceA.cons a.tuple (by simp [PyData.depth, PyData.depthAll]) b
    rw [List.length_cons, show 11 * (r.length + 1) = 8 + 1 + (0 + 1 + 0) + 1 + 11 * r.length by omega]
    exact c
theorem pairs_dt {K : PySem.W.Frag} {H : Hp} : ∀ {ts : List Addr} {ps : List (Str × Int)}, ts.length = ps.length → (∀ (k : Nat) (t : Addr) (q : Str × Int), ts[k]? = some t → ps[k]? = some q → H t = some (.tup [.str q.1, .int q.2])) → DtAll K H (ts.map V.ref) (notesD ps)
  | [], [], _, _ => .nil
  | t :: ts, q :: ps, h, f => .cons (.tup (.inl (.inl (f 0 t q rfl rfl))) (.cons (.str _) (.cons (.int _) .nil))) (pairs_dt (by simpa using h) fun k t' q' h1 h2 => f (k + 1) t' q' (by simpa using h1) (by simpa using h2))
  | [], _ :: _, h, _ => by simp at h
  | _ :: _, [], h, _ => by simp at h
/-- a thing that is no vector, and can be shown, whatever becomes of the pot -/
def Spt (K : PySem.W.Frag) (p : Addr) (H : Hp) (M : Bk) (v : V) : Prop :=
  (∀ G, But p H G → NV K G M v) ∧ ∃ z : Str, ∀ G, But p H G → ∀ Q : VK, Q (.str z) G → rReprG K [v] G Q
theorem Spt.data {K : PySem.W.Frag} {p : Addr} {H : Hp} {M : Bk} {v : V} {d : PyData} (h : ∀ G, But p H G → Dt K G v d) (nd : dictD d = false) (so : ShowOk d) : Spt K p H M v :=
  ⟨fun G b => .nod (h G b) nd, _, fun G b Q q => .inl ⟨v, d, rfl, h G b, so.sh, so.tp, so.dp, so.ft, q⟩⟩
theorem Spt.dict {K : PySem.W.Frag} {p d : Addr} {H : Hp} {M : Bk} {ks vs : List V} {ps : List (PyData × PyData)} {n : Nat} (hn : ∀ G, But p H G → NV K G M (.ref d)) (ha : ∀ G, But p H G → AnyD G d ks vs) (hk : ∀ G, But p H G → FlVs G ks (ps.map (·.1))) (hv : ∀ G, But p H G → FlVs G vs (ps.map (·.2))) (nk : NiceKv ps n) (l : n ≤ 8000) : Spt K p H M (.ref d) := by
  obtain ⟨a, b, c⟩ := nk.show l
  exact ⟨hn, _, fun G g Q q => .inr ⟨d, ks, vs, ps, rfl, ha G g, hk G g, hv G g, a, b, c, q⟩⟩
/-- either kind of store -/
def rSetAny : TSet := fun o i v H Q => rSetD o i v H Q ∨ rSetM o i v H Q
theorem set_any {X : Cx} (hu : X.A.units + 1 < cLine) : PSet X rSetAny := fun pins s σ H o i v ov iv u Q I ro ri rv h => h.elim (set_dict hu pins s σ H o i v ov iv u Q I ro ri rv) (set_mx hu pins s σ H o i v ov iv u Q I ro ri rv)
theorem dct_drop {zs : List Str} {ws : List V} {j : Nat} {z : Str} (nd : zs.Nodup) (lz : zs.length = ws.length) (e : zs[j]? = some z) : dropK (dct zs ws) (Sum.inr z) = dct (zs.eraseIdx j) (ws.eraseIdx j) := by
  induction zs generalizing ws j with
  | nil => simp at e
  | cons y r ih =>
    cases ws with
    | nil => simp at lz
    | cons w ws =>
      rw [List.nodup_cons] at nd
      have lz' : r.length = ws.length := by simpa using lz
      cases j with
      | zero =>
        obtain rfl : y = z := by simpa using e
        show ((Sum.inr y, w) :: dct r ws).filter _ = dct r ws
        rw [List.filter_cons_of_neg (by simp)]
        refine List.filter_eq_self.mpr fun kv hk => decide_eq_true (dct_nokey nd.1 kv hk)
      | succ j =>
        have e' : r[j]? = some z := by simpa using e
        have ne : ¬ y = z := fun c => nd.1 (by rw [c]; exact List.mem_of_getElem? e')
        show ((Sum.inr y, w) :: dct r ws).filter _ = (Sum.inr y, w) :: dct (r.eraseIdx j) (ws.eraseIdx j)
        rw [List.filter_cons_of_pos (by simpa using fun c : (Sum.inr y : Key) = Sum.inr z => ne (Sum.inr.inj c))]
        congr 1
        exact ih nd.2 lz' e'
section
variable {P : Program} {w : World} {K : PySem.W.Frag} {mg : Str → Option Value} {base : Heap}
/-! ### _law_no_shares -/
abbrev sLNs : Stmt := topS 64
abbrev nLNs : List Str := ["_law_pot_here", "_law_model_here", "_law_shares_here", "_law_owner", "_law_whole", "_law_odd", "_law_spoilt", "_law_way", "_law_goal", "_law_coins"]
theorem scLNs : FnScope nLNs ["_law_pot_here", "_law_model_here", "_law_shares_here"] (defScope sLNs) := ⟨rfl, rfl, rfl, by decide +kernel, rfl, by decide +kernel, by decide +kernel⟩
def spLNs61 (K : PySem.W.Frag) : Sp := fun vs H Q _ => ∃ (p : Addr) (a : MdA) (D : Md) (zs : List Str) (d : Addr) (G : List Int), vs = [.ref p, .ref a.m, .ref d] ∧ Pot H p ∧ ModelAt K H zs a D ∧ ¬ a.Has p ∧ Gs zs D ∧ H d = some (.dK (dct zs (G.map V.int))) ∧ VecOk (bkOf zs D) G ∧
  ∀ v H', Pot H' p → But p H H' → Spt K p H' (bkOf zs D) v → Q v H'
set_option maxHeartbeats 4000000 in
theorem ok_lns61 {f fT fA : Addr} {fd fdT fdA : FuncData} (F : Fun K "_law_no_shares" "_law_no_shares" sLNs f fd) (B : Blt mg) (B2 : Blt2 mg) (B3 : Blt3 mg) (TK : HasTake P w K mg base fT fdT) (AM : HasAmong P w K mg base fA fdA) :
    FnOk P w K mg base CX0 3 f fd ["_law_pot_here", "_law_model_here", "_law_shares_here"] (spLNs61 K) := by
  refine F.ok scLNs (fun vs H Q E h => ?_) (fun cdv Ar outer s H vs Q E0 hr h => ?_)
  · obtain ⟨_, _, _, _, _, _, rfl, _⟩ := h
    rfl
  · obtain ⟨p, a, D, zs, d, G, rfl, hp, hM, np, g, hd, vo, q⟩ := h
    have hu := hu_of hr
    have hr1 := hr.mono (show 1 ≤ 2 by decide)
    refine ⟨_, (pss_cons (ps_set (i := 3) scLNs.nd rfl (.inl rfl) (pe_call AM.ok hr (by rfl) AM.g AM.kp AM.b .nil pass0 (pa_cons (pv 0) (pa_cons (pe_dget hu (pv 1) pe_str (fun _ _ => rfl)) pa_nil)))) (C8.pss_cut (ps_set (i := 4) scLNs.nd rfl (.inl rfl) (pe_callB (cr_sum rfl) (by rfl) B3.sum (by decide +kernel) (pa_cons (pe_lc (own := [("_law_goal", 8), ("_law_coins", 9)]) (g := gTup K 2 (gCons (gName 8) (gCons (gName 9) gNil))) (tt := tYes) rfl scLNs.nd (pi_list (pe_dget hu (pe_dget hu (pv 1) pe_str (fun _ _ => rfl)) (pv 3) (fun _ _ => rfl))) (blkOk_by (N := nLNs) (sc := defScope sLNs) (own := [("_law_goal", 8), ("_law_coins", 9)]) (by decide +kernel)) (fun _ _ _ _ _ => pg_tup rfl (pgs_cons (pg_name (i := 8) scLNs.nd rfl (.inl rfl) (hf := .inr rfl)) (pgs_cons (pg_name (i := 9) scLNs.nd rfl (.inl rfl) (hf := .inr rfl)) pgs_nil))) (fun _ _ _ _ _ => pts_nil) (fun _ _ _ _ _ => pv 9)) pa_nil))) (C8.pss_cut (ps_set (i := 5) scLNs.nd rfl (.inl rfl) (pe_lst (pa_cons (pe_un un_neg pe_int) (pa_cons (pe_op op_add (pv 4) pe_int) (pa_cons pe_bl (pa_cons pe_non (pa_cons pe_str (pa_cons (pe_lstN (pa_cons pe_int pa_nil)) (pa_cons (pe_tup (pa_cons pe_int pa_nil)) (pa_cons (pe_op op_add (pv 4) (pe_op op_pow pe_int pe_int)) (pa_cons (pe_op op_sub (pe_un un_neg pe_int) (pv 4)) pa_nil))))))))))) (pss_cons (ps_set (i := 6) scLNs.nd rfl (.inl rfl) (pe_callTy call_dictD (by rfl) B3.dict (by decide +kernel) (pa_cons (pv 2) pa_nil))) (pss_cons (ps_set (i := 7) scLNs.nd rfl (.inl rfl) (pe_call TK.ok hr1 (by rfl) TK.g TK.kp TK.b .nil pass0 (pa_cons (pv 0) (pa_cons pe_int pa_nil)))) (pss_cons (ps_if (pt_cmpR op_eq (pv 7) pe_int (nomark _)) (pss_one (ps_ret (pe_ix ix_list (pe_lst (pa_cons pe_non (pa_cons pe_int (pa_cons pe_str (pa_cons (pe_lst pa_nil) (pa_cons (pe_callTy (L2.call_listD rfl) (by rfl) B3.list (by decide +kernel) (pa_cons (pv 2) pa_nil)) (pa_cons (pe_callTy (call_tupIt rfl) (by rfl) B3.tuple (by decide +kernel) (pa_cons (pe_bm0 PySem.F.plainAttrs_dict PySem.F.slot_dict_items PySem.F.type_dict_items mt_itemsK (pv 2)) pa_nil)) (pa_cons pe_bl (pa_cons (pe_disp (pps_cons pe_str pe_int pps_nil) (by rfl) (by rfl) (fun z => by cases z) (by show 1 ≤ 15; decide)) pa_nil))))))))) (pe_call TK.ok hr1 (by rfl) TK.g TK.kp TK.b .nil pass0 (pa_cons (pv 0) (pa_cons pe_int pa_nil))) (fun _ _ => rfl)))) pss_nil) (pss_cons (ps_if (pt_cmpR op_eq (pv 7) pe_int (nomark _)) (pss_one (ps_expr (pe_dpop1 (pv 6) (pv 3) ⟨by rfl, by rfl, by rfl, by rfl⟩))) (pss_one (ps_if (pt_cmpR op_eq (pv 7) pe_int (nomark _)) (pss_one (ps_asg pe_int (pg_sub (pv 6) (pe_ix ix_list (pe_lst (pa_cons pe_str (pa_cons pe_str (pa_cons pe_non (pa_cons pe_int (pa_cons (pe_tup (pa_cons pe_str pa_nil)) pa_nil)))))) (pe_call TK.ok hr1 (by rfl) TK.g TK.kp TK.b .nil pass0 (pa_cons (pv 0) (pa_cons pe_int pa_nil))) (fun _ _ => rfl)) (set_any hu)))) (pss_one (ps_if (pt_cmpR op_eq (pv 7) pe_int (nomark _)) (pss_cons (ps_expr (pe_dpop1 (pv 6) (pv 3) ⟨by rfl, by rfl, by rfl, by rfl⟩)) (pss_one (ps_asg pe_int (pg_sub (pv 6) pe_str (set_any hu))))) (pss_one (ps_asg (pe_call AM.ok hr (by rfl) AM.g AM.kp AM.b .nil pass0 (pa_cons (pv 0) (pa_cons (pv 5) pa_nil))) (pg_sub (pv 6) (pv 3) (set_any hu))))))))) (pss_one (ps_ret (pv 6)))))))))), ?_⟩
    have n0 := g.nz.n0
    have n1 := g.nz.n1
    have lG : G.length = zs.length := vo.len
    have lGV : zs.length = (G.map V.int).length := by rw [List.length_map, lG]
    have dnp : d ≠ p := fun z => by
      obtain ⟨_, _, e, _⟩ := hp
      rw [← z, hd] at e
      cases e
    have nlop : a.lo ≠ p := fun z => np (.inr (.inl z.symm))
    have ndp : a.dn ≠ p := fun z => np (.inr (.inr (.inr (.inr (.inl z.symm)))))
    -- one of them
    refine ⟨.ref p, rfl, .ref a.m, rfl, a.m, .ref a.lo, rfl, hM.g0, p, .ref a.lo, rfl, hp, .inr ⟨a.lo, zs.map V.str, rfl, nlop, hM.ho, by rw [List.length_map]; omega, by rw [List.length_map]; omega, fun x H1 hx hp1 b1 => ?_⟩⟩
    obtain ⟨z, hz, rfl⟩ := List.mem_map.mp hx
    obtain ⟨j, ej⟩ := List.mem_iff_getElem?.mp hz
    have hj : j < zs.length := (List.getElem?_eq_some_iff.mp ej).1
    have hM1 := model_but hM b1 hp np
    obtain ⟨gv, f', l, r, xs, eg, ef, el, er, hr0, dr0⟩ := hM1.at_ ej
    have hlm := List.mem_of_getElem? el
    have ll := g.rows l hlm
    obtain ⟨W0, W1⟩ := g.wholeB hlm
    have lx : xs.length = l.length := by
      rw [dr0.len]
      unfold notesD
      rw [List.length_map]
    have eM : (bkOf zs D).stacks[j]? = some l := el
    have eN : (bkOf zs D).names[j]? = some z := ej
    refine ⟨fun σ H' => σ = [some (.ref p), some (.ref a.m), some (.ref d), some (.str z), some (.int (wholeN l)), none, none, none, none, none] ∧ Same H1 H', ?_, fun σ H2 hR => ?_⟩
    · refine ⟨.ref a.m, rfl, a.m, .ref a.dn, rfl, hM1.g3, .str z, rfl, a.dn, .ref r, rfl, hM1.gn ej er, ?_⟩
      refine ⟨r, rfl, ⟨_, .inl (.inl hr0)⟩, fun D1 nD1 => ?_⟩
      refine lc_it (walk_list (K := K) (a := r) (xs := xs)) (fun i' H' => Same H1 H' ∧ H' D1 = some (.lst ((l.take i').map fun n => .int n.2))) ⟨same_upd nD1, upd_same⟩ (fun i' H' _ hP => hP.1.seq (.inl (.inl hr0)))
        (fun i' x' H2' H2 hi' hP hY => ?_) (fun H2 hP => ?_)
      · obtain ⟨rfl, hx'⟩ := hY
        obtain ⟨hil, dn⟩ := (DtAll.same hP.1 _ dr0).notes_get hx'
        obtain ⟨na, rfl, qn⟩ := note_inv dn
        refine ⟨na, _, rfl, qn, rfl, _, _, rfl, _, _, rfl, rfl, rfl, _, rfl, _, hP.2, ?_, fun c o ec => ?_, ?_⟩
        · rw [List.length_map, List.length_take]
          exact small1000 (by omega)
        · rw [upd_ne (ne_of_none ec nD1)]
          exact hP.1 c o ec
        · rw [upd_same, take_succ hil, List.map_append]
          rfl
      · obtain ⟨s2, hD1⟩ := hP
        refine ⟨D1, l.map (·.2), rfl, .inl (.inl ?_), rfl, s2⟩
        rw [hD1, lx, List.take_length, List.map_map]
        rfl
    obtain ⟨rfl, s2⟩ := hR
    -- odd numbers
    refine ⟨fun σ H' => ∃ O L T : Addr, σ = [some (.ref p), some (.ref a.m), some (.ref d), some (.str z), some (.int (wholeN l)), some (.ref O), none, none, none, none] ∧ Same H2 H' ∧ H2 O = none ∧ L ≠ sysModules ∧ L ≠ p ∧ T ≠ p ∧ O ≠ p ∧ H' L = some (.lst [.int 0]) ∧ H' T = some (.tup [.int 0]) ∧
      H' O = some (.lst [.int (-1), .int (wholeN l + 1), .bl true, .non, .str "0", .ref L, .ref T, .int (wholeN l + 10 ^ 59), .int (-1 - wholeN l)]), ?_, fun σ H3 hR => ?_⟩
    · refine ⟨1, rfl, .int (wholeN l), rfl, _, _, rfl, rfl, by show 1 ≤ sizeLine; decide, fun L nL Ls => ⟨by show 1 ≤ sizeLine; decide, fun T nT => ?_⟩⟩
      have t1 := same_upd (o := .lst [V.int 0]) nL
      have h1 : upd H2 L (.lst [V.int 0]) L = some (.lst [V.int 0]) := upd_same
      have q1 := (hp1.same s2).same t1
      have Lp := (hp1.same s2).ne nL
      generalize upd H2 L (.lst [V.int 0]) = G1 at t1 h1 q1 nT
      have t2 := same_upd (o := .tup [V.int 0]) nT
      have h2 : upd G1 T (.tup [V.int 0]) T = some (.tup [V.int 0]) := upd_same
      have q2 := q1.same t2
      have Tp := q1.ne nT
      generalize upd G1 T (.tup [V.int 0]) = G2 at t2 h2 q2
      refine ⟨.int (wholeN l), rfl, 10, 59, rfl, rfl, ⟨by decide, by decide, by decide⟩, _, _, rfl, rfl, 1, rfl, .int (wholeN l), rfl, _, _, rfl, rfl, by show 9 ≤ sizeLine; decide, fun O nO => ?_⟩
      have t3 := same_upd (o := .lst [V.int (-1), .int (wholeN l + 1), .bl true, .non, .str "0", .ref L, .ref T, .int (wholeN l + 10 ^ 59), .int (-1 - wholeN l)]) nO
      exact ⟨O, L, T, rfl, t1.trans (t2.trans t3), (t1.trans t2).free nO, Ls, Lp, Tp, q2.ne nO, t3 _ _ (t2 _ _ h1), t3 _ _ h2, upd_same⟩
    obtain ⟨O, L, T, rfl, s3, nO, Ls, Lp, Tp, Op, hL, hT, hO⟩ := hR
    have hp3 := (hp1.same s2).same s3
    have b03 : But p H H3 := b1.trans (same_but (s2.trans s3))
    have hd3 := b03 _ _ dnp hd
    refine ⟨.ref d, rfl, d, _, rfl, .inl hd3, fun c nc => ?_⟩
    have s4 := same_upd (o := .dK (dct zs (G.map V.int))) nc
    have hc : upd H3 c (.dK (dct zs (G.map V.int))) c = some (.dK (dct zs (G.map V.int))) := upd_same
    have cp := hp3.ne nc
    have hp4 := hp3.same s4
    have ncH : H c = none := by
      cases e : H c with
      | none => rfl
      | some o =>
        have := b03 _ _ cp e
        rw [nc] at this
        cases this
    generalize upd H3 c (.dK (dct zs (G.map V.int))) = H4 at s4 hc hp4
    have b04 := b03.trans (same_but s4)
    refine ⟨.ref p, rfl, p, 5, rfl, hp4, litM _ (by decide) (by decide), fun way H5 w0 w1 hp5 b45 => ?_⟩
    have b05 := b04.trans b45
    have hc5 := b45 _ _ cp hc
    have hd5 := b05 _ _ dnp hd
    refine ⟨.int way, rfl, rfl, _, rfl, ?_⟩
    by_cases e0 : way = 0
    · rw [show decide (V.int way = V.int 0) = true from decide_eq_true (by rw [e0])]
      refine iteT ⟨Nat.zero_le _, fun L0 nL0 => ?_⟩
      have t1 := same_upd (o := .lst []) nL0
      have h1 : upd H5 L0 (.lst []) L0 = some (.lst []) := upd_same
      have q1 := hp5.same t1
      have L0p := hp5.ne nL0
      generalize upd H5 L0 (.lst []) = G1 at t1 h1 q1
      obtain ⟨f1, f2⟩ := dct_fst lGV
      refine ⟨.ref d, rfl, d, _, rfl, .inl (t1 _ _ hd5), fun L1 nL1 => ?_⟩
      rw [f1]
      have t2 := same_upd (o := .lst (zs.map V.str)) nL1
      have h2 : upd G1 L1 (.lst (zs.map V.str)) L1 = some (.lst (zs.map V.str)) := upd_same
      have q2 := q1.same t2
      have L1p := q1.ne nL1
      generalize upd G1 L1 (.lst (zs.map V.str)) = G2 at t2 h2 q2
      have hdG2 := t2 _ _ (t1 _ _ hd5)
      refine ⟨.ref d, rfl, .inr (.inr (.inl ⟨rfl, .inl ⟨_, hdG2⟩⟩)), d, _, rfl, rfl, hdG2, fun iv niv => ?_⟩
      have t3 := same_upd (o := L2.DX.itemsO iv d) niv
      refine ⟨iv, d, _, rfl, upd_same, t3 _ _ hdG2, fun G3 L2' ts t4 lts tup hq => ?_⟩
      have q3 := (q2.same t3).same t4
      have t03 : But p H5 G3 := same_but (t1.trans (t2.trans (t3.trans t4)))
      have lz : (dct zs (G.map V.int)).length = zs.length := dct_len lGV.symm
      rw [lz] at lts
      have at3 : ∀ (k : Nat) (t : Addr) (y : Str) (x : Int), ts[k]? = some t → zs[k]? = some y → G[k]? = some x → G3 t = some (.tup [.str y, .int x]) := fun k t y x h1 h2 h3 => tup k t _ h1 (dct_at h2 (by rw [List.getElem?_map, h3]; rfl))
      have h13 := (t2.trans (t3.trans t4)) _ _ h1
      have h23 := (t3.trans t4) _ _ h2
      refine fun a3 na3 => ⟨upd_same, [(Sum.inr "", .int 0)], rfl, by decide, ?_⟩
      have t5 : Same G3 (upd (upd G3 a3 (.dK [])) a3 (.dK (mergeK [] [(Sum.inr "", .int 0)]))) := fun c o e => by
        rw [upd_ne (ne_of_none e na3), upd_ne (ne_of_none e na3)]
        exact e
      have h3 : upd (upd G3 a3 (.dK [])) a3 (.dK (mergeK [] [(Sum.inr "", .int 0)])) a3 = some (.dK (dct [""] [.int 0])) := upd_same
      have q4 := q3.same t5
      have a3p := q3.ne na3
      generalize upd (upd G3 a3 (.dK [])) a3 (.dK (mergeK [] [(Sum.inr "", .int 0)])) = G4 at t5 h3 q4
      refine ⟨by show 8 ≤ sizeLine; decide, fun S1 nS1 => ?_⟩
      generalize eX : ([V.non, .int 0, .str "", .ref L0, .ref L1, .ref L2', .bl true, .ref a3] : List V) = XS
      have t6 := same_upd (o := .lst XS) nS1
      have h6 : upd G4 S1 (.lst XS) S1 = some (.lst XS) := upd_same
      have q5 := q4.same t6
      have S1p := q4.ne nS1
      generalize upd G4 S1 (.lst XS) = G5 at t6 h6 q5
      have lX : XS.length = 8 := by rw [← eX]; rfl
      refine ⟨.ref p, rfl, p, 8, rfl, q5, litM _ (by decide) (by decide), fun u Ha u0 u1 qa ba => ?_⟩
      obtain ⟨x, ex, mx⟩ := pick (xs := XS) u0 (by rw [lX]; exact u1)
      refine ⟨S1, _, _, x, rfl, rfl, .inl (.inl (ba _ _ S1p h6)), ex, ?_⟩
      have b3a : But p G3 Ha := (same_but (t5.trans t6)).trans ba
      have b0a : But p H Ha := b05.trans (t03.trans b3a)
      have neP : ∀ {c : Addr} {o : HO}, G3 c = some o → (∀ xs, o ≠ .lst xs) → c ≠ p := fun {c o} e n z => by
        obtain ⟨_, _, ep, _⟩ := q3
        rw [z, ep] at e
        exact n _ (Option.some.inj e).symm
      have g0 := b3a _ _ L0p h13
      have g1 := b3a _ _ L1p h23
      have g2 := b3a _ _ (neP hq fun _ z => nomatch z) hq
      have g3 := ba _ _ a3p (t6 _ _ h3)
      have big : ∀ x ∈ G, BigOk x := fun x hx => by
        obtain ⟨k, ek⟩ := List.mem_iff_getElem?.mp hx
        have hk : k < (bkOf zs D).stacks.length := by
          rw [g.ok.ls]
          show k < zs.length
          rw [← lG]
          exact (List.getElem?_eq_some_iff.mp ek).1
        obtain ⟨r0, r1⟩ := vo.rg k _ x (List.getElem?_eq_getElem hk) ek
        obtain ⟨w0', w1'⟩ := g.wholeB (List.getElem_mem hk)
        have : (60 : Int) * 10 ^ 58 < 2 ^ 300 := by decide
        unfold BigOk
        omega
      refine q x Ha qa b0a ?_
      rw [← eX] at mx
      simp only [List.mem_cons, List.not_mem_nil, or_false] at mx
      rcases mx with rfl | rfl | rfl | rfl | rfl | rfl | rfl | rfl
      · exact .data (d := .none) (fun _ _ => .non) rfl ⟨by decide +kernel, .inl (by decide +kernel), by decide +kernel, .inr (by decide +kernel)⟩
      · exact .data (d := .int 0) (fun _ _ => .int _) rfl ⟨by decide +kernel, .inl (by decide +kernel), by decide +kernel, .inr (by decide +kernel)⟩
      · exact .data (d := .str "") (fun _ _ => .str _) rfl ⟨by decide +kernel, .inl (by decide +kernel), by decide +kernel, .inr (by decide +kernel)⟩
      · exact .data (d := .list []) (fun G' k => .lst (.inl (.inl (k _ _ L0p g0))) .nil) rfl ⟨by decide +kernel, .inl (by decide +kernel), by decide +kernel, .inr (by decide +kernel)⟩
      · exact .data (d := .list (zs.map .str)) (fun G' k => .lst (.inl (.inl (k _ _ L1p g1))) (DtAll.strs _)) rfl (((nice_names g.nz.nm).list).show (by omega))
      · have lzG : ts.length = (zs.zip G).length := by rw [List.length_zip, lG, Nat.min_self]; exact lts
        have nice : NiceD (.tuple (notesD (zs.zip G))) (11 * (zs.zip G).length) := (nice_pairs fun n hn => ⟨g.nz.nm _ (List.of_mem_zip hn).1, big _ (List.of_mem_zip hn).2⟩).tuple
        refine .data (d := .tuple (notesD (zs.zip G))) (fun G' k => .tup (.inl (.inl (k _ _ (neP hq fun _ z => nomatch z) g2))) (pairs_dt lzG fun i' t q h1 h2 => ?_)) rfl (nice.show (by rw [List.length_zip, lG, Nat.min_self]; omega))
        obtain ⟨e1, e2⟩ := List.getElem?_zip_eq_some.mp h2
        have ht := at3 i' t q.1 q.2 h1 e1 e2
        have tp := neP ht fun _ z => nomatch z
        exact k _ _ tp (b3a _ _ tp ht)
      · exact .data (d := .bool true) (fun _ _ => .bl _) rfl ⟨by decide +kernel, .inl (by decide +kernel), by decide +kernel, .inr (by decide +kernel)⟩
      · refine .dict (ks := [.str ""]) (vs := [.int 0]) (ps := [(.str "", .int 0)]) (n := 10) (fun G' k => ?_) (fun G' k => .inr ⟨_, k _ _ a3p g3, rfl, rfl⟩) (fun G' k => .cons (.flat (.str _)) .nil) (fun G' k => .cons (.flat (.int _)) .nil) ⟨by decide +kernel, by decide +kernel, by decide +kernel, by decide +kernel⟩ (by decide)
        by_cases e1 : zs.length = 1
        · exact .bad (zs := [""]) (ws := [.int 0]) (i := 0) (z := "") (v := .int 0) (k _ _ a3p g3) rfl (by show 1 = zs.length; exact e1.symm) rfl rfl (fun j hj => by omega) (.inl ⟨fun hm => by
            have := g.nz.nm "" hm
            exact absurd this (by decide +kernel), by decide⟩)
        · exact .siz (ks := [.str ""]) (vs := [.int 0]) (.inr ⟨_, k _ _ a3p g3, rfl, rfl⟩) (by show 1 ≠ zs.length; omega)
    rw [show decide (V.int way = V.int 0) = false from decide_eq_false fun c' => e0 (V.int.inj c')]
    refine iteF ⟨.int way, rfl, rfl, _, rfl, ?_⟩
    have big : ∀ x ∈ G, BigOk x := fun x hx => by
      obtain ⟨k, ek⟩ := List.mem_iff_getElem?.mp hx
      have hk : k < (bkOf zs D).stacks.length := by
        rw [g.ok.ls]
        show k < zs.length
        rw [← lG]
        exact (List.getElem?_eq_some_iff.mp ek).1
      obtain ⟨r0, r1⟩ := vo.rg k _ x (List.getElem?_eq_getElem hk) ek
      obtain ⟨w0', w1'⟩ := g.wholeB (List.getElem_mem hk)
      have : (60 : Int) * 10 ^ 58 < 2 ^ 300 := by decide
      unfold BigOk
      omega
    have good : ∀ k (y : Str) (x : Int), zs[k]? = some y → G[k]? = some x → ∃ k' : Nat, (bkOf zs D).names[k']? = some y ∧ 0 ≤ x ∧ x ≤ wholeN ((bkOf zs D).stacks.getD k' []) := fun k y x h1 h2 => by
      have hk : k < (bkOf zs D).stacks.length := by
        rw [g.ok.ls]
        exact (List.getElem?_eq_some_iff.mp h1).1
      obtain ⟨r0, r1⟩ := vo.rg k _ x (List.getElem?_eq_getElem hk) h2
      exact ⟨k, h1, r0, by rw [getD_of (List.getElem?_eq_getElem hk)]; exact r1⟩
    obtain ⟨gx, egx⟩ : ∃ gx, G[j]? = some gx := ⟨_, List.getElem?_eq_getElem (by omega)⟩
    have egv : (G.map V.int)[j]? = some (.int gx) := by rw [List.getElem?_map, egx]; rfl
    have vz : valV (dct zs (G.map V.int)) (Sum.inr z : Key) = some (.int gx) := dct_val g.nz.nd ej egv
    have dz := dct_drop g.nz.nd lGV ej
    have eEr : (G.map V.int).eraseIdx j = (G.eraseIdx j).map V.int := (DT.map_erase V.int G j).symm
    rw [eEr] at dz
    have lE1 : (zs.eraseIdx j).length = zs.length - 1 := List.length_eraseIdx_of_lt hj
    have lE2 : (G.eraseIdx j).length = zs.length - 1 := by rw [List.length_eraseIdx_of_lt (by omega), lG]
    have ptup : ∀ {H' : Hp} (o : HO), Pot H' p → Pot (upd H' c o) p := fun {H'} o h => by
      obtain ⟨u, v, e, hh⟩ := h
      exact ⟨u, v, by rw [upd_ne cp.symm]; exact e, hh⟩
    have btup : ∀ {H' : Hp} (o : HO), But p H H' → But p H (upd H' c o) := fun {H'} o h c' o' n e => by
      rw [upd_ne (ne_of_none e ncH)]
      exact h _ _ n e
    have lz1 : (zs.map V.str).length = zs.length := List.length_map ..
    have lenOk : (dct zs (G.map V.int)).length < sizeLine := by
      rw [dct_len lGV.symm]
      exact Nat.lt_of_lt_of_le (by omega : zs.length < 1000) (small_line (Nat.le_refl 1000))
    by_cases e1 : way = 1
    · rw [show decide (V.int way = V.int 1) = true from decide_eq_true (by rw [e1])]
      refine iteT ⟨.ref c, rfl, c, rfl, .inl ⟨_, .inl hc5⟩, .str z, rfl, _, Sum.inr z, _, hc5, rfl, vz, ?_⟩
      rw [dz]
      have h6 : upd H5 c (.dK (dct (zs.eraseIdx j) ((G.eraseIdx j).map V.int))) c = some (.dK (dct (zs.eraseIdx j) ((G.eraseIdx j).map V.int))) := upd_same
      have q6 := ptup (.dK (dct (zs.eraseIdx j) ((G.eraseIdx j).map V.int))) hp5
      have b6 := btup (.dK (dct (zs.eraseIdx j) ((G.eraseIdx j).map V.int))) b05
      generalize upd H5 c (.dK (dct (zs.eraseIdx j) ((G.eraseIdx j).map V.int))) = H6 at h6 q6 b6
      refine ⟨.ref c, rfl, q _ _ q6 b6 ?_⟩
      have le : (zs.eraseIdx j).length = ((G.eraseIdx j).map V.int).length := by rw [List.length_map, lE1, lE2]
      obtain ⟨f1, f2⟩ := dct_fst le
      have any : ∀ G', But p H6 G' → AnyD G' c ((zs.eraseIdx j).map V.str) ((G.eraseIdx j).map V.int) := fun G' k => .inr ⟨_, k _ _ cp h6, f1.symm, f2.symm⟩
      refine .dict (ps := numD (zs.eraseIdx j) (G.eraseIdx j)) (fun G' k => .siz (any G' k) ?_) any (fun G' k => (flv_strs _ _ (by rw [lE1, lE2])).1) (fun G' k => (flv_strs _ _ (by rw [lE1, lE2])).2) (nice_num (fun y hy => g.nz.nm y (List.mem_of_mem_eraseIdx hy)) (fun y hy => big y (List.mem_of_mem_eraseIdx hy))) (by omega)
      rw [List.length_map, lE1]
      show zs.length - 1 ≠ zs.length
      omega
    rw [show decide (V.int way = V.int 1) = false from decide_eq_false fun c' => e1 (V.int.inj c')]
    refine iteF ⟨.int way, rfl, rfl, _, rfl, ?_⟩
    by_cases e2 : way = 2
    · rw [show decide (V.int way = V.int 2) = true from decide_eq_true (by rw [e2])]
      have fin2 : ∀ (H7 : Hp) (k : V) (kd : PyData), Pot H7 p → But p H H7 → (∀ G', But p H7 G' → AnyD G' c (zs.map V.str ++ [k]) (G.map V.int ++ [V.int 0])) → (∀ G', But p H7 G' → FlV G' k kd) → NiceD kd 20 → Q (.ref c) H7 := fun H7 k kd q7 b7 any fk nk => by
        refine q _ _ q7 b7 (.dict (ps := numD zs G ++ [(kd, .int 0)]) (n := 10 * zs.length + (20 + 0 + 2 + 0)) (fun G' b => .siz (any G' b) ?_) any (fun G' b => ?_) (fun G' b => ?_) (NiceKv.app (nice_num g.nz.nm big) (NiceKv.cons nk (nice_int (by unfold BigOk; decide)) NiceKv.nil)) (by omega))
        · rw [List.length_append, lz1]
          show zs.length + 1 ≠ zs.length
          omega
        · rw [List.map_append]
          exact (flv_strs _ _ lG.symm).1.app (.cons (fk G' b) .nil)
        · rw [List.map_append]
          exact (flv_strs _ _ lG.symm).2.app (.cons (.flat (.int 0)) .nil)
      refine iteT ⟨.ref c, rfl, by show 1 ≤ sizeLine; decide, fun T2 nT2 => ?_⟩
      have t1 := same_upd (o := .tup [V.str "a"]) nT2
      have h1 : upd H5 T2 (.tup [V.str "a"]) T2 = some (.tup [V.str "a"]) := upd_same
      have q1 := hp5.same t1
      have T2p := hp5.ne nT2
      have T2c : T2 ≠ c := (ne_of_none hc5 nT2).symm
      generalize upd H5 T2 (.tup [V.str "a"]) = G1 at t1 h1 q1
      refine ⟨by show 5 ≤ sizeLine; decide, fun S1 nS1 => ?_⟩
      generalize eX : ([V.str "", .str "A", .non, .int 0, .ref T2] : List V) = XS
      have t2 := same_upd (o := .lst XS) nS1
      have h2 : upd G1 S1 (.lst XS) S1 = some (.lst XS) := upd_same
      have q2 := q1.same t2
      have S1p := q1.ne nS1
      generalize upd G1 S1 (.lst XS) = G2 at t2 h2 q2
      have lX : XS.length = 5 := by rw [← eX]; rfl
      refine ⟨.ref p, rfl, p, 5, rfl, q2, litM _ (by decide) (by decide), fun u Ha u0 u1 qa ba => ?_⟩
      obtain ⟨x, ex, mx⟩ := pick (xs := XS) u0 (by rw [lX]; exact u1)
      refine ⟨S1, _, _, x, rfl, rfl, .inl (.inl (ba _ _ S1p h2)), ex, ?_⟩
      have hca := ba _ _ cp (t2 _ _ (t1 _ _ hc5))
      have hTa := ba _ _ T2p (t2 _ _ h1)
      have b0a : But p H Ha := b05.trans ((same_but (t1.trans t2)).trans ba)
      have txt : ∀ y : Str, nameT y = false → y.length ≤ 8 → Asc y → rSetAny (.ref c) (.str y) (.int 0) Ha fun H' => Q (.ref c) H' := fun y ny ly ay => by
        have nin : y ∉ zs := fun hm => by
          have := g.nz.nm y hm
          rw [ny] at this
          cases this
        refine .inl ⟨c, _, rfl, .inl ⟨_, Sum.inr y, hca, rfl, lenOk, rfl⟩, ?_⟩
        rw [put_new (dct_nokey nin), ← dct_snoc lGV.symm]
        have le : (zs ++ [y]).length = (G.map V.int ++ [V.int 0]).length := by rw [List.length_append, List.length_append, lGV]; rfl
        obtain ⟨f1, f2⟩ := dct_fst le
        refine fin2 _ (.str y) (.str y) (ptup _ qa) (btup _ b0a) (fun G' b => .inr ⟨_, b _ _ cp upd_same, ?_, f2.symm⟩) (fun G' b => .flat (.str y)) ?_
        · rw [f1, List.map_append]
          rfl
        · have := nice_text (n := 8) ay ly
          exact ⟨this.1, this.2, this.3, this.4, Nat.le_trans this.5 (by decide), this.6⟩
      have frn : ∀ (k : V) (kd : PyData), Frn Ha k → (∀ G', But p (upd Ha c (dMx c (zs.map V.str ++ [k]) (G.map V.int ++ [V.int 0]))) G' → FlV G' k kd) → NiceD kd 20 → rSetAny (.ref c) k (.int 0) Ha fun H' => Q (.ref c) H' := fun k kd fr fk nk => by
        refine .inr ⟨c, zs, G.map V.int, rfl, hca, lGV, by omega, fr, ?_⟩
        exact fin2 _ k kd (ptup _ qa) (btup _ b0a) (fun G' b => .inl (b _ _ cp upd_same)) fk nk
      suffices hs : rSetAny (.ref c) x (.int 0) Ha fun H' => Q (.ref c) H' by
        rcases hs with ⟨a', H', e1', e2', e3'⟩ | ⟨d', zs', ws', e1', e2', e3', e4', e5', e6'⟩
        · exact .inl ⟨a', H', e1', e2', .ref c, rfl, e3'⟩
        · exact .inr ⟨d', zs', ws', e1', e2', e3', e4', e5', .ref c, rfl, e6'⟩
      rw [← eX] at mx
      simp only [List.mem_cons, List.not_mem_nil, or_false] at mx
      rcases mx with rfl | rfl | rfl | rfl | rfl
      · exact txt "" (by decide +kernel) (by decide) (by decide +kernel)
      · exact txt "A" (by decide +kernel) (by decide) (by decide +kernel)
      · exact frn .non .none .non (fun G' b => .flat .non) ⟨by decide +kernel, by decide +kernel, by decide +kernel, by decide +kernel, by decide +kernel, by decide +kernel⟩
      · refine .inl ⟨c, _, rfl, .inl ⟨_, Sum.inl 0, hca, rfl, lenOk, rfl⟩, ?_⟩
        have nok : ∀ kv ∈ dct zs (G.map V.int), ¬ kv.1 = (Sum.inl 0 : Key) := fun kv hk e => by
          unfold dct at hk
          obtain ⟨q', _, rfl⟩ := List.mem_map.mp hk
          cases e
        rw [put_new nok]
        obtain ⟨f1, f2⟩ := dct_fst lGV
        refine fin2 _ (.int 0) (.int 0) (ptup _ qa) (btup _ b0a) (fun G' b => .inr ⟨_, b _ _ cp upd_same, ?_, ?_⟩) (fun G' b => .flat (.int 0)) ⟨by decide +kernel, by decide +kernel, by decide +kernel, by decide +kernel, by decide +kernel, by decide +kernel⟩
        · rw [List.map_append, f1]
          rfl
        · rw [List.map_append, f2]
          rfl
      · refine frn (.ref T2) (.tuple [.str "a"]) (.tup hTa) (fun G' b => .tup (b _ _ T2p ((upd_ne T2c).trans hTa)) (.cons (.str _) .nil)) ⟨by decide +kernel, by decide +kernel, by decide +kernel, by decide +kernel, by decide +kernel, by decide +kernel⟩
    rw [show decide (V.int way = V.int 2) = false from decide_eq_false fun c' => e2 (V.int.inj c')]
    refine iteF ⟨.int way, rfl, rfl, _, rfl, ?_⟩
    by_cases e3 : way = 3
    · rw [show decide (V.int way = V.int 3) = true from decide_eq_true (by rw [e3])]
      refine iteT ⟨.ref c, rfl, c, rfl, .inl ⟨_, .inl hc5⟩, .str z, rfl, _, Sum.inr z, _, hc5, rfl, vz, ?_⟩
      rw [dz]
      have h6 : upd H5 c (.dK (dct (zs.eraseIdx j) ((G.eraseIdx j).map V.int))) c = some (.dK (dct (zs.eraseIdx j) ((G.eraseIdx j).map V.int))) := upd_same
      have q6 := ptup (.dK (dct (zs.eraseIdx j) ((G.eraseIdx j).map V.int))) hp5
      have b6 := btup (.dK (dct (zs.eraseIdx j) ((G.eraseIdx j).map V.int))) b05
      generalize upd H5 c (.dK (dct (zs.eraseIdx j) ((G.eraseIdx j).map V.int))) = H6 at h6 q6 b6
      have nA : nameT "A" = false := by decide +kernel
      have ninZ : ("A" : Str) ∉ zs := fun hm => by
        have := g.nz.nm _ hm
        rw [nA] at this
        cases this
      have nin : ("A" : Str) ∉ zs.eraseIdx j := fun hm => ninZ (List.mem_of_mem_eraseIdx hm)
      have le0 : (zs.eraseIdx j).length = ((G.eraseIdx j).map V.int).length := by rw [List.length_map, lE1, lE2]
      refine ⟨.ref c, rfl, .inl ⟨c, _, rfl, .inl ⟨_, Sum.inr "A", h6, rfl, ?_, rfl⟩, ?_⟩⟩
      · rw [dct_len le0.symm, lE1]
        exact Nat.lt_of_lt_of_le (by omega : zs.length - 1 < 1000) (small_line (Nat.le_refl 1000))
      rw [put_new (dct_nokey nin), ← dct_snoc le0.symm]
      have le : (zs.eraseIdx j ++ [("A" : Str)]).length = ((G.eraseIdx j).map V.int ++ [V.int 0]).length := by rw [List.length_append, List.length_append, le0]; rfl
      obtain ⟨f1, f2⟩ := dct_fst le
      refine ⟨.ref c, rfl, q _ _ (ptup _ q6) (btup _ b6) ?_⟩
      have any : ∀ G', But p (upd H6 c (.dK (dct (zs.eraseIdx j ++ [("A" : Str)]) ((G.eraseIdx j).map V.int ++ [V.int 0])))) G' → AnyD G' c ((zs.eraseIdx j).map V.str ++ [.str "A"]) ((G.eraseIdx j).map V.int ++ [V.int 0]) := fun G' b => .inr ⟨_, b _ _ cp upd_same, by rw [f1, List.map_append]; rfl, f2.symm⟩
      have lA : (zs.eraseIdx j ++ [("A" : Str)]).length = zs.length := by
        rw [List.length_append, lE1]
        show zs.length - 1 + 1 = zs.length
        omega
      refine .dict (ps := numD (zs.eraseIdx j) (G.eraseIdx j) ++ [(.str "A", .int 0)]) (n := 10 * (zs.eraseIdx j).length + (8 + 0 + 2 + 0)) (fun G' b => ?_) any (fun G' b => ?_) (fun G' b => ?_) (NiceKv.app (nice_num (fun y hy => g.nz.nm y (List.mem_of_mem_eraseIdx hy)) (fun y hy => big y (List.mem_of_mem_eraseIdx hy))) (NiceKv.cons (nice_text (n := 8) (by decide +kernel) (by decide)) (nice_int (by unfold BigOk; decide)) NiceKv.nil)) (by omega)
      · refine .bad (zs := zs.eraseIdx j ++ [("A" : Str)]) (ws := (G.eraseIdx j).map V.int ++ [V.int 0]) (i := (zs.eraseIdx j).length) (z := "A") (v := .int 0) (b _ _ cp upd_same) le lA ?_ ?_ (fun k hk => ?_) (.inl ⟨ninZ, by decide⟩)
        · rw [List.getElem?_append_right (Nat.le_refl _), Nat.sub_self]
          rfl
        · rw [List.getElem?_append_right (by rw [le0]; exact Nat.le_refl _), le0, Nat.sub_self]
          rfl
        · rw [List.getElem?_append_left hk, List.getElem?_append_left (by rw [← le0]; exact hk), List.getElem?_map]
          rw [lE1] at hk
          rw [List.getElem?_eraseIdx, List.getElem?_eraseIdx]
          have pick1 : ∀ m, m < zs.length → ∃ (k' : Nat) (y : Str) (x : Int), zs[m]? = some y ∧ (G[m]?).map V.int = some (.int x) ∧ (bkOf zs D).names[k']? = some y ∧ 0 ≤ x ∧ x ≤ wholeN ((bkOf zs D).stacks.getD k' []) := fun m hm => by
            have e1 := List.getElem?_eq_getElem hm
            have hm' : m < G.length := by omega
            have e2 := List.getElem?_eq_getElem hm'
            obtain ⟨k', g1, g2, g3⟩ := good m _ _ e1 e2
            exact ⟨k', _, _, e1, by rw [e2]; rfl, g1, g2, g3⟩
          by_cases hkj : k < j
          · rw [if_pos hkj, if_pos hkj]
            exact pick1 k (by omega)
          · rw [if_neg hkj, if_neg hkj]
            exact pick1 (k + 1) (by omega)
      · rw [List.map_append]
        exact (flv_strs _ _ (by rw [lE1, lE2])).1.app (.cons (.flat (.str _)) .nil)
      · rw [List.map_append]
        exact (flv_strs _ _ (by rw [lE1, lE2])).2.app (.cons (.flat (.int _)) .nil)
    rw [show decide (V.int way = V.int 3) = false from decide_eq_false fun c' => e3 (V.int.inj c')]
    have hO5 := b45 _ _ Op (s4 _ _ hO)
    have hL5 := b45 _ _ Lp (s4 _ _ hL)
    have hT5 := b45 _ _ Tp (s4 _ _ hT)
    have Lc : L ≠ c := ne_of_none hL nc
    have Tc : T ≠ c := ne_of_none hT nc
    refine iteF ⟨.ref p, rfl, .ref O, rfl, p, .ref O, rfl, hp5, .inr ⟨O, _, rfl, Op, hO5, by show 0 < 9; decide, by show 9 ≤ 1000; decide, fun x H6 hx hp6 b6 => ?_⟩⟩
    have hc6 := b6 _ _ cp hc5
    refine ⟨.ref c, rfl, .str z, rfl, .inl ⟨c, _, rfl, .inl ⟨_, Sum.inr z, hc6, rfl, lenOk, rfl⟩, ?_⟩⟩
    rw [dct_put g.nz.nd ej (by rw [← lGV]; exact hj)]
    have b06 := b05.trans b6
    have q7 := ptup (.dK (dct zs ((G.map V.int).set j x))) hp6
    have b7 := btup (.dK (dct zs ((G.map V.int).set j x))) b06
    have h7 : upd H6 c (.dK (dct zs ((G.map V.int).set j x))) c = some (.dK (dct zs ((G.map V.int).set j x))) := upd_same
    have hL7 : upd H6 c (.dK (dct zs ((G.map V.int).set j x))) L = some (.lst [.int 0]) := (upd_ne Lc).trans (b6 _ _ Lp hL5)
    have hT7 : upd H6 c (.dK (dct zs ((G.map V.int).set j x))) T = some (.tup [.int 0]) := (upd_ne Tc).trans (b6 _ _ Tp hT5)
    generalize upd H6 c (.dK (dct zs ((G.map V.int).set j x))) = H7 at q7 b7 h7 hL7 hT7
    refine ⟨.ref c, rfl, q _ _ q7 b7 ?_⟩
    have lset : zs.length = ((G.map V.int).set j x).length := by rw [List.length_set, ← lGV]
    obtain ⟨f1, f2⟩ := dct_fst lset
    have any : ∀ G', But p H7 G' → AnyD G' c (zs.map V.str) ((G.map V.int).set j x) := fun G' b => .inr ⟨_, b _ _ cp h7, f1.symm, f2.symm⟩
    have jG : j < G.length := by omega
    have ezs : zs = zs.take j ++ z :: zs.drop (j + 1) := by
      have : zs[j] = z := by
        rw [List.getElem?_eq_getElem hj] at ej
        exact Option.some.inj ej
      rw [← this, ← List.drop_eq_getElem_cons hj, List.take_append_drop]
    have ewk : (G.map V.int).set j x = (G.take j).map V.int ++ x :: (G.drop (j + 1)).map V.int := by
      rw [List.set_eq_take_append_cons_drop, if_pos (by rw [← lGV]; exact hj), List.map_take, List.map_drop]
    have lt1 : (zs.take j).length = (G.take j).length := by rw [List.length_take, List.length_take, lG]
    have lt2 : (zs.drop (j + 1)).length = (G.drop (j + 1)).length := by rw [List.length_drop, List.length_drop, lG]
    have mk : ∀ (xd : PyData), NiceD xd 20 → (∀ G', But p H7 G' → FlV G' x xd) → (∀ G', But p H7 G' → BadE G' (bkOf zs D) z x) → Spt K p H7 (bkOf zs D) (.ref c) := fun xd nx fx bx => by
      refine .dict (ps := numD (zs.take j) (G.take j) ++ (.str z, xd) :: numD (zs.drop (j + 1)) (G.drop (j + 1))) (n := 10 * (zs.take j).length + (8 + 20 + 2 + 10 * (zs.drop (j + 1)).length)) (fun G' b => ?_) any (fun G' b => ?_) (fun G' b => ?_)
        (NiceKv.app (nice_num (fun y hy => g.nz.nm y (List.mem_of_mem_take hy)) (fun y hy => big y (List.mem_of_mem_take hy))) (NiceKv.cons (nice_name (g.nz.nm z hz)) nx (nice_num (fun y hy => g.nz.nm y (List.mem_of_mem_drop hy)) (fun y hy => big y (List.mem_of_mem_drop hy))))) (by rw [List.length_take, List.length_drop]; omega)
      · refine .bad (i := j) (z := z) (v := x) (b _ _ cp h7) lset rfl ej ?_ (fun k hk => ?_) (bx G' b)
        · rw [List.getElem?_set_self (by rw [← lGV]; exact hj)]
        · have hkz : k < zs.length := by omega
          have hkG : k < G.length := by omega
          obtain ⟨k', g1, g2, g3⟩ := good k _ _ (List.getElem?_eq_getElem hkz) (List.getElem?_eq_getElem hkG)
          exact ⟨k', _, _, List.getElem?_eq_getElem hkz, by rw [List.getElem?_set_ne (by omega), List.getElem?_map, List.getElem?_eq_getElem hkG]; rfl, g1, g2, g3⟩
      · rw [List.map_append, List.map_cons]
        conv => enter [2]; rw [ezs, List.map_append, List.map_cons]
        exact (flv_strs _ _ lt1).1.app (.cons (.flat (.str z)) (flv_strs _ _ lt2).1)
      · rw [List.map_append, List.map_cons, ewk]
        exact (flv_strs _ _ lt1).2.app (.cons (fx G' b) (flv_strs _ _ lt2).2)
    have num : ∀ m : Int, BigOk m → (m < 0 ∨ wholeN l < m) → x = .int m → Spt K p H7 (bkOf zs D) (.ref c) := fun m hb hm e => by
      have := nice_int hb
      refine mk (.int m) ⟨this.1, this.2, this.3, this.4, Nat.le_trans this.5 (by decide), this.6⟩ (fun G' b => by rw [e]; exact .flat (.int m)) (fun G' b => .inr (.inr ⟨j, m, eN, e, ?_⟩))
      rw [getD_of eM]
      exact hm
    have odd : ∀ xd : PyData, NiceD xd 20 → (∀ G', But p H7 G' → FlV G' x xd) → ShortD xd → wholeD xd = false → Spt K p H7 (bkOf zs D) (.ref c) := fun xd nx fx sx wx => mk xd nx fx (fun G' b => .inr (.inl ⟨hz, xd, fx G' b, sx, wx⟩))
    have bW : (60 : Int) * 10 ^ 58 + 10 ^ 59 < 2 ^ 300 := by decide
    have p59 : (0 : Int) < 10 ^ 59 := by decide
    simp only [List.mem_cons, List.not_mem_nil, or_false] at hx
    rcases hx with rfl | rfl | rfl | rfl | rfl | rfl | rfl | rfl | rfl
    · exact num (-1) (by unfold BigOk; decide) (.inl (by decide)) rfl
    · exact num (wholeN l + 1) (by unfold BigOk; omega) (.inr (by omega)) rfl
    · exact odd (.bool true) ⟨by decide +kernel, by decide +kernel, by decide +kernel, by decide +kernel, by decide +kernel, by decide +kernel⟩ (fun G' b => .flat (.bl true)) (fun y e => by cases e) rfl
    · exact odd .none ⟨by decide +kernel, by decide +kernel, by decide +kernel, by decide +kernel, by decide +kernel, by decide +kernel⟩ (fun G' b => .flat .non) (fun y e => by cases e) rfl
    · exact odd (.str "0") ⟨by decide +kernel, by decide +kernel, by decide +kernel, by decide +kernel, by decide +kernel, by decide +kernel⟩ (fun G' b => .flat (.str "0")) (fun y e => by cases e; decide) rfl
    · exact odd (.list [.int 0]) ⟨by decide +kernel, by decide +kernel, by decide +kernel, by decide +kernel, by decide +kernel, by decide +kernel⟩ (fun G' b => .lst (b _ _ Lp hL7) Ls (.cons (.int 0) .nil)) (fun y e => by cases e) rfl
    · exact odd (.tuple [.int 0]) ⟨by decide +kernel, by decide +kernel, by decide +kernel, by decide +kernel, by decide +kernel, by decide +kernel⟩ (fun G' b => .tup (b _ _ Tp hT7) (.cons (.int 0) .nil)) (fun y e => by cases e) rfl
    · exact num (wholeN l + 10 ^ 59) (by unfold BigOk; omega) (.inr (by omega)) rfl
    · exact num (-1 - wholeN l) (by unfold BigOk; omega) (.inl (by omega)) rfl
end
end Rc

namespace Rc
open PySem PySem.Spec PyProof.Rows L2
/-! ### max(d.values()), min(d.values()) -/
def valsO (q d : Addr) : HO := .ext fun h => h.get? q = some { cls := .type "dict_values", data := .fields #[.ref d] }
theorem valsO_ok {P : Program} {w : World} {H : Hp} {h : Heap} {q d : Addr} (e : h.get? q = some { cls := .type "dict_values", data := .fields #[.ref d] }) : ObjOk P w H h q (valsO q d) :=
  ⟨e, ⟨_, e⟩, fun _ _ z k => k _ z⟩
theorem valsO_at {P : Program} {w : World} {H : Hp} {h : Heap} {q d : Addr} (ok : HOk P w H h) (e : H q = some (valsO q d)) : h.get? q = some { cls := .type "dict_values", data := .fields #[.ref d] } := by
  have x : ObjOk P w H h q (.ext fun h => h.get? q = some { cls := .type "dict_values", data := .fields #[.ref d] }) := ok q _ e
  exact x.1
def tVals (td : TE) : TE := fun σ H Q => td σ H fun x H1 => ∃ d kvs, x = .ref d ∧ H1 d = some (.dK kvs) ∧ ∀ q, H1 q = none → Q (.ref q) (upd H1 q (valsO q d))
section
variable {X : Cx} {e : Expr} {td : TE} {apos cpos : Pos}
theorem pe_values (he : PE X e td) (hbase : attributeBase e "values" X.env (eval e X.env) = eval e X.env := by rfl) (hline : (apos.endLine == cpos.line) = true := by rfl) : PE X (.Call (.Attribute e "values" apos) [] [] cpos) (tVals td) := by
  refine ⟨fun pins s σ H Q I h => ?_⟩
  refine wpAny_Call_method (T := "dict") (id := "dict.values") hbase rfl hline F.plainAttrs_dict F.slot_dict_values F.type_dict_values (thn (he.run pins s σ H _ I h) fun u s1 z => ?_)
  obtain ⟨x, H1, I1, rx, d, kvs, ex, hd, q⟩ := z
  subst ex
  obtain rfl : u = Value.ref d := rx
  obtain ⟨_, hs, vs, kv, hm⟩ := dk_of I1.hok hd
  refine ⟨hm.typeIs, hm.mapOf.noDict, ?_⟩
  show wpAny _ _ (callWith cpos (.builtin "dict.values") [.ref d] [] []) _ X.xe s1
  have hn := I1.hok.fresh (Nat.le_refl s1.heap.objs.size)
  refine method_meetsIn F.slot_dict_values F.entry_dict_values rfl (PySem.evalArgs_none ⟨rfl, hm.typeIs, F.args_dict_values_1 _, _, meets_dict_values (mixKind X.prog X.w) d hs, ⟨vs, hm⟩, ?_⟩)
  exact ⟨.ref s1.heap.objs.size, _, I1.laid (t' := s1.toks) (fun _ _ z => Heap.get?_push_of_some _ z) (Nat.le_refl _) (valsO_ok (d := d) (Heap.get?_push_size _ rfl)), rfl, q _ hn⟩
def rMaxV (mx : Bool) : List V → Hp → VK → Prop := fun xs H Q => ∃ (q d : Addr) (kvs : List (Key × V)) (ns : List Int), xs = [.ref q] ∧ H q = some (valsO q d) ∧ H d = some (.dK kvs) ∧ kvs.map (·.2) = ns.map V.int ∧ 0 < ns.length ∧
  ∀ m, m ∈ ns → (∀ a ∈ ns, if mx = true then a ≤ m else m ≤ a) → Q (.int m) H
theorem vals_at {P : Program} {w : World} {kvs : List (Key × V)} {vs : List (Key × Value)} {ns : List Int} (kv : KV kvs vs) (ev : kvs.map (·.2) = ns.map V.int) : vs.length = ns.length ∧ ∀ (i : Nat) (v : Value), (∃ k, vs[i]? = some (k, v)) → ∃ t, v = .int (ns.getD i 0) t := by
  have l1 := Paired.length kv
  have l2 : kvs.length = ns.length := by
    have := congrArg List.length ev
    simpa using this
  refine ⟨by omega, fun i v ⟨k, hk⟩ => ?_⟩
  have hi : i < vs.length := (List.getElem?_eq_some_iff.mp hk).1
  obtain ⟨⟨k', y⟩, hy⟩ : ∃ p, kvs[i]? = some p := ⟨kvs[i]'(by omega), List.getElem?_eq_getElem (by omega)⟩
  obtain ⟨u, hu, ru⟩ := kv_get kv hy
  have e1 : (kvs.map (·.2))[i]? = some y := by
    rw [List.getElem?_map, hy]
    rfl
  rw [ev, List.getElem?_map] at e1
  have hn : i < ns.length := by omega
  rw [List.getElem?_eq_getElem hn] at e1
  have ey : V.int ns[i] = y := Option.some.inj e1
  have eg : ns.getD i 0 = ns[i] := by
    rw [List.getD_eq_getElem?_getD, List.getElem?_eq_getElem hn]
    rfl
  rw [← ey] at ru
  obtain ⟨t, rt⟩ := ru
  rw [hk] at hu
  have eu := congrArg Prod.snd (Option.some.inj hu)
  exact ⟨t, by rw [eg, ← rt]; exact eu⟩
theorem cr_maxV (hc : X.calm = true) : CallR X (.builtin "max") (rMaxV true) := by
  intro pins s σ H xs us Q I r h
  obtain ⟨q, d, kvs, ns, rfl, hq, hd, ev, hn, k⟩ := h
  rw [Vals.ref1 r]
  obtain ⟨_, hs, vs, kv, hm⟩ := dk_of I.hok hd
  obtain ⟨o, es, ep, ho, hx, hdt, rr⟩ := id hm
  have hD : s.heap.DictAt (mixKind X.prog X.w) d vs ep := ⟨o, es, ho, hx, hdt, rr⟩
  have hv : s.heap.IsValuesView q d := ⟨_, valsO_at I.hok hq, rfl, rfl⟩
  have hh : X.A.in1.handled = none := I.ok.hd hc
  have ne : d ≠ s.heap.objs.size := Nat.ne_of_lt (Heap.lt_size ho)
  obtain ⟨ln, hval⟩ := vals_at (P := X.prog) (w := X.w) kv ev
  refine call_max_walk (wpAny_pyIter_values (knd := mixKind X.prog X.w) hv hD ⟨_, _, _, _, _, _, _, rfl, Walks.dictValues (A := X.A.in1) hh s.heap.objs.size d ne vs ep, ⟨⟨_, Heap.get?_push_size _ rfl, rfl, rfl⟩, hD.at' fun _ e => Heap.get?_push_of_some _ e⟩, fun b hb => ?_, by omega,
    CmpOf.ints_gt (fun i => ns.getD i 0) hval, fun v h' tk hP hk => ?_⟩)
  · rw [Heap.size_push]
    rcases List.mem_cons.mp hb with e | e
    · rw [e]
      exact Nat.lt_succ_self _
    · rw [List.mem_singleton.mp e]
      exact Nat.lt_succ_of_lt (Heap.lt_size ho)
  · obtain ⟨t, rfl⟩ := hval _ v hP
    obtain ⟨b1, b2⟩ := argBest_gt (fun i => ns.getD i 0) (vs.length - 1)
    have keep : ∀ b o, s.heap.get? b = some o → h'.get? b = some o := fun b o e => hk b o (fun z => Nat.ne_of_lt (Heap.lt_size e) (List.mem_singleton.mp z)) (Heap.get?_push_of_some _ e)
    refine ⟨.int _, H, I.kept (t' := tk) keep, ⟨t, rfl⟩, k _ (PySem.getD_mem (by omega)) fun a ha => ?_⟩
    rw [if_pos rfl]
    obtain ⟨j, hj, rfl⟩ := mem_getD ha
    exact b2 j (by omega)
theorem cr_minV (hc : X.calm = true) : CallR X (.builtin "min") (rMaxV false) := by
  intro pins s σ H xs us Q I r h
  obtain ⟨q, d, kvs, ns, rfl, hq, hd, ev, hn, k⟩ := h
  rw [Vals.ref1 r]
  obtain ⟨_, hs, vs, kv, hm⟩ := dk_of I.hok hd
  obtain ⟨o, es, ep, ho, hx, hdt, rr⟩ := id hm
  have hD : s.heap.DictAt (mixKind X.prog X.w) d vs ep := ⟨o, es, ho, hx, hdt, rr⟩
  have hv : s.heap.IsValuesView q d := ⟨_, valsO_at I.hok hq, rfl, rfl⟩
  have hh : X.A.in1.handled = none := I.ok.hd hc
  have ne : d ≠ s.heap.objs.size := Nat.ne_of_lt (Heap.lt_size ho)
  obtain ⟨ln, hval⟩ := vals_at (P := X.prog) (w := X.w) kv ev
  refine call_min_walk (wpAny_pyIter_values (knd := mixKind X.prog X.w) hv hD ⟨_, _, _, _, _, _, _, rfl, Walks.dictValues (A := X.A.in1) hh s.heap.objs.size d ne vs ep, ⟨⟨_, Heap.get?_push_size _ rfl, rfl, rfl⟩, hD.at' fun _ e => Heap.get?_push_of_some _ e⟩, fun b hb => ?_, by omega,
    CmpOf.ints_lt (fun i => ns.getD i 0) hval, fun v h' tk hP hk => ?_⟩)
  · rw [Heap.size_push]
    rcases List.mem_cons.mp hb with e | e
    · rw [e]
      exact Nat.lt_succ_self _
    · rw [List.mem_singleton.mp e]
      exact Nat.lt_succ_of_lt (Heap.lt_size ho)
  · obtain ⟨t, rfl⟩ := hval _ v hP
    obtain ⟨b1, b2⟩ := argBest_lt (fun i => ns.getD i 0) (vs.length - 1)
    have keep : ∀ b o, s.heap.get? b = some o → h'.get? b = some o := fun b o e => hk b o (fun z => Nat.ne_of_lt (Heap.lt_size e) (List.mem_singleton.mp z)) (Heap.get?_push_of_some _ e)
    refine ⟨.int _, H, I.kept (t' := tk) keep, ⟨t, rfl⟩, k _ (PySem.getD_mem (by omega)) fun a ha => ?_⟩
    rw [if_neg Bool.false_ne_true]
    obtain ⟨j, hj, rfl⟩ := mem_getD ha
    exact b2 j (by omega)
end
end Rc

namespace Rc
open PySem PySem.Spec PyProof.Rows L2 RZ
/-! ### list(d.values()) -/
def rListV : List V → Hp → VK → Prop := fun xs H Q => ∃ (q d : Addr) (kvs : List (Key × V)), xs = [.ref q] ∧ H q = some (valsO q d) ∧ H d = some (.dK kvs) ∧ ∀ l, H l = none → Q (.ref l) (upd H l (.lst (kvs.map (·.2))))
theorem call_list_V {X : Cx} (hc : X.calm = true) : CallR X (.type "list") rListV := by
  intro pins s σ H xs us Q I r h
  obtain ⟨q, d, kvs, rfl, hq, hk, k⟩ := h
  rw [Vals.ref1 r]
  obtain ⟨z, lo, vs, rk, hd⟩ := (show ObjOk X.prog X.w H s.heap d (.dK kvs) from I.hok d _ hk)
  obtain ⟨ep, hat⟩ := hd.dictAt
  have hl : kvs.length = vs.length := Paired.length rk
  have hv : s.heap.IsValuesView q d := ⟨_, valsO_at I.hok hq, rfl, rfl⟩
  refine PySem.W.kdl_call (PySem.W.kdl_values (knd := mixKind X.prog X.w) (kvs := vs) (ep := ep)) (I.ok.hd hc) ⟨hv, hat⟩ (by rw [← hl]; exact z) fun h' tk acc' c' hkeep hS hacc => ?_
  refine ⟨.ref s.heap.objs.size, upd H s.heap.objs.size (.lst (kvs.map (·.2))), I.laid hkeep (Nat.le_refl _) (show ObjOk X.prog X.w _ _ _ (.lst (kvs.map (·.2))) from ⟨?_, acc'.toList, c', ?_, ?_⟩), rfl, k _ (I.hok.fresh (Nat.le_refl _))⟩
  · rw [List.length_map]; exact z
  · have el : acc'.toList.length = acc'.size := by simp
    refine vals_of_at (by rw [List.length_map, el, hacc.1, hl]) fun j x w h1 h2 => ?_
    obtain ⟨kk, hky⟩ := hacc.2 j w (by rw [← Array.getElem?_toList]; exact h2)
    rw [List.getElem?_map] at h1
    cases hp : kvs[j]? with
    | none => rw [hp] at h1; cases h1
    | some pr =>
      rw [hp] at h1
      obtain ⟨k', y⟩ := pr
      cases h1
      obtain ⟨u, hu, ru⟩ := kv_get rk hp
      rw [hky] at hu
      cases hu
      exact ru
  · rw [Array.toArray_toList]; exact hS
theorem dct_vals : ∀ (zs : List Str) (xs : List V), xs.length = zs.length → (dct zs xs).map (·.2) = xs
  | [], [], _ => rfl
  | [], _ :: _, h => by cases h
  | _ :: _, [], h => by cases h
  | z :: zs, x :: xs, h => by
    have ih := dct_vals zs xs (by simpa using h)
    show x :: (dct zs xs).map (·.2) = x :: xs
    rw [ih]
end Rc

set_option pp.maxSteps 900
namespace Rc
open PySem PySem.Spec PyProof.Rows L2 RZ
theorem nice_intsE : ∀ {ns : List Int}, (∀ n ∈ ns, BigOk n) → ∃ k, NiceA (ns.map PyData.int) k ∧ k ≤ 10 * ns.length
  | [], _ => ⟨0, NiceA.nil, Nat.zero_le _⟩
  | n :: r, h => by
    have a := nice_int (h n List.mem_cons_self)
    obtain ⟨k, b, l⟩ := nice_intsE (ns := r) fun y hy => h y (List.mem_cons_of_mem _ hy)
    exact ⟨_, NiceA.cons a (by simp only [PyData.depth]; omega) b, by rw [List.length_cons]; omega⟩
theorem dt_ints {K : PySem.W.Frag} {H : Hp} : ∀ ns : List Int, DtAll K H (ns.map V.int) (ns.map PyData.int)
  | [] => .nil
  | n :: r => .cons (.int n) (dt_ints r)
section
variable {P : Program} {w : World} {K : PySem.W.Frag} {mg : Str → Option Value} {base : Heap}
/-! ### _law_is -/
abbrev sLIs : Stmt := topS 65
abbrev nLIs : List Str := ["_law_told", "_law_due", "_law_name_here"]
theorem scLIs : FnScope nLIs ["_law_told", "_law_due"] (defScope sLIs) := ⟨rfl, rfl, rfl, by decide +kernel, rfl, by decide +kernel, by decide +kernel⟩
def spLIs : Sp := fun vs H Q _ => ∃ (d1 d2 : Addr) (zs : List Str) (G : List Int), vs = [.ref d1, .ref d2] ∧ d1 ≠ d2 ∧ H d1 = some (.dK (dct zs (G.map V.int))) ∧ H d2 = some (.dK (dct zs (G.map V.int))) ∧ zs.Nodup ∧ G.length = zs.length ∧ zs.length ≤ 12 ∧ (∀ n ∈ G, BigOk n) ∧ ∀ H', Same H H' → Q (.bl true) H'
theorem ok_lis {f : Addr} {fd : FuncData} (F : Fun K "_law_is" "_law_is" sLIs f fd) (B : Blt mg) (B2 : Blt2 mg) (B3 : Blt3 mg) : FnG P w K mg base CX0 1 f fd ["_law_told", "_law_due"] spLIs := by
  refine okG0 F scLIs (fun vs H Q E h => ?_) (fun cdv Ar outer s H vs Q E hr hgd h => ?_)
  · obtain ⟨_, _, _, _, rfl, _⟩ := h
    rfl
  · obtain ⟨d1, d2, zs, G, rfl, ne, h1, h2, nd, lG, n12, big, q⟩ := h
    have hu := hu_of hr
    refine ⟨_, pss_cons (ps_if (PW.pt (pw_or (pt_not (pt_val (pe_callB call_isi (by rfl) B.isi (by decide +kernel) (pa_cons (pv 0) (pa_cons (pe_bltn (v := .ty "dict") (by rfl) B3.dict (by decide +kernel) rfl) pa_nil)))))
        (pw_or1 (pt_cmpR op_ne (pe_callB call_lenD (by rfl) B.len PySem.boot_len (pa_cons (pv 0) pa_nil)) (pe_callB call_lenD (by rfl) B.len PySem.boot_len (pa_cons (pv 1) pa_nil)) (nomark _))))) (pss_one (ps_ret pe_bl)) pss_nil)
      (pss_one (ps_ret (pe_cmpR op_eq (pe_callB (call_repr hr hgd) (by rfl) B2.repr (by decide +kernel) (pa_cons
          (pe_lock (pe_lc (own := [("_law_name_here", 2)]) (g := gName 2) (tt := tYes) rfl scLIs.nd (pi_keys (pv 1)) (blkOk_by (N := nLIs) (sc := defScope sLIs) (own := [("_law_name_here", 2)]) (by decide +kernel))
            (fun _ _ _ _ _ => pg_name (i := 2) scLIs.nd rfl (.inl rfl) (hf := .inr rfl)) (fun _ _ _ _ _ => pts_nil)
            (fun _ _ _ _ _ => pe_dget1 hu (pv 0) (pv 2) ⟨by rfl, by rfl, by rfl, by rfl⟩))) pa_nil))
        (pe_callB (call_repr hr hgd) (by rfl) B2.repr (by decide +kernel) (pa_cons (pe_callTy (call_list_V rfl) (by rfl) B3.list (by decide +kernel) (pa_cons (pe_values (pv 1)) pa_nil)) pa_nil)) (nomark _)))), ?_⟩
    have lk : (dct zs (G.map V.int)).length = zs.length := dct_len (by rw [List.length_map]; exact lG)
    refine ⟨.ref d1, rfl, .ref d1, .ty "dict", _, _, true, rfl, .ty "dict", .base (.dK h1), kit_ty (by decide +kernel), _, rfl, iteF ?_⟩
    refine ⟨.ref d1, rfl, d1, _, rfl, h1, .ref d2, rfl, d2, _, rfl, h2, rfl, _, rfl, ?_⟩
    rw [decide_eq_true rfl]
    refine iteF ?_
    refine ⟨d2, _, h2, trivial, fun od => ?_⟩
    have hdL : upd H d2 (.frz od (.dK (dct zs (G.map V.int)))) d2 = some (.frz od (.dK (dct zs (G.map V.int)))) := upd_same
    have h1L : upd H d2 (.frz od (.dK (dct zs (G.map V.int)))) d1 = some (.dK (dct zs (G.map V.int))) := by rw [upd_ne ne]; exact h1
    have un : ∀ H', Same (upd H d2 (.frz od (.dK (dct zs (G.map V.int))))) H' → Same H (upd H' d2 (.dK (dct zs (G.map V.int)))) := fun H' s' => same_unlock h2 s'
    generalize upd H d2 (.frz od (.dK (dct zs (G.map V.int)))) = HL at hdL h1L un
    refine ⟨.ref d2, rfl, d2, od, rfl, .inl ⟨_, hdL, fun D0 nD0 => ?_⟩⟩
    have eD : D0 ≠ d2 := (ne_of_none hdL nD0).symm
    refine lc_it (walk_keys (kvs := dct zs (G.map V.int))) (fun i H' => Same HL H' ∧ H' D0 = some (.lst ((G.take i).map V.int))) ⟨same_upd nD0, upd_same⟩ (fun i H' _ hP => hP.1 _ _ hdL)
      (fun i x H2' H2 hi hP hY => ?_) (fun H2 hP => ?_)
    · obtain ⟨rfl, k, v, ek, rfl⟩ := hY
      obtain ⟨s2, hD2⟩ := hP
      rw [lk] at hi
      have hiE : i < G.length := by omega
      have ek2 : (dct zs (G.map V.int))[i]? = some (Sum.inr zs[i], V.int G[i]) := by
        unfold dct
        rw [List.getElem?_map, List.getElem?_zip_eq_some (z := (zs[i], V.int G[i])) |>.mpr ⟨List.getElem?_eq_getElem hi, by rw [List.getElem?_map, List.getElem?_eq_getElem hiE]; rfl⟩]
        rfl
      rw [ek2] at ek
      cases ek
      have dv := dct_val nd (List.getElem?_eq_getElem hi) (vs := G.map V.int) (v := V.int G[i]) (by rw [List.getElem?_map, List.getElem?_eq_getElem hiE]; rfl)
      refine ⟨rfl, .ref d1, rfl, d1, rfl, .inl ⟨_, .inl (s2 _ _ h1L)⟩, .str zs[i], rfl, some (.int G[i]), .inl ⟨_, Sum.inr zs[i], .inl (s2 _ _ h1L), rfl, dv.symm⟩, ?_⟩
      refine ⟨_, hD2, by rw [List.length_map, List.length_take]; exact small1000 (by omega), fun c o ec => ?_, ?_⟩
      · rw [upd_ne (ne_of_none ec nD0)]
        exact s2 c o ec
      · rw [upd_same, take_succ hiE, List.map_append]
        rfl
    · obtain ⟨s2, hD2⟩ := hP
      rw [lk, ← lG, List.take_length] at hD2
      obtain ⟨k, na, lk2⟩ := nice_intsE big
      have sh := na.list
      have s3 := un _ s2
      have hD3 : upd H2 d2 (.dK (dct zs (G.map V.int))) D0 = some (.lst (G.map V.int)) := by rw [upd_ne eD]; exact hD2
      refine ⟨s2 _ _ hdL, .ref D0, .list (G.map .int), rfl, .lst (.inl (.inl hD3)) (dt_ints G), sh.sh, .inl sh.nd, Nat.le_trans sh.dp (by decide), nice_fits sh (by omega), ?_⟩
      have h23 : upd H2 d2 (.dK (dct zs (G.map V.int))) d2 = some (.dK (dct zs (G.map V.int))) := upd_same
      show ∃ _, _
      generalize upd H2 d2 (.dK (dct zs (G.map V.int))) = H3 at s3 hD3 h23
      refine ⟨.ref d2, rfl, d2, _, rfl, h23, fun vq nvq => ⟨vq, d2, _, rfl, upd_same, same_upd nvq _ _ h23, fun l nl => ?_⟩⟩
      have s4 := same_upd (o := valsO vq d2) nvq
      rw [dct_vals _ _ (by rw [List.length_map]; exact lG)]
      have s5 := same_upd (o := .lst (G.map V.int)) nl
      refine ⟨.ref l, .list (G.map .int), rfl, .lst (.inl (.inl upd_same)) (dt_ints G), sh.sh, .inl sh.nd, Nat.le_trans sh.dp (by decide), nice_fits sh (by omega), rfl, ?_⟩
      rw [decide_eq_true rfl]
      exact q _ (s3.trans (s4.trans s5))
end
end Rc

namespace Rc
open PySem PySem.Spec PyProof.Rows L2 RZ
theorem ends_big {zs : List Str} {D : Md} {G : List Int} (g : Gs zs D) (gb : Gb D) (vo : VecOk (bkOf zs D) G) : ∀ x ∈ endsM (bkOf zs D) G, BigOk x := fun x hx => by
  obtain ⟨i, hi, e⟩ := List.getElem_of_mem hx
  have hl : (endsM (bkOf zs D) G).length = zs.length := endsL_len _ _ _ _
  have hi' : i < zs.length := by omega
  have ee := endsM_at (M := bkOf zs D) (G := G) g.ok vo.len (List.getElem?_eq_getElem hi' : zs[i]? = some zs[i])
  rw [List.getElem?_eq_getElem hi] at ee
  have e2 := Option.some.inj ee
  have hN : i < D.notes.length := by rw [g.ln]; exact hi'
  have hV : i < D.given.length := by rw [g.lg]; exact hi'
  have lG : G.length = zs.length := vo.len
  have hG : i < G.length := by omega
  have pos : ∀ y ∈ G, 0 ≤ y := fun y hy => by
    obtain ⟨k, ek⟩ := List.mem_iff_getElem?.mp hy
    have hk : k < D.notes.length := by
      rw [g.ln, ← lG]
      exact (List.getElem?_eq_some_iff.mp ek).1
    exact (vo.rg k _ y (List.getElem?_eq_getElem hk) ek).1
  obtain ⟨h0, h1⟩ := sums_le zs[i] (L := D.notes.zip G) fun p hp => by
    obtain ⟨a, b⟩ := List.of_mem_zip hp
    exact ⟨fun n hn => (g.nt _ a n hn).2.1, pos _ b⟩
  have h2 := wholes_le (zs := zs) (L := D.notes.zip G) fun p hp => g.nt _ (List.of_mem_zip hp).1
  have h3 : ((D.notes.zip G).map fun p => p.1.length) = D.notes.map List.length := by
    rw [show (fun p : List (Str × Int) × Int => p.1.length) = List.length ∘ Prod.fst from rfl, ← List.map_map, List.map_fst_zip (by rw [g.ln, lG]; exact Nat.le_refl _)]
  rw [h3] at h2
  have h4 := g.my
  have h5 : ((D.notes.map List.length).sum : Int) * 10 ^ 58 ≤ 60 * 10 ^ 58 := Int.mul_le_mul_of_nonneg_right (by omega) (by decide)
  obtain ⟨v0, v1⟩ := gb.gv _ (List.getElem_mem hV)
  obtain ⟨r0, r1⟩ := vo.rg i _ _ (List.getElem?_eq_getElem hN) (List.getElem?_eq_getElem hG)
  have w1 := (g.wholeB (List.getElem_mem hN)).2
  have c : cashM { bkOf zs D with drops := G } i zs[i] = D.given[i] + ((D.notes.zip G).map fun p => sumTo zs[i] (goneN p.1 p.2)).sum - G[i] := by
    show D.given.getD i 0 + ((D.notes.zip G).map fun p => sumTo zs[i] (goneN p.1 p.2)).sum - G.getD i 0 = _
    rw [getD_of (List.getElem?_eq_getElem hV), getD_of (List.getElem?_eq_getElem hG)]
  have hb : (1000 : Int) * 10 ^ 58 < 2 ^ 300 := by decide
  rw [← e, e2, c]
  have w2 : G[i] ≤ 60 * 10 ^ 58 := Int.le_trans r1 w1
  unfold BigOk
  omega
/-! ### what is no other one -/
section
variable {X : Cx}
def rIsNT (K : PySem.W.Frag) (D a : Addr) (cls : Value) (d : Option Addr) : List V → Hp → VK → Prop := fun xs H Q => ∃ (tp : Addr) (cs : List V) (us : List Value) (b : Bool), xs = [.ref a, .ref tp] ∧ H tp = some (.tup cs) ∧ Paired ClsV cs us ∧ PySem.W.kitAny K (.ref D) us = some b ∧ cls = .ref D ∧ d = none ∧ Q (.bl b) H
theorem call_isNT {K : PySem.W.Frag} {a D : Addr} {oe : Obj} {cls : Value} {d : Option Addr} {pn : List (Addr × Obj)} (eK : X.K = K) (C : ExcC K D) (hz : Zc cls d oe) (hf : ∃ vs, oe.data = .fields vs) : CallR (X.suite a ((a, oe) :: pn)) (.builtin "isinstance") (rIsNT K D a cls d) := by
  subst eK
  intro pins s σ H xs us Q I r h
  obtain ⟨tp, cs, ws, b, rfl, hT, pc, e, rfl, rfl, q⟩ := h
  cases r with
  | cons rx rr =>
    cases rr with
    | cons rt rr =>
      cases rr
      cases rx
      cases rt
      obtain ⟨hget, _⟩ := I.pin (a, oe) (List.mem_append.mpr (.inl List.mem_cons_self))
      obtain ⟨vs, hv⟩ := hf
      have J : PySem.W.InstAt s.heap a oe D none := by
        obtain ⟨h1, h2⟩ := hz
        exact ⟨hget, h1, by unfold PySem.W.notCls; rw [hv] <;> rfl, by rw [h2]; exact trivial⟩
      obtain ⟨_, its, rv, o, h1, h2, n, h3⟩ := (show ObjOk X.prog X.w H s.heap tp (.tup cs) from I.hok tp _ hT)
      have e3 := ClsV.all pc rv
      subst e3
      obtain ⟨oc, od, dt, sl⟩ := o
      simp only at h2 h3
      subst h2 h3
      obtain ⟨cdD, hcD, _⟩ := PySem.W.any_some C.hd
      exact PySem.W.kia_tup (PySem.W.kitx_exc (by rw [hcD]; rfl) C.hg C.hk C.hs C.ha C.hn C.ht C.hm) I.kIn J h1 e (fun z => nomatch z) fun tk => ⟨.bl b, H, I.kept (t' := tk) fun _ _ z => z, rfl, q⟩
end
structure Ea61 where
  (B O S X R F T H D NA NP NW NK V : Addr)
structure Et61 (K : PySem.W.Frag) (mg : Str → Option Value) (a : Ea61) : Prop where
  gB : mg "BookError" = some (.ref a.B)
  gO : mg "NoBook" = some (.ref a.O)
  gA : mg "NoAmount" = some (.ref a.NA)
  gP : mg "NoStep" = some (.ref a.NP)
  gX : mg "NoText" = some (.ref a.X)
  gW : mg "NoRow" = some (.ref a.NW)
  gK : mg "NoBack" = some (.ref a.NK)
  gS : mg "NoSuch" = some (.ref a.S)
  gRn : mg "NoRing" = some (.ref a.R)
  gF : mg "Full" = some (.ref a.F)
  gT : mg "TooMuch" = some (.ref a.T)
  gH : mg "Short" = some (.ref a.H)
  gD : mg "Behind" = some (.ref a.D)
  gL : mg "LookupError" = none
  gAr : mg "ArithmeticError" = none
  gR : mg "RuntimeError" = none
  gV : mg "ValueError" = none
  kB : PySem.W.kitOne K (.ref a.V) (.ref a.B) = some true
  kV : PySem.W.kitOne K (.ref a.V) (.type "ValueError") = some true
  kR : PySem.W.kitOne K (.ref a.V) (.type "RuntimeError") = some false
  kA : PySem.W.kitAny K (.ref a.V) [.ref a.O, .ref a.NA, .ref a.NP, .ref a.X, .ref a.NW, .ref a.NK, .type "LookupError", .type "ArithmeticError"] = some false
section
variable {P : Program} {w : World} {K : PySem.W.Frag} {mg : Str → Option Value} {base : Heap}
/-! ### _law_tried -/
abbrev sLTd : Stmt := topS 66
abbrev nLTd : List Str := ["_law_made", "_law_thing", "_law_which", "_law_told", "e", "_law_others"]
theorem scLTd : FnScope nLTd ["_law_made", "_law_thing", "_law_which"] (defScope sLTd) := ⟨rfl, rfl, rfl, by decide +kernel, rfl, by decide +kernel, by decide +kernel⟩
def spLTd (K : PySem.W.Frag) (C : Addr) : Sp := fun vs H Q _ => ∃ (b : Addr) (M : Bk) (v : V) (n : Int), vs = [.ref b, v, .int n] ∧ BookAt K C H b M ∧ M.Ok ∧ NV K H M v ∧ ∀ H', Same H H' → Q (.str "refused") H'
set_option maxHeartbeats 2000000 in
theorem ok_ltd {f f1 f2 C : Addr} {fd fd1 fd2 : FuncData} {a : Ea61} (F : Fun K "_law_tried" "_law_tried" sLTd f fd) (B : Blt mg) (E : Et61 K mg a) (PV : ClsP K mg "NoVector" a.V a.B) (EB : HasX P w K mg base 8 "ends_by" ["book", "vector"] (spNVe K C a.V) f1 fd1) (IC : HasX P w K mg base 9 "is_covered" ["book", "vector"] (spNVe K C a.V) f2 fd2) :
    FnOk P w K mg base CX0 10 f fd ["_law_made", "_law_thing", "_law_which"] (spLTd K C) := by
  have NE := PV.exc
  refine F.ok scLTd (fun vs H Q E h => ?_) (fun cdv Ar outer s H vs Q E0 hr h => ?_)
  · obtain ⟨_, _, _, _, rfl, _⟩ := h
    rfl
  · obtain ⟨b, M, v, n, rfl, hb, ok, nv, q⟩ := h
    have hr8 := hr.mono (show 8 ≤ 9 by decide)
    refine ⟨_, (pss_cons (ps_set (i := 3) scLTd.nd rfl (.inl rfl) pe_str) (pss_cons (ps_try_mixT (Wo := fun _ _ _ _ => False) rfl rfl scLTd.nd (fun _ _ ⟨_, _, _, _, _, _, _, _, _, _, _, _, _, _, _, _, z⟩ => z.elim) (fun W pn xe tk _ => (pss_one (ps_if (pt_cmpR op_eq (pv 2) pe_int (nomark _)) (pss_one (ps_expr (pe_callS EB.ok hr8 (by rfl) EB.g EB.kp EB.b (fun σ => passAt tk σ) (pa_cons (pv 0) (pa_cons (pv 1) pa_nil))))) (pss_one (ps_expr (pe_callS IC.ok hr (by rfl) IC.g IC.kp IC.b (fun σ => passAt tk σ) (pa_cons (pv 0) (pa_cons (pv 1) pa_nil)))))))) (.named (i := 4) rfl rfl (.one ⟨rfl, by decide, .inl PV.gP⟩) (fun a' oe cls d pn hB hz hf => (pss_cons (ps_set (i := 5) scLTd.nd rfl (.inl rfl) (pe_callB (call_isNT (K := K) rfl NE hz hf) (by rfl) B.isi (by decide +kernel) (pa_cons (pv 4) (pa_cons (pe_tup (pa_cons (pe_glob (v := .ref a.O) (by rfl) E.gO rfl) (pa_cons (pe_glob (v := .ref a.NA) (by rfl) E.gA rfl) (pa_cons (pe_glob (v := .ref a.NP) (by rfl) E.gP rfl) (pa_cons (pe_glob (v := .ref a.X) (by rfl) E.gX rfl) (pa_cons (pe_glob (v := .ref a.NW) (by rfl) E.gW rfl) (pa_cons (pe_glob (v := .ref a.NK) (by rfl) E.gK rfl) (pa_cons (pe_bltn (v := .ty "LookupError") (by rfl) E.gL (by decide +kernel) rfl) (pa_cons (pe_bltn (v := .ty "ArithmeticError") (by rfl) E.gAr (by decide +kernel) rfl) pa_nil))))))))) pa_nil)))) (pss_cons (ps_set (i := 5) scLTd.nd rfl (.inl rfl) (pe_or (pv 5) (pe_one (pe_callB (call_isN (K := K) rfl NE hz hf) (by rfl) B.isi (by decide +kernel) (pa_cons (pv 4) (pa_cons (pe_bltn (v := .ty "RuntimeError") (by rfl) E.gR (by decide +kernel) rfl) pa_nil)))))) (pss_one (ps_set (i := 3) scLTd.nd rfl (.inl rfl) (pe_ifExp (PW.pt (pw_and (pt_val (pe_callB (call_isN (K := K) rfl NE hz hf) (by rfl) B.isi (by decide +kernel) (pa_cons (pv 4) (pa_cons (pe_glob (v := .ref a.B) (by rfl) E.gB rfl) pa_nil)))) (pw_and (pt_val (pe_callB (call_isN (K := K) rfl NE hz hf) (by rfl) B.isi (by decide +kernel) (pa_cons (pv 4) (pa_cons (pe_bltn (v := .ty "ValueError") (by rfl) E.gV (by decide +kernel) rfl) pa_nil)))) (pw_and1 (pt_not (pt_val (pv 5))))))) pe_str pe_str)))))) (.plain (.many (.cons ⟨rfl, by decide, .inl E.gB⟩ (.cons ⟨rfl, by decide, .inl E.gS⟩ (.cons ⟨rfl, by decide, .inl E.gRn⟩ (.cons ⟨rfl, by decide, .inl E.gF⟩ (.cons ⟨rfl, by decide, .inl E.gT⟩ (.cons ⟨rfl, by decide, .inl E.gH⟩ (.cons ⟨rfl, by decide, .inl E.gD⟩ .nil))))))) (by show 7 ≤ sizeLine; decide)) (fun a' oe cls d pn hB hz hf => (pss_one (ps_set (i := 3) scLTd.nd rfl (.inl rfl) pe_str))) .nil))) (pss_one (ps_ret (pv 3))))), ?_⟩
    have sR : ∀ H1, Same H H1 → ∀ a' : Addr, H1 a' = none → True := fun _ _ _ _ => trivial
    refine ⟨.int n, rfl, rfl, _, rfl, ite2 (fun _ => ⟨.ref b, rfl, v, rfl, b, M, v, rfl, hb, ok, nv, fun H1 s1 => ?_⟩) (fun _ => ⟨.ref b, rfl, v, rfl, b, M, v, rfl, hb, ok, nv, fun H1 s1 => ?_⟩)⟩
    all_goals
      refine ⟨true, any_one PV.hit, fun _ x nx => ?_, fun z => (nomatch z)⟩
      refine ⟨.ref x, rfl, by show 8 ≤ sizeLine; decide, fun t nt => ?_⟩
      have s2 := same_upd (o := .tup [V.ref a.O, .ref a.NA, .ref a.NP, .ref a.X, .ref a.NW, .ref a.NK, .ty "LookupError", .ty "ArithmeticError"]) nt
      refine ⟨t, _, _, false, rfl, upd_same, .cons (.own _) (.cons (.own _) (.cons (.own _) (.cons (.own _) (.cons (.own _) (.cons (.own _) (.cons (.ty _) (.cons (.ty _) .nil))))))), E.kA, rfl, rfl, ?_⟩
      refine ⟨.bl false, rfl, false, rfl, ?_⟩
      refine ⟨.ref x, rfl, .ty "RuntimeError", .type "RuntimeError", false, rfl, (fun u r => r), E.kR, rfl, rfl, ?_⟩
      refine ⟨.ref x, rfl, .ref a.B, .ref a.B, true, rfl, (fun u r => r), E.kB, rfl, rfl, _, rfl, ?_⟩
      refine iteT ⟨.ref x, rfl, .ty "ValueError", .type "ValueError", true, rfl, (fun u r => r), E.kV, rfl, rfl, _, rfl, ?_⟩
      refine iteT ⟨.bl false, rfl, _, rfl, iteT ?_⟩
      exact ⟨_, rfl, q _ (s1.trans s2)⟩
end
end Rc

namespace Rc
open PySem PySem.Spec PyProof.Rows L2 RZ
theorem Vals.rev : ∀ {vs : List V} {us : List Value}, Vals vs us → Vals vs.reverse us.reverse
  | [], [], _ => .nil
  | v :: vs, u :: us, .cons a b => by
    rw [List.reverse_cons, List.reverse_cons]
    exact (Vals.rev b).append (.cons a .nil)
/-- f(k4 = .., k3 = .., k2 = .., k1 = ..): the def's parameters, from behind -/
theorem pe_callRv {X : Cx} {CX : CXT} {k : Nat} {f : Addr} {fd : FuncData} {ps ks : List Str} {sp : Sp} {E : XK} {x : Str} {p pos : Pos} {kws : List Keyword} {tk : TA} (F : FnOk X.prog X.w X.K X.mg X.base CX k f fd ps sp)
    (hr : Room k X.A) (hg : Gl X x) (hm : X.mg x = some (.ref f)) (hk : PySem.W.keepIn X.K (.ref f) = true)
    (hb : ∀ (s : Shared) (ws : List Value), ws.length = ks.length → BindsTo s fd ⟨[], ks.zip ws⟩ (ps.zip ws.reverse)) (hx : Passes CX X E)
    (hkw : PK X kws tk) (hall : (backToKw pos (keywordEach kws X.env)).all (·.1.isSome) = true := by rfl)
    (hks : (backToKw pos (keywordEach kws X.env)).filterMap (·.1) = ks := by rfl)
    (hdb : (x == ("__debug__" : Str)) = false := by decide)
    (hpl : ((backTo pos (starEach [] X.env)).any (·.1) || (backToKw pos (keywordEach kws X.env)).any (·.1.isNone)) = false := by rfl) :
    PE X (.Call (.Name x p) [] kws pos) (fun σ H Q => tk σ H fun zs H2 => zs.length = ks.length ∧ sp zs.reverse H2 Q E) := by
  refine ⟨fun pins s σ H Q I h => wpAny_Call_Name_kw (ld_glob I hg hm ?_ hdb)⟩
  refine PySem.W.callWith_KW0 (h₀ := X.base) I.ok.mod.kin hk hall ?_ hpl
  refine thn (hkw.run pos pins s σ H _ I h) fun ws s2 z => ?_
  obtain ⟨zs, H2, I2, rz, l, q⟩ := z
  refine ⟨I2.kIn, ?_⟩
  rw [hks]
  refine wpAny_call (codeAny_mono (F.run X.A X.stack s2 H2 ⟨[], ks.zip ws⟩ ws.reverse zs.reverse Q E hr I2.env0 (hb s2 ws (rz.length.symm.trans l)) (Vals.rev rz) q) fun r s' hq => ?_)
  match r, hq with
  | .error e, hq => exact hx pins σ H2 s2 e s' I2 hq
  | .ok (.ret u), hq => exact I2.after hq
  | .ok .next, hq => exact hq.elim
  | .ok .brk, hq => exact hq.elim
  | .ok .cont, hq => exact hq.elim
theorem kbRv2 {K : PySem.W.Frag} {nm q p1 p2 : Str} {st : Stmt} {f : Addr} {fd : FuncData} (F : Fun K nm q st f fd)
    (h : ∀ (kV doc pm : Value) (an : Option Addr) (cdv ct a b : Value), bindArgs (PySem.W.fnOf nm q (defArgs st) (defBody st) (defScope st) .none kV doc pm an cdv ct) ⟨[], [(p2, a), (p1, b)]⟩ = pure [(p1, b), (p2, a)]) : ∀ (s : Shared) (ws : List Value), ws.length = ([p2, p1] : List Str).length → BindsTo s fd ⟨[], ([p2, p1] : List Str).zip ws⟩ (([p1, p2] : List Str).zip ws.reverse) := by
  obtain ⟨oc, od, kV, doc, pm, an, cdv, ct, osl, rfl, lk, hcd⟩ := F.ex
  exact fun s ws l => match ws, l with
    | [a, b], _ => .of_eq (h kV doc pm an cdv ct a b)
theorem kbOne {K : PySem.W.Frag} {nm q p1 : Str} {st : Stmt} {f : Addr} {fd : FuncData} (F : Fun K nm q st f fd)
    (h : ∀ (kV doc pm : Value) (an : Option Addr) (cdv ct a : Value), bindArgs (PySem.W.fnOf nm q (defArgs st) (defBody st) (defScope st) .none kV doc pm an cdv ct) ⟨[], [(p1, a)]⟩ = pure [(p1, a)]) : ∀ (s : Shared) (ws : List Value), ws.length = ([p1] : List Str).length → BindsTo s fd ⟨[], ([p1] : List Str).zip ws⟩ (([p1] : List Str).zip ws) := by
  obtain ⟨oc, od, kV, doc, pm, an, cdv, ct, osl, rfl, lk, hcd⟩ := F.ex
  exact fun s ws l => match ws, l with
    | [a], _ => .of_eq (h kV doc pm an cdv ct a)
end Rc

namespace Rc
open PySem PySem.Spec PyProof.Rows L2 RZ
section
variable {P : Program} {w : World} {K : PySem.W.Frag} {mg : Str → Option Value} {base : Heap}
/-! ### _law_right -/
abbrev sLRt : Stmt := topS 67
abbrev nLRt : List Str := ["_law_pot_here", "_law_model_here", "_law_made", "_law_time", "_law_shares_here", "_law_kept", "_law_due", "_law_told", "_law_spoilt", "_law_shown", "_law_which"]
theorem scLRt : FnScope nLRt ["_law_pot_here", "_law_model_here", "_law_made"] (defScope sLRt) := ⟨rfl, rfl, rfl, by decide +kernel, rfl, by decide +kernel, by decide +kernel⟩
def spLRt61 (K : PySem.W.Frag) (C : Addr) : Sp := fun vs H Q _ => ∃ (p : Addr) (a : MdA) (D : Md) (zs : List Str) (b : Addr), vs = [.ref p, .ref a.m, .ref b] ∧ Pot H p ∧ ModelAt K H zs a D ∧ ¬ a.Has p ∧ Gs zs D ∧ Gb D ∧ BookAt K C H b (bkOf zs D) ∧ ∀ H', Pot H' p → But p H H' → Q (.bl true) H'
set_option maxHeartbeats 4000000 in
theorem ok_lrt61 {f f1 f2 f3 f4 f5 f6 f7 C : Addr} {fd fd1 fd2 fd3 fd4 fd5 fd6 fd7 : FuncData} (F : Fun K "_law_right" "_law_right" sLRt f fd) (B : Blt mg) (B2 : Blt2 mg) (SA : Has P w K mg base 2 "_law_shares" ["_law_pot_here", "_law_model_here"] (spLSa K) f1 fd1)
    (EN : Has P w K mg base 3 "_law_ends" ["_law_model_here", "_law_shares_here"] (spLEn K) f2 fd2) (EB : Has P w K mg base 8 "ends_by" ["book", "vector"] (spEnB K C) f3 fd3) (kbE : ∀ (s : Shared) (ws : List Value), ws.length = (["vector", "book"] : List Str).length → BindsTo s fd3 ⟨[], (["vector", "book"] : List Str).zip ws⟩ ((["book", "vector"] : List Str).zip ws.reverse))
    (LI : HasG P w K mg base 1 "_law_is" ["_law_told", "_law_due"] spLIs f4 fd4) (NS : Has P w K mg base 3 "_law_no_shares" ["_law_pot_here", "_law_model_here", "_law_shares_here"] (spLNs61 K) f5 fd5) (TD : Has P w K mg base 10 "_law_tried" ["_law_made", "_law_thing", "_law_which"] (spLTd K C) f6 fd6)
    (AL : HasG P w K mg base 6 "_law_alike" ["_law_model_here", "_law_tome"] (spLAl K C) f7 fd7) : FnG P w K mg base CX0 11 f fd ["_law_pot_here", "_law_model_here", "_law_made"] (spLRt61 K C) := by
  refine okG0 F scLRt (fun vs H Q E h => ?_) (fun cdv Ar outer s H vs Q E hr hgd h => ?_)
  · obtain ⟨_, _, _, _, _, rfl, _⟩ := h
    rfl
  · obtain ⟨p, a, D, zs, b, rfl, hp, hM, np, g, gb, hb, q⟩ := h
    have hu := hu_of hr
    have hr1 := hr.mono (show 1 ≤ 10 by decide)
    have hr2 := hr.mono (show 2 ≤ 10 by decide)
    have hr3 := hr.mono (show 3 ≤ 10 by decide)
    have hr6 := hr.mono (show 6 ≤ 10 by decide)
    have hr8 := hr.mono (show 8 ≤ 10 by decide)
    refine ⟨_, (pss_cons (ps_for PassesOwn.never rfl (pi_range1 (by rfl) B2.range (pa_cons pe_int pa_nil)) (pg_name (i := 3) scLRt.nd rfl (.inl rfl)) (pss_cons (ps_set (i := 4) scLRt.nd rfl (.inl rfl) (pe_call SA.ok hr2 (by rfl) SA.g SA.kp SA.b .nil pass0 (pa_cons (pv 0) (pa_cons (pv 1) pa_nil)))) (pss_cons (ps_par (i := 5) (j := 6) rfl scLRt.nd rfl rfl (by decide) rfl rfl (pa_cons (pe_callB (call_reprG hr hgd) (by rfl) B2.repr (by decide +kernel) (pa_cons (pv 4) pa_nil)) (pa_cons (pe_call EN.ok hr3 (by rfl) EN.g EN.kp EN.b .nil pass0 (pa_cons (pv 1) (pa_cons (pv 4) pa_nil))) pa_nil)) (by rfl)) (pss_cons (ps_set (i := 7) scLRt.nd rfl (.inl rfl) (pe_call EB.ok hr8 (by rfl) EB.g EB.kp EB.b .nil pass0 (pa_cons (pv 2) (pa_cons (pv 4) pa_nil)))) (pss_cons (ps_if (PW.pt (pw_or (pt_not (pt_val (pe_callG LI.ok hr1 hgd (by rfl) LI.g LI.kp LI.b .nil pass0 (pa_cons (pv 7) (pa_cons (pv 6) pa_nil))))) (pw_or1 (pt_not (pt_val (pe_callG LI.ok hr1 hgd (by rfl) LI.g LI.kp LI.b .nil pass0 (pa_cons (pe_callRv (ks := ["vector", "book"]) EB.ok hr8 (by rfl) EB.g EB.kp kbE pass0 (pk_cons (pv 4) (pk_cons (pv 2) pk_nil))) (pa_cons (pv 6) pa_nil)))))))) (pss_one (ps_ret pe_bl)) pss_nil) (pss_cons (ps_if (pt_cmpR op_ne (pe_callB (call_reprG hr hgd) (by rfl) B2.repr (by decide +kernel) (pa_cons (pv 4) pa_nil)) (pv 5) (nomark _)) (pss_one (ps_ret pe_bl)) pss_nil) (pss_cons (ps_expr (pe_dclear (pv 7))) (pss_cons (ps_dput hu (pv 7) pe_str pe_int rfl) (pss_cons (ps_if (pt_not (pt_val (pe_callG LI.ok hr1 hgd (by rfl) LI.g LI.kp LI.b .nil pass0 (pa_cons (pe_call EB.ok hr8 (by rfl) EB.g EB.kp EB.b .nil pass0 (pa_cons (pv 2) (pa_cons (pv 4) pa_nil))) (pa_cons (pv 6) pa_nil))))) (pss_one (ps_ret pe_bl)) pss_nil) (pss_cons (ps_set (i := 8) scLRt.nd rfl (.inr rfl) (pe_call NS.ok hr3 (by rfl) NS.g NS.kp NS.b .nil pass0 (pa_cons (pv 0) (pa_cons (pv 1) (pa_cons (pv 4) pa_nil))))) (pss_cons (ps_set (i := 9) scLRt.nd rfl (.inl rfl) (pe_callB (call_reprG hr hgd) (by rfl) B2.repr (by decide +kernel) (pa_cons (pv 8) pa_nil))) (pss_one (ps_if (PW.pt (pw_or (pt_cmpR (op_neD hr.units) (pe_lc (own := [("_law_which", 10)]) (g := gName 10) (tt := tYes) rfl scLRt.nd (pi_range1 (by rfl) B2.range (pa_cons pe_int pa_nil)) (blkOk_by (N := nLRt) (sc := defScope sLRt) (own := [("_law_which", 10)]) (by decide +kernel)) (fun _ _ _ _ _ => pg_name (i := 10) scLRt.nd rfl (.inl rfl) (hf := .inr rfl)) (fun _ _ _ _ _ => pts_nil) (fun _ _ _ _ _ => (pe_call TD.ok hr (by rfl) TD.g TD.kp TD.b .nil pass0 (pa_cons (pv 2) (pa_cons (pv 8) (pa_cons (pv 10) pa_nil)))))) (pe_op op_rep (pe_lst (pa_cons pe_str pa_nil)) pe_int) (nomark _)) (pw_or1 (pt_cmpR op_ne (pe_callB (call_reprG hr hgd) (by rfl) B2.repr (by decide +kernel) (pa_cons (pv 8) pa_nil)) (pv 9) (nomark _))))) (pss_one (ps_ret pe_bl)) pss_nil))))))))))))) (pss_one (ps_ret (pe_callG AL.ok hr6 hgd (by rfl) AL.g AL.kp AL.b .nil pass0 (pa_cons (pv 1) (pa_cons (pv 2) pa_nil)))))), ?_⟩
    have n1 := g.nz.n1
    have n0 := g.nz.n0
    refine ⟨4, rfl, by decide, by decide, ?_⟩
    refine for_it walk_range (fun i σ H' => ∃ y3 y4 y5 y6 y7 y8 y9, σ = [some (.ref p), some (.ref a.m), some (.ref b), y3, y4, y5, y6, y7, y8, y9, none] ∧ Pot H' p ∧ But p H H') ⟨_, _, _, _, _, _, _, rfl, hp, But.refl p H⟩ (fun _ _ _ _ _ => trivial) (fun i x σ H1' H1 hi hP hY => ?_) (fun σ H1 hP => ?_)
    · obtain ⟨rfl, rfl⟩ := hY
      obtain ⟨y3, y4, y5, y6, y7, y8, y9, rfl, hp1, b1⟩ := hP
      have hM1 := model_but hM b1 hp np
      refine ⟨.ref p, rfl, .ref a.m, rfl, p, a, D, zs, rfl, hp1, hM1, np, g, gb, fun d G H2 b2 hp2 nd dp hd vo => ?_⟩
      have lG : G.length = zs.length := vo.len
      have lGV : zs.length = (G.map V.int).length := by rw [List.length_map, lG]
      have b02 := b1.trans b2
      have hM2 := model_but hM b02 hp np
      have hb2 := hb.keep (b02.kpP hp)
      have big : ∀ x ∈ G, BigOk x := fun x hx => by
        obtain ⟨k, ek⟩ := List.mem_iff_getElem?.mp hx
        have hk : k < (bkOf zs D).stacks.length := by
          rw [g.ok.ls]
          show k < zs.length
          rw [← lG]
          exact (List.getElem?_eq_some_iff.mp ek).1
        obtain ⟨r0, r1⟩ := vo.rg k _ x (List.getElem?_eq_getElem hk) ek
        obtain ⟨w0', w1'⟩ := g.wholeB (List.getElem_mem hk)
        have : (60 : Int) * 10 ^ 58 < 2 ^ 300 := by decide
        unfold BigOk
        omega
      have ebig := ends_big g gb vo
      have le : (endsM (bkOf zs D) G).length = zs.length := endsL_len _ _ _ _
      obtain ⟨f1, f2⟩ := dct_fst lGV
      have shown : ∃ Z : Str, ∀ G', G' d = some (.dK (dct zs (G.map V.int))) → ∀ Q : VK, Q (.str Z) G' → rReprG K [.ref d] G' Q := by
        obtain ⟨c1, c2, c3⟩ := (nice_num g.nz.nm big).show (by omega)
        refine ⟨_, fun G' hd' Q q' => .inr ⟨d, zs.map V.str, G.map V.int, numD zs G, rfl, .inr ⟨_, hd', f1.symm, f2.symm⟩, (flv_strs _ _ lG.symm).1, (flv_strs _ _ lG.symm).2, c1, c2, c3, q'⟩⟩
      obtain ⟨Z, shown⟩ := shown
      refine ⟨.ref d, rfl, shown H2 hd _ ?_⟩
      refine ⟨.ref a.m, rfl, .ref d, rfl, a, D, zs, d, G, rfl, hM2, g, hd, lG, fun e H3 s3 ne he => ⟨_, _, rfl, ?_⟩⟩
      have hd3 := s3 _ _ hd
      refine ⟨.ref b, rfl, .ref d, rfl, b, d, bkOf zs D, G, rfl, book_same hb2 s3, g.ok, g.closed, hd3, vo, fun t H4 s4 nt ht => ?_⟩
      have te : t ≠ e := (ne_of_none he nt).symm
      have td : t ≠ d := (ne_of_none hd3 nt).symm
      refine ⟨.ref t, rfl, .ref e, rfl, t, e, zs, endsM (bkOf zs D) G, rfl, te, ht, s4 _ _ he, g.nz.nd, le, n1, ebig, fun H5 s5 => ⟨_, rfl, iteF ?_⟩⟩
      have s35 := s4.trans s5
      refine ⟨.ref d, rfl, .ref b, rfl, rfl, b, d, bkOf zs D, G, rfl, book_same hb2 (s3.trans s35), g.ok, g.closed, s35 _ _ hd3, vo, fun t2 H6 s6 nt2 ht2 => ?_⟩
      have s36 := s35.trans s6
      have he5 := s35 _ _ he
      refine ⟨.ref e, rfl, t2, e, zs, endsM (bkOf zs D) G, rfl, (ne_of_none he5 nt2).symm, ht2, s36 _ _ he, g.nz.nd, le, n1, ebig, fun H7 s7 => ⟨_, rfl, iteF ?_⟩⟩
      have s37 := s36.trans s7
      have hd7 := s37 _ _ hd3
      refine ⟨.ref d, rfl, shown H7 hd7 _ ⟨.str Z, rfl, rfl, _, rfl, ?_⟩⟩
      rw [decide_eq_true rfl]
      have ht7 := (s5.trans (s6.trans s7)) _ _ ht
      refine iteF ⟨.ref t, rfl, .inr (.inr (.inl ⟨rfl, .inl ⟨_, ht7⟩⟩)), t, _, rfl, rfl, ht7, ?_⟩
      have tp : t ≠ p := fun z => by
        obtain ⟨_, _, ep, _⟩ := hp2
        have := s3 _ _ ep
        rw [← z, nt] at this
        cases this
      have b07 : But p H H7 := b02.trans (same_but (s3.trans s37))
      have tH : H t = none := by
        cases e1 : H t with
        | none => rfl
        | some o =>
          have := s3 _ _ (b02 _ _ tp e1)
          rw [nt] at this
          cases this
      have h8 : upd H7 t (.dK []) t = some (.dK []) := upd_same
      refine ⟨.ref t, rfl, t, _, rfl, .inl ⟨_, Sum.inr "", h8, rfl, by show 0 < sizeLine; decide, rfl⟩, ?_⟩
      have b09 : But p H (upd (upd H7 t (.dK [])) t (.dK (putK [] (Sum.inr "") (.int 0)))) := fun c o n e1 => by
        rw [upd_ne (ne_of_none e1 tH), upd_ne (ne_of_none e1 tH)]
        exact b07 _ _ n e1
      have hp7 := (hp2.same s3).same s37
      have hp9 : Pot (upd (upd H7 t (.dK [])) t (.dK (putK [] (Sum.inr "") (.int 0)))) p := by
        obtain ⟨u, v, e1, hh⟩ := hp7
        exact ⟨u, v, by rw [upd_ne tp.symm, upd_ne tp.symm]; exact e1, hh⟩
      have hd9 : upd (upd H7 t (.dK [])) t (.dK (putK [] (Sum.inr "") (.int 0))) d = some (.dK (dct zs (G.map V.int))) := by
        rw [upd_ne td.symm, upd_ne td.symm]
        exact hd7
      have he9 : upd (upd H7 t (.dK [])) t (.dK (putK [] (Sum.inr "") (.int 0))) e = some (.dK (dct zs ((endsM (bkOf zs D) G).map V.int))) := by
        rw [upd_ne te.symm, upd_ne te.symm]
        exact s37 _ _ he
      generalize upd (upd H7 t (.dK [])) t (.dK (putK [] (Sum.inr "") (.int 0))) = H9 at b09 hp9 hd9 he9
      have hb9 := hb.keep (b09.kpP hp)
      refine ⟨.ref b, rfl, .ref d, rfl, b, d, bkOf zs D, G, rfl, hb9, g.ok, g.closed, hd9, vo, fun t3 Ha sa nt3 ht3 => ?_⟩
      refine ⟨.ref e, rfl, t3, e, zs, endsM (bkOf zs D) G, rfl, (ne_of_none he9 nt3).symm, ht3, sa _ _ he9, g.nz.nd, le, n1, ebig, fun Hb sb => ⟨_, rfl, iteF ?_⟩⟩
      have s9b := sa.trans sb
      have b0b : But p H Hb := b09.trans (same_but s9b)
      have hpb := hp9.same s9b
      refine ⟨.ref p, rfl, .ref a.m, rfl, .ref d, rfl, p, a, D, zs, d, G, rfl, hpb, model_but hM b0b hp np, np, g, s9b _ _ hd9, vo, fun v Hc hpc bc sp => ?_⟩
      obtain ⟨nv, ZZ, sh⟩ := sp
      have b0c := b0b.trans bc
      have hbc := hb.keep (b0c.kpP hp)
      refine ⟨v, rfl, sh Hc (But.refl p Hc) _ ?_⟩
      refine ⟨2, rfl, by decide, by decide, fun D1 nD1 => ?_⟩
      refine lc_it walk_range (fun i' H' => Same Hc H' ∧ H' D1 = some (.lst ((List.replicate i' ("refused" : Str)).map V.str))) ⟨same_upd nD1, upd_same⟩ (fun _ _ _ _ => trivial) (fun i' x' H2' H2x hi' hP hY => ?_) (fun Hd hP => ?_)
      · obtain ⟨rfl, rfl⟩ := hY
        obtain ⟨sc, hD⟩ := hP
        have hi2 : i' < 2 := by simpa using hi'
        refine ⟨rfl, .ref b, rfl, v, rfl, .int (0 + i'), rfl, b, bkOf zs D, v, (0 + i'), rfl, book_same hbc sc, g.ok, (nv Hc (But.refl p Hc)).same sc, fun H3x s3x => ⟨_, s3x _ _ hD, ?_, fun c o ec => ?_, ?_⟩⟩
        · rw [List.length_map, List.length_replicate]
          exact small1000 (by omega)
        · rw [upd_ne (ne_of_none ec nD1)]
          exact s3x _ _ (sc c o ec)
        · rw [upd_same, List.replicate_succ', List.map_append]
          rfl
      obtain ⟨sd, hD⟩ := hP
      refine ⟨by show 1 ≤ sizeLine; decide, fun L1 nL1 => ?_⟩
      have t1 := same_upd (o := .lst [V.str "refused"]) nL1
      have h1 : upd Hd L1 (.lst [V.str "refused"]) L1 = some (.lst [V.str "refused"]) := upd_same
      generalize upd Hd L1 (.lst [V.str "refused"]) = He at t1 h1
      refine ⟨L1, 2, _, rfl, rfl, h1, by decide, by decide, by show 1 * 2 ≤ sizeLine; decide, fun L2x nL2 => ?_⟩
      have t2x := same_upd (o := .lst (List.replicate (2 : Int).toNat [V.str "refused"]).flatten) nL2
      have h2 : upd He L2x (.lst (List.replicate (2 : Int).toNat [V.str "refused"]).flatten) L2x = some (.lst ((["refused", "refused"] : List Str).map V.str)) := upd_same
      have hD2 : upd He L2x (.lst (List.replicate (2 : Int).toNat [V.str "refused"]).flatten) D1 = some (.lst ((["refused", "refused"] : List Str).map V.str)) := t2x _ _ (t1 _ _ hD)
      generalize upd He L2x (.lst (List.replicate (2 : Int).toNat [V.str "refused"]).flatten) = Hf at t2x h2 hD2
      refine ⟨_, _, strs_dp12 hD2, strs_dp12 h2, shaped12 (by decide +kernel), shaped12 (by decide +kernel), _, rfl, ?_⟩
      rw [show PyData.eqv (.list ((["refused", "refused"] : List Str).map PyData.str)) (.list ((["refused", "refused"] : List Str).map PyData.str)) = true from by decide +kernel]
      have scf := sd.trans (t1.trans t2x)
      refine iteF ⟨v, rfl, sh Hf (same_but scf) _ ⟨.str ZZ, rfl, rfl, _, rfl, ?_⟩⟩
      rw [decide_eq_true rfl]
      exact iteF ⟨_, _, _, _, _, _, _, rfl, hpc.same scf, b0c.trans (same_but scf)⟩
    · obtain ⟨y3, y4, y5, y6, y7, y8, y9, rfl, hp1, b1⟩ := hP
      exact ⟨.ref a.m, rfl, .ref b, rfl, a, D, zs, b, rfl, model_but hM b1 hp np, hb.keep (b1.kpP hp), g, gb, fun H2 s2 => q H2 (hp1.same s2) (b1.trans (same_but s2))⟩
end
end Rc

namespace Rc
open PySem PySem.Spec PyProof.Rows L2 RZ
theorem fallen_big {zs : List Str} {E : Md} (g : Gs zs E) (gb : Gb E) : ∀ n ∈ E.fallen, BigOk n := fun n hn => by
  obtain ⟨k, ek⟩ := List.mem_iff_getElem?.mp hn
  have hk : k < E.notes.length := by
    rw [g.ln, ← g.lf]
    exact (List.getElem?_eq_some_iff.mp ek).1
  have h1 := gb.fw k _ n (List.getElem?_eq_getElem hk) ek
  have h2 := (g.wholeB (List.getElem_mem hk)).2
  have h0 := g.fl n hn
  have : (60 : Int) * 10 ^ 58 < 2 ^ 300 := by decide
  unfold BigOk
  omega
theorem dp_intsA {K : PySem.W.Frag} {H : Hp} : ∀ ns : List Int, DpAll K H (ns.map V.int) (ns.map PyData.int)
  | [] => .nil
  | n :: r => .cons (.int n) (dp_intsA r)
section
variable {P : Program} {w : World} {K : PySem.W.Frag} {mg : Str → Option Value} {base : Heap}
/-! ### law -/
abbrev sLaw : Stmt := topS 68
abbrev nLaw : List Str := ["_law_script", "_law_k", "_law_pot_here", "_law_model_here", "_law_made", "_law_told", "_law_name_here"]
theorem scLaw : FnScope nLaw ["_law_script"] (defScope sLaw) := ⟨rfl, rfl, rfl, by decide +kernel, rfl, by decide +kernel, by decide +kernel⟩
def spLaw (K : PySem.W.Frag) : Sp := fun vs H Q _ => ∃ (a : Addr) (ns : List Int), vs = [.ref a] ∧ SqL K H a (ns.map V.int) ∧ ns.length ≤ 63 ∧ ∀ H', Q (.bl true) H'
set_option maxHeartbeats 4000000 in
theorem ok_law {f fP f0 f1 f2 f3 f4 f5 f6 f7 C : Addr} {fd fdP fd0 fd1 fd2 fd3 fd4 fd5 fd6 fd7 : FuncData} (F : Fun K "law" "law" sLaw f fd) (T : ClsF K C) (B : Blt mg) (B2 : Blt2 mg) (B3 : Blt3 mg)
    (LP : Has P w K mg base 3 "_law_pot" ["_law_script", "_law_k"] (spPot K) fP fdP) (BG : Has P w K mg base 8 "_law_begun" ["_law_pot_here"] (spLBg K C) f0 fd0) (WK : Has P w K mg base 7 "_law_walked" ["_law_pot_here", "_law_model_here", "_law_most_here"] (spLWk K) f1 fd1)
    (LF : HasM P w K mg base C 7 "let_fall" ["self", "more"] (spLetF K C) f2 fd2) (FO : Has P w K mg base 5 "fallen_of" ["book"] (spFaO K C) f3 fd3) (kbF : ∀ (s : Shared) (ws : List Value), ws.length = (["book"] : List Str).length → BindsTo s fd3 ⟨[], (["book"] : List Str).zip ws⟩ ((["book"] : List Str).zip ws))
    (LI : HasG P w K mg base 1 "_law_is" ["_law_told", "_law_due"] spLIs f4 fd4) (EB : Has P w K mg base 8 "ends_by" ["book", "vector"] (spEnB K C) f5 fd5) (CS : HasM P w K mg base C 5 "cash" ["self", "who"] (spCalc K C cashM) f6 fd6)
    (RT : HasG P w K mg base 11 "_law_right" ["_law_pot_here", "_law_model_here", "_law_made"] (spLRt61 K C) f7 fd7) : FnG P w K mg base CX0 12 f fd ["_law_script"] (spLaw K) := by
  refine okG0 F scLaw (fun vs H Q E h => ?_) (fun cdv Ar outer s H vs Q E hr hgd h => ?_)
  · obtain ⟨a, d, rfl, _⟩ := h
    rfl
  · obtain ⟨a, ns, rfl, hS, hlen, q⟩ := h
    have hu := hu_of hr
    have hr1 := hr.mono (show 1 ≤ 11 by decide)
    have hr3 := hr.mono (show 3 ≤ 11 by decide)
    have hr5 := hr.mono (show 5 ≤ 11 by decide)
    have hr7 := hr.mono (show 7 ≤ 11 by decide)
    have hr8 := hr.mono (show 8 ≤ 11 by decide)
    refine ⟨_, (pss_cons (ps_for PassesOwn.never rfl (pi_range1 (by rfl) B2.range (pa_cons (pe_callB (call_max2 rfl) (by rfl) B2.max (by decide +kernel) (pa_cons pe_int (pa_cons (pe_callB (call_min2 rfl) (by rfl) B2.min (by decide +kernel) (pa_cons (pe_callB call_len_seq (by rfl) B.len PySem.boot_len (pa_cons (pv 0) pa_nil)) (pa_cons pe_int pa_nil))) pa_nil))) pa_nil)) (pg_name (i := 1) scLaw.nd rfl (.inl rfl)) (pss_cons (ps_set (i := 2) scLaw.nd rfl (.inl rfl) (pe_call LP.ok hr3 (by rfl) LP.g LP.kp LP.b .nil pass0 (pa_cons (pv 0) (pa_cons (pv 1) pa_nil)))) (pss_cons (ps_asg (pe_call BG.ok hr8 (by rfl) BG.g BG.kp BG.b .nil pass0 (pa_cons (pv 2) pa_nil)) (pg_tup rfl (pgs_cons (pg_name (i := 3) scLaw.nd rfl (.inl rfl)) (pgs_cons (pg_name (i := 4) scLaw.nd rfl (.inr rfl)) pgs_nil)))) (pss_cons (ps_expr (pe_call WK.ok hr7 (by rfl) WK.g WK.kp WK.b .nil pass0 (pa_cons (pv 2) (pa_cons (pv 3) (pa_cons pe_int pa_nil))))) (pss_cons (ps_set (i := 4) scLaw.nd rfl (.inr rfl) (pe_meth (pv 4) T.cl LF.m LF.ok hr7 LF.b .nil pass0 (pa_cons (pe_callTy call_dictD (by rfl) B3.dict (by decide +kernel) (pa_cons (pe_dget hu (pv 3) pe_str (fun _ _ => rfl)) pa_nil)) pa_nil))) (pss_cons (ps_set (i := 5) scLaw.nd rfl (.inr rfl) (pe_call FO.ok hr5 (by rfl) FO.g FO.kp FO.b .nil pass0 (pa_cons (pv 4) pa_nil))) (pss_cons (ps_if (PW.pt (pw_or (pt_not (pt_val (pe_callG LI.ok hr1 hgd (by rfl) LI.g LI.kp LI.b .nil pass0 (pa_cons (pv 5) (pa_cons (pe_dget hu (pv 3) pe_str (fun _ _ => rfl)) pa_nil))))) (pw_or1 (pt_not (pt_val (pe_callG LI.ok hr1 hgd (by rfl) LI.g LI.kp LI.b .nil pass0 (pa_cons (pe_callKw (ks := ["book"]) FO.ok hr5 (by rfl) FO.g FO.kp kbF pass0 (pk_cons (pv 4) pk_nil)) (pa_cons (pe_dget hu (pv 3) pe_str (fun _ _ => rfl)) pa_nil)))))))) (pss_one (ps_ret pe_bl)) pss_nil) (C8.pss_cut (ps_if (pt_cmpR (op_neD hr.units) (pe_lc (own := [("_law_name_here", 6)]) (g := gName 6) (tt := tYes) rfl scLaw.nd (pi_list (pe_dget hu (pv 3) pe_str (fun _ _ => rfl))) (blkOk_by (N := nLaw) (sc := defScope sLaw) (own := [("_law_name_here", 6)]) (by decide +kernel)) (fun _ _ _ _ _ => pg_name (i := 6) scLaw.nd rfl (.inl rfl) (hf := .inr rfl)) (fun _ _ _ _ _ => pts_nil) (fun _ _ _ _ _ => (pe_dget hu (pe_call EB.ok hr8 (by rfl) EB.g EB.kp EB.b .nil pass0 (pa_cons (pv 4) (pa_cons (pv 5) pa_nil))) (pv 6) (fun _ _ => rfl)))) (pe_lc (own := [("_law_name_here", 6)]) (g := gName 6) (tt := tYes) rfl scLaw.nd (pi_list (pe_dget hu (pv 3) pe_str (fun _ _ => rfl))) (blkOk_by (N := nLaw) (sc := defScope sLaw) (own := [("_law_name_here", 6)]) (by decide +kernel)) (fun _ _ _ _ _ => pg_name (i := 6) scLaw.nd rfl (.inl rfl) (hf := .inr rfl)) (fun _ _ _ _ _ => pts_nil) (fun _ _ _ _ _ => (pe_meth (pv 4) T.cl CS.m CS.ok hr5 CS.b .nil pass0 (pa_cons (pv 6) pa_nil)))) (nomark _)) (pss_one (ps_ret pe_bl)) pss_nil) (pss_cons (ps_expr (pe_dclear (pv 5))) (pss_one (ps_if (PW.pt (pw_or (pt_not (pt_val (pe_callG LI.ok hr1 hgd (by rfl) LI.g LI.kp LI.b .nil pass0 (pa_cons (pe_call FO.ok hr5 (by rfl) FO.g FO.kp FO.b .nil pass0 (pa_cons (pv 4) pa_nil)) (pa_cons (pe_dget hu (pv 3) pe_str (fun _ _ => rfl)) pa_nil))))) (pw_or1 (pt_not (pt_val (pe_callG RT.ok hr hgd (by rfl) RT.g RT.kp RT.b .nil pass0 (pa_cons (pv 2) (pa_cons (pv 3) (pa_cons (pv 4) pa_nil))))))))) (pss_one (ps_ret pe_bl)) pss_nil))))))))))) (pss_one (ps_ret pe_bl))), ?_⟩
    refine ⟨.ref a, rfl, a, _, rfl, .inl hS, _, _, rfl, _, _, rfl, ?_⟩
    have nb : ∃ n : Nat, n ≤ 63 ∧ (if (if (4 : Int) < ((ns.map V.int).length : Int) then (4 : Int) else ((ns.map V.int).length : Int)) > 1 then (if (4 : Int) < ((ns.map V.int).length : Int) then (4 : Int) else ((ns.map V.int).length : Int)) else 1) = (n : Int) := by
      rw [List.length_map]
      refine ⟨(if (if (4 : Int) < (ns.length : Int) then (4 : Int) else (ns.length : Int)) > 1 then (if (4 : Int) < (ns.length : Int) then (4 : Int) else (ns.length : Int)) else 1).toNat, ?_, ?_⟩ <;> (split <;> split <;> omega)
    obtain ⟨n, hn, en⟩ := nb
    refine ⟨_, congrArg (fun z => [V.int z]) en, by omega, by omega, ?_⟩
    refine for_it walk_range (fun i σ H' => ∃ y1 y2 y3 y4 y5, σ = [some (.ref a), y1, y2, y3, y4, y5, none] ∧ Same H H') ⟨_, _, _, _, _, rfl, Same.refl _⟩ (fun _ _ _ _ _ => trivial) (fun i x σ H0' H0 hi hP hY => ?_) (fun σ H1 hP => ?_)
    · obtain ⟨rfl, rfl⟩ := hY
      obtain ⟨y1, y2, y3, y4, y5, rfl, s1⟩ := hP
      have hi' : i < n := by simpa using hi
      refine ⟨.ref a, rfl, .int (0 + i), rfl, a, ns, _, rfl, s1.seq hS, by omega, by omega, fun p o np hp => ?_⟩
      have fin : ∀ H2, But p (upd H0 p o) H2 → Same H H2 := fun H2 b c u e => by
        have e1 := s1 c u e
        exact b _ _ (ne_of_none e1 np) (same_upd np _ _ e1)
      generalize upd H0 p o = H1 at hp fin
      -- begun
      refine ⟨.ref p, rfl, p, rfl, hp, fun zs am ds b TT H2 hp2 bt2 hTT hM2 hb2 nz ods lds naH => ?_⟩
      refine ⟨TT, _, rfl, .inl (.inl hTT), rfl, _, _, rfl, _, _, rfl, rfl, ?_⟩
      have nap : ¬ am.Has p := fun h => by
        obtain ⟨px, py, pe, _⟩ := hp
        have := naH p h
        rw [pe] at this
        cases this
      have gd := md_at_good (zs := zs) (ds := ds) ods lds
      have hl := md_lens zs ds
      have g := gd.gs nz hl.1 hl.2
      have gb := gd.gb
      have zf := gd.zf
      generalize mdAt zs ds = D at hM2 hb2 gd g gb zf
      have oldH : ∀ {c : Addr} {u : HO}, H c = some u → c ≠ p ∧ c ≠ am.df := fun {c u} e => by
        have e0 := s1 c u e
        refine ⟨ne_of_none e0 np, fun z => ?_⟩
        have e1 := fin H1 (But.refl _ _) c u e
        have := naH am.df (.inr (.inr (.inr (.inl rfl))))
        rw [← z, e1] at this
        cases this
      -- walked
      refine ⟨.ref p, rfl, .ref am.m, rfl, p, am, D, zs, 6, rfl, by decide, by decide, hp2, hM2, nap, g, gb, fun D2 H7 hM7 g7 gb7 eg enn hp7 b7 => ?_⟩
      have s17 : Same H H7 := fun c u e => b7 c u (oldH e).1 (oldH e).2 (fin H2 bt2 c u e)
      have kp7 : Kp H2 H7 := fun c u e fx => b7 c u (fun z => by
        obtain ⟨px, py, pe, _⟩ := hp2
        rw [z, pe] at e
        cases e
        exact fx) (fun z => by
        rw [z, hM2.hf] at e
        cases e
        exact fx) e
      have hb7 := hb2.keep kp7
      obtain ⟨dx, tn, on, wg, ws, wd, ee, _⟩ := hb7.ex
      refine ⟨.ref b, rfl, b, dx, _, rfl, ee, bf_no (NoF.mk' (by decide +kernel)), ?_⟩
      refine ⟨.ref am.m, rfl, am.m, .ref am.df, rfl, hM7.g2, am.df, _, rfl, .inl hM7.hf, fun e ne => ?_⟩
      have s8 := same_upd (o := .dK (dct zs (D2.fallen.map V.int))) ne
      have he8 : upd H7 e (.dK (dct zs (D2.fallen.map V.int))) e = some (.dK (dct zs (D2.fallen.map V.int))) := upd_same
      generalize upd H7 e (.dK (dct zs (D2.fallen.map V.int))) = H8 at s8 he8
      have hb8 := book_same hb7 s8
      obtain ⟨fe, fo⟩ := fall_all g zf g7 gb7 eg enn
      refine ⟨b, e, bkOf zs D, zs.zip D2.fallen, rfl, hb8, g.ok, by rw [moreK_zip]; exact he8, fo, fun c H9 s9 nc hc9 => ?_⟩
      rw [fe] at hc9
      have s79 := s8.trans s9
      have hM9 := model_same hM7 s79
      have hp9 := hp7.same s79
      have v7 := fall_vec g7 gb7
      have n12 := g7.nz.n1
      have lF : D2.fallen.length = zs.length := g7.lf
      have fbig := fallen_big g7 gb7
      -- told
      refine ⟨.ref c, rfl, c, bkOf zs D2, rfl, hc9, g7.ok, fun t Ha sa nt ht => ?_⟩
      have tdf : t ≠ am.df := (ne_of_none hM9.hf nt).symm
      have hMa := model_same hM9 sa
      refine ⟨.ref t, rfl, .ref am.m, rfl, am.m, .ref am.df, rfl, hMa.g2, t, am.df, zs, D2.fallen, rfl, tdf, ht, hMa.hf, g7.nz.nd, lF, n12, fbig, fun Hb sb => ⟨_, rfl, iteF ?_⟩⟩
      have hMb := model_same hMa sb
      have s9b := sa.trans sb
      refine ⟨.ref c, rfl, rfl, c, bkOf zs D2, rfl, book_same hc9 s9b, g7.ok, fun t2 Hc sc nt2 ht2 => ?_⟩
      have hMc := model_same hMb sc
      refine ⟨.ref am.m, rfl, am.m, .ref am.df, rfl, hMc.g2, t2, am.df, zs, D2.fallen, rfl, (ne_of_none hMb.hf nt2).symm, ht2, hMc.hf, g7.nz.nd, lF, n12, fbig, fun Hd sd => ⟨_, rfl, iteF ?_⟩⟩
      have s9d := s9b.trans (sc.trans sd)
      have hMd := model_same hMc sd
      have hcd := book_same hc9 s9d
      have htd := (sb.trans (sc.trans sd)) _ _ ht
      have tp : t ≠ p := hp9.ne nt
      -- the ends by it
      let CL : List Int := (List.range zs.length).map fun j => cashM (bkOf zs D2) j (zs.getD j Str.empty)
      have lCL : CL.length = zs.length := by
        show ((List.range zs.length).map _).length = _
        rw [List.length_map, List.length_range]
      have eCL : ∀ (j : Nat) (z : Str), zs[j]? = some z → CL[j]? = some (cashM (bkOf zs D2) j z) := fun j z ej => by
        have hj : j < zs.length := (List.getElem?_eq_some_iff.mp ej).1
        show ((List.range zs.length).map _)[j]? = _
        rw [List.getElem?_map, List.getElem?_range hj]
        show some (cashM (bkOf zs D2) j (zs.getD j Str.empty)) = _
        rw [getD_of ej]
      have cbig : ∀ x ∈ CL, BigOk x := fun x hx => by
        obtain ⟨j, hj, rfl⟩ := List.getElem_of_mem hx
        have hj' : j < zs.length := by omega
        have ez := List.getElem?_eq_getElem hj'
        have h1 : j < D2.given.length := by rw [g7.lg]; exact hj'
        have h2 : j < D2.notes.length := by rw [g7.ln]; exact hj'
        have h3 : j < D2.fallen.length := by omega
        have := eCL j _ ez
        rw [List.getElem?_eq_getElem hj] at this
        rw [Option.some.inj this]
        exact (gb7.bigs g7 ez (List.getElem?_eq_getElem h1) (List.getElem?_eq_getElem h3) (List.getElem?_eq_getElem h2)).2.2
      have lE : (endsM (bkOf zs D2) D2.fallen).length = zs.length := endsL_len _ _ _ _
      have eE : ∀ (j : Nat) (z : Str), zs[j]? = some z → (endsM (bkOf zs D2) D2.fallen)[j]? = some (cashM (bkOf zs D2) j z) := fun j z ej => endsM_at (M := bkOf zs D2) (G := D2.fallen) g7.ok lF ej
      generalize CL = CL at lCL eCL cbig
      have lz : (zs.map V.str).length = zs.length := List.length_map ..
      refine ⟨fun σ H' => σ = [some (.ref a), some (.int (0 + i)), some (.ref p), some (.ref am.m), some (.ref c), some (.ref t), none] ∧ Same Hd H', ?_, fun σ He hR => ?_⟩
      · refine ⟨.ref am.m, rfl, am.m, .ref am.lo, rfl, hMd.g0, am.lo, rfl, ⟨_, .inl (.inl hMd.ho)⟩, fun L1 nL1 => ?_⟩
        refine lc_it (walk_list (K := K) (a := am.lo) (xs := zs.map V.str)) (fun j H' => Same Hd H' ∧ H' L1 = some (.lst ((CL.take j).map V.int))) ⟨same_upd nL1, upd_same⟩ (fun j H' _ hP => .inl (.inl (hP.1 _ _ hMd.ho))) (fun j x Hx' Hx hj hP hY => ?_) (fun He hP => ?_)
        · obtain ⟨rfl, hx⟩ := hY
          obtain ⟨sx, hL⟩ := hP
          rw [lz] at hj
          have ej := List.getElem?_eq_getElem hj
          have exx : x = .str zs[j] := by
            rw [List.getElem?_map, ej] at hx
            exact (Option.some.inj hx).symm
          subst exx
          refine ⟨rfl, .ref c, rfl, .ref t, rfl, c, t, bkOf zs D2, D2.fallen, rfl, book_same hcd sx, g7.ok, g7.closed, sx _ _ htd, v7, fun en Hy sy nen hen => ?_⟩
          refine ⟨.str zs[j], rfl, en, .int (cashM (bkOf zs D2) j zs[j]), rfl, dget_rd (.inl hen) g7.nz.nd ej (by rw [List.getElem?_map, eE j _ ej]; rfl), ?_⟩
          refine ⟨_, sy _ _ hL, ?_, fun c' o' ec => ?_, ?_⟩
          · rw [List.length_map, List.length_take]
            exact small1000 (by omega)
          · rw [upd_ne (ne_of_none ec nL1)]
            exact sy _ _ (sx _ _ ec)
          · rw [upd_same, List.take_add_one, eCL j _ ej, List.map_append]
            rfl
        obtain ⟨se, hL⟩ := hP
        rw [lz, ← lCL, List.take_length] at hL
        have hMe := model_same hMd se
        refine ⟨.ref am.m, rfl, am.m, .ref am.lo, rfl, hMe.g0, am.lo, rfl, ⟨_, .inl (.inl hMe.ho)⟩, fun L2 nL2 => ?_⟩
        refine lc_it (walk_list (K := K) (a := am.lo) (xs := zs.map V.str)) (fun j H' => Same He H' ∧ H' L2 = some (.lst ((CL.take j).map V.int))) ⟨same_upd nL2, upd_same⟩ (fun j H' _ hP => .inl (.inl (hP.1 _ _ hMe.ho))) (fun j x Hx' Hx hj hP hY => ?_) (fun Hf hP => ?_)
        · obtain ⟨rfl, hx⟩ := hY
          obtain ⟨sx, hL2⟩ := hP
          rw [lz] at hj
          have ej := List.getElem?_eq_getElem hj
          have exx : x = .str zs[j] := by
            rw [List.getElem?_map, ej] at hx
            exact (Option.some.inj hx).symm
          subst exx
          have hcx := book_same hcd (se.trans sx)
          obtain ⟨dx2, tn2, on2, wg2, ws2, wd2, ee2, _⟩ := hcx.ex
          refine ⟨rfl, .ref c, rfl, c, dx2, _, rfl, ee2, bf_no (NoF.mk' (by decide +kernel)), .str zs[j], rfl, c, bkOf zs D2, zs[j], j, rfl, hcx, g7.ok, ej, fun Hy sy => ?_⟩
          refine ⟨_, sy _ _ hL2, ?_, fun c' o' ec => ?_, ?_⟩
          · rw [List.length_map, List.length_take]
            exact small1000 (by omega)
          · rw [upd_ne (ne_of_none ec nL2)]
            exact sy _ _ (sx _ _ ec)
          · rw [upd_same, List.take_add_one, eCL j _ ej, List.map_append]
            rfl
        obtain ⟨sf, hL2⟩ := hP
        rw [lz, ← lCL, List.take_length] at hL2
        obtain ⟨k, nk, _⟩ := nice_intsE cbig
        have sh := nice_shaped nk.list
        refine ⟨.list (CL.map PyData.int), .list (CL.map PyData.int), .lst (.inl (.inl (sf _ _ hL))) (dp_intsA CL), .lst (.inl (.inl hL2)) (dp_intsA CL), sh, sh, _, rfl, ?_⟩
        rw [SeqAt.eqv_refl _ (SeqAt.canLay_of_shaped sh)]
        exact iteF ⟨rfl, se.trans sf⟩
      obtain ⟨rfl, se⟩ := hR
      have hte := se _ _ htd
      refine ⟨.ref t, rfl, .inr (.inr (.inl ⟨rfl, .inl ⟨_, hte⟩⟩)), t, _, rfl, rfl, hte, ?_⟩
      have hMe := model_same hMd se
      have hce := book_same hcd se
      have s7e := s79.trans (s9d.trans se)
      have hpe := hp7.same s7e
      have tH7 : H7 t = none := s79.free nt
      have nat : ¬ am.Has t := fun h => by
        have : ∃ o', H7 t = some o' := by
          rcases h with rfl | rfl | rfl | rfl | rfl | h
          · exact ⟨_, hM7.hm⟩
          · exact ⟨_, hM7.ho⟩
          · exact ⟨_, hM7.hg⟩
          · exact ⟨_, hM7.hf⟩
          · exact ⟨_, hM7.hn⟩
          · exact hM7.row_some h |>.elim fun xs e => ⟨_, e⟩
        obtain ⟨o', e⟩ := this
        rw [tH7] at e
        cases e
      have kt : Kp He (upd He t (.dK [])) := fun c' o' e fx => by
        by_cases h : c' = t
        · rw [h, hte] at e
          cases e
          exact fx.elim
        · rw [upd_ne h]
          exact e
      have hcg := hce.keep kt
      have hMg : ModelAt K (upd He t (.dK [])) zs am D2 := hMe.keep (fun b' o' hb' e => by
        rw [upd_ne (fun z => nat (by rw [← z]; exact hb'))]
        exact e) kt.kt
      have hpg : Pot (upd He t (.dK [])) p := by
        obtain ⟨u, v, e, hh⟩ := hpe
        exact ⟨u, v, by rw [upd_ne tp.symm]; exact e, hh⟩
      have s1g : Same H (upd He t (.dK [])) := fun c' o' e => by
        have e7 := s17 _ _ e
        rw [upd_ne (ne_of_none e7 tH7)]
        exact s7e _ _ e7
      generalize upd He t (.dK []) = Hg at hcg hMg hpg s1g
      refine ⟨.ref c, rfl, c, bkOf zs D2, rfl, hcg, g7.ok, fun t3 Hh sh nt3 ht3 => ?_⟩
      have hMh := model_same hMg sh
      refine ⟨.ref am.m, rfl, am.m, .ref am.df, rfl, hMh.g2, t3, am.df, zs, D2.fallen, rfl, (ne_of_none hMg.hf nt3).symm, ht3, hMh.hf, g7.nz.nd, lF, n12, fbig, fun Hi si => ⟨_, rfl, iteF ?_⟩⟩
      have sgi := sh.trans si
      refine ⟨.ref p, rfl, .ref am.m, rfl, .ref c, rfl, p, am, D2, zs, c, rfl, hpg.same sgi, model_same hMg sgi, nap, g7, gb7, book_same hcg sgi, fun Hj hpj bj => ⟨_, rfl, iteF ⟨_, _, _, _, _, rfl, fun c' o' e => bj _ _ (oldH e).1 (sgi _ _ (s1g _ _ e))⟩⟩⟩
    · exact q _
end
end Rc

namespace Rc
open PySem PySem.Spec PyProof.Rows L2
theorem all1 {p : Str → Prop} {a : Str} (h : p a) : ∀ f ∈ [a], p f := fun f hf => by rw [List.mem_singleton.mp hf]; exact h
theorem all2 {p : Str → Prop} {a b : Str} (h : p a) (h' : p b) : ∀ f ∈ [a, b], p f := fun f hf => by
  rcases List.mem_cons.mp hf with e | e
  · rw [e]; exact h
  · rw [List.mem_singleton.mp e]; exact h'
/-- the top's facts of an own exception class -/
theorem mkCx {P : Program} {K : PySem.W.Frag} {h : Heap} {mg : Str → Option Value} {nm : Str} {st : Stmt} {fs : List Str} {B newId initId : String} {bmB : List Value} {C : Addr} (X : K.In h) (G : h.Ns mainGlobals mg)
    {fI : Addr} {oc : Value} {od : Option Addr} {qual : Str} {doc pm : Value} {an : Option Addr} {cda : Addr} {ct : Value} {cc : Addr} {osl : Array (Option Value)} {cl : Value} {cld : Option Addr} {csl : Array (Option Value)} {ccl : Value} {cdd : Option Addr} {vs : Array Value} {ccs : Array (Option Value)} {file : Str} {tf : Tok}
    (a : PySem.W.nsIn K mainGlobals nm = some (some (.ref C))) (a1 : PySem.W.excInitIn K C bmB newId = true) (a2 : PySem.W.excOver K C bmB = true) (a3 : PySem.W.hasDictIn K C = true)
    (a4 : PySem.W.findIn K (.ref C) "__setattr__" = some (some (.builtin "object.__setattr__"))) (a5 : PySem.W.findIn K (.ref C) "__getattribute__" = some (some (.builtin "BaseException.__getattribute__"))) (a6 : PySem.W.findIn K (.ref C) "__getattr__" = some none)
    (a7 : ∀ f ∈ fs, PySem.W.findIn K (.ref C) f = some none) (a8 : PySem.W.keepIn K (.ref C) = true) (a9 : PySem.W.subIn K (.ref C) (.type "BaseException") = some true) (b1 : PySem.W.typeIn K (.ref C) = some (.type "type")) (b2 : PySem.W.subIn K (.ref C) (.type B) = some true)
    (b3 : PySem.W.mroIn K C (.ref C) = some true) (b4 : PySem.W.nsIn K cStatics "thirdparty.any" = some none) (b5 : PySem.W.ks_superIn K C C "__init__" = some (some (.builtin initId))) (b6 : PySem.W.nsIn K mainGlobals "super" = some none) (b7 : (P.main.scope.names.lookup ("super" : Str)).isSome = false)
    (i1 : PySem.W.findIn K (.ref C) "__init__" = some (some (.ref fI))) (i2 : PySem.W.typeIn K (.ref fI) = some (.type "function"))
    (i3 : K.lookup fI = some ⟨oc, od, .func (PySem.W.ksFn "__init__" qual (defArgs st) (defBody st) (defScope st) .none .none doc pm an (.ref cda) ct cc), osl⟩) (i4 : PySem.W.codeIn K (.ref cda) qual = true)
    (i5 : K.lookup cc = some ⟨cl, cld, .cell (some (.ref C)), csl⟩) (i6 : K.lookup cda = some ⟨ccl, cdd, .fields vs, ccs⟩) (i7 : vs[2]? = some (.str file tf)) (i8 : ((P.main.file : Str) == file) = true) : EX.Cx' P K mg nm st fs B newId initId bmB C :=
  ⟨PySem.W.mg_of X G a, a1, a2, a3, a4, a5, a6, a7, a8, a9, b1, b2, b3, b4, b5, PySem.W.mg_none_of X G b6, b7, fI, oc, od, qual, doc, pm, an, cda, ct, cc, osl, i1, i2, i3, i4, ⟨_, _, _, i5⟩, _, _, _, _, _, _, i6, i7, i8⟩
theorem mkClsB {K : PySem.W.Frag} {h : Heap} {mg : Str → Option Value} {CB CN : Addr} (X : K.In h) (G : h.Ns mainGlobals mg) (a : PySem.W.nsIn K mainGlobals "BookError" = some (some (.ref CB))) (a1 : PySem.W.subIn K (.ref CB) (.type "BaseException") = some true) (a2 : PySem.W.hasDictIn K CB = true)
    (a3 : PySem.W.typeIn K (.ref CB) = some (.type "type")) (a4 : PySem.W.subIn K (.ref CN) (.ref CB) = some false) (a5 : PySem.W.subIn K (.ref CN) (.ref CN) = some true) (a6 : PySem.W.kitOne K (.ref CN) (.ref CB) = some false) (a7 : PySem.W.kitOne K (.ref CN) (.type "LookupError") = some true)
    (a8 : PySem.W.nsIn K mainGlobals "LookupError" = some none) (a9 : PySem.W.findIn K (.ref CN) "__class__" = some (some (.builtin "object.__class__"))) (b1 : PySem.W.specialIn K (.builtin "object.__class__") "__get__" = some (some (.builtin "getset_descriptor.__get__")))
    (b2 : PySem.W.takesIn K (.builtin "object.__class__") = some true) (b3 : PySem.W.mroIn K CN (.type "object") = some true) : ClsB K mg CB CN :=
  ⟨PySem.W.mg_of X G a, a1, a2, a3, a4, a5, a6, a7, PySem.W.mg_none_of X G a8, a9, b1, b2, b3⟩
end Rc

namespace Rc
open PySem PySem.Spec PyProof.Rows L2
/-- a def of the text, by its name -/
def DefOf {K : PySem.W.Frag} {h : Heap} (_ : K.In h) (mg : Str → Option Value) (nm : Str) (st : Stmt) : Prop := ∃ f fd, Fun K nm nm st f fd ∧ mg nm = some (.ref f)
theorem mkDef {K : PySem.W.Frag} {h : Heap} {mg : Str → Option Value} (X : K.In h) (G : h.Ns mainGlobals mg) {nm : Str} {st : Stmt} {f : Addr} {oc : Value} {od an : Option Addr} {osl : Array (Option Value)} {kV doc pm cdv ct : Value}
    (a : PySem.W.nsIn K mainGlobals nm = some (some (.ref f)))
    (l : K.lookup f = some ⟨oc, od, .func (PySem.W.fnOf nm nm (defArgs st) (defBody st) (defScope st) .none kV doc pm an cdv ct), osl⟩)
    (c : PySem.W.codeIn K cdv nm = true) (k : PySem.W.keepIn K (.ref f) = true) : DefOf X mg nm st := ⟨f, _, fun_mk l c k, PySem.W.mg_of X G a⟩
/-- a method of the class C -/
def MethOf (K : PySem.W.Frag) (C : Addr) (nm qual : Str) (st : Stmt) : Prop := ∃ f fd, Fun K nm qual st f fd ∧ Meth K C nm f
theorem mkMeth {K : PySem.W.Frag} {C : Addr} {nm qual : Str} {st : Stmt} {f : Addr} {oc : Value} {od an : Option Addr} {osl : Array (Option Value)} {kV doc pm cdv ct : Value}
    (a : PySem.W.findIn K (.ref C) nm = some (some (.ref f))) (i : PySem.W.isFn K (.ref f) = true)
    (l : K.lookup f = some ⟨oc, od, .func (PySem.W.fnOf nm qual (defArgs st) (defBody st) (defScope st) .none kV doc pm an cdv ct), osl⟩)
    (c : PySem.W.codeIn K cdv qual = true) (k : PySem.W.keepIn K (.ref f) = true) : MethOf K C nm qual st := ⟨f, _, fun_mk l c k, a, i, k⟩
structure TopB (K : PySem.W.Frag) (mg : Str → Option Value) (C : Addr) : Prop where
  T : ClsF K C
  g : mg "Book" = some (.ref C)
  makes : PySem.W.makesIn K C = true
  kp : PySem.W.keepIn K (.ref C) = true
theorem mkTop {K : PySem.W.Frag} {h : Heap} {mg : Str → Option Value} {C : Addr} (X : K.In h) (G : h.Ns mainGlobals mg) (a : PySem.W.nsIn K mainGlobals "Book" = some (some (.ref C)))
    (pg : PySem.W.plainGet K C Str.empty = true) (hd : PySem.W.hasDictIn K C = true) (po : PySem.W.plainOver K C = true) (sa : PySem.W.findIn K (.ref C) "__setattr__" = some (some (.builtin "object.__setattr__"))) (mk : PySem.W.makesIn K C = true) (kc : PySem.W.keepIn K (.ref C) = true)
    (n1 : PySem.W.findIn K (.ref C) "names" = some none) (n2 : PySem.W.findIn K (.ref C) "gifts" = some none) (n3 : PySem.W.findIn K (.ref C) "stacks" = some none) (n4 : PySem.W.findIn K (.ref C) "drops" = some none) : TopB K mg C :=
  ⟨⟨⟨pg, hd, po, sa⟩, n1, n2, n3, n4⟩, PySem.W.mg_of X G a, mk, kc⟩
def ConOf (mg : Str → Option Value) (nm : Str) (v : V) : Prop := ∃ u, mg nm = some u ∧ RelV v u
theorem con_of {K : PySem.W.Frag} {h : Heap} {mg : Str → Option Value} (X : K.In h) (G : h.Ns mainGlobals mg) {nm : Str} {v : V} {u : Value} (a : PySem.W.nsIn K mainGlobals nm = some (some u)) (r : RelV v u) : ConOf mg nm v := ⟨u, PySem.W.mg_of X G a, r⟩
section
variable {K : PySem.W.Frag} {nm q x y z u4 : Str} {st : Stmt} {f : Addr} {fd : FuncData}
theorem bind1 (F : Fun K nm q st f fd)
    (h : ∀ (kV doc pm : Value) (an : Option Addr) (cdv ct v : Value), bindArgs (PySem.W.fnOf nm q (defArgs st) (defBody st) (defScope st) .none kV doc pm an cdv ct) ⟨[v], []⟩ = pure [(x, v)]) : Binds K fd [x] [] :=
  F.binds (ps := [x]) fun kV doc pm an cdv ct us hl => match us, hl with | [v], _ => h kV doc pm an cdv ct v
theorem bind2 (F : Fun K nm q st f fd)
    (h : ∀ (kV doc pm : Value) (an : Option Addr) (cdv ct u v : Value), bindArgs (PySem.W.fnOf nm q (defArgs st) (defBody st) (defScope st) .none kV doc pm an cdv ct) ⟨[u, v], []⟩ = pure [(x, u), (y, v)]) : Binds K fd [x, y] [] :=
  F.binds (ps := [x, y]) fun kV doc pm an cdv ct us hl => match us, hl with | [u, v], _ => h kV doc pm an cdv ct u v
theorem bind3 (F : Fun K nm q st f fd)
    (h : ∀ (kV doc pm : Value) (an : Option Addr) (cdv ct u v w : Value), bindArgs (PySem.W.fnOf nm q (defArgs st) (defBody st) (defScope st) .none kV doc pm an cdv ct) ⟨[u, v, w], []⟩ = pure [(x, u), (y, v), (z, w)]) : Binds K fd [x, y, z] [] :=
  F.binds (ps := [x, y, z]) fun kV doc pm an cdv ct us hl => match us, hl with | [u, v, w], _ => h kV doc pm an cdv ct u v w
theorem bind4 (F : Fun K nm q st f fd)
    (h : ∀ (kV doc pm : Value) (an : Option Addr) (cdv ct u v w t : Value), bindArgs (PySem.W.fnOf nm q (defArgs st) (defBody st) (defScope st) .none kV doc pm an cdv ct) ⟨[u, v, w, t], []⟩ = pure [(x, u), (y, v), (z, w), (u4, t)]) : Binds K fd [x, y, z, u4] [] :=
  F.binds (ps := [x, y, z, u4]) fun kV doc pm an cdv ct us hl => match us, hl with | [u, v, w, t], _ => h kV doc pm an cdv ct u v w t
end
section
variable {P : Program} {w : World} {K : PySem.W.Frag} {mg : Str → Option Value} {base : Heap} {C f : Addr} {fd : FuncData} {k : Nat} {nm : Str} {ps : List Str} {sp : Sp} {st : Stmt}
end
end Rc

namespace Rc
open PySem PySem.Spec PyProof.Rows L2 RZ
theorem kit_cons {K : PySem.W.Frag} {t a : Value} {r : List Value} (h1 : PySem.W.kitOne K t a = some false) (h2 : PySem.W.kitAny K t r = some false) : PySem.W.kitAny K t (a :: r) = some false := by
  simp only [PySem.W.kitAny, h1, h2]
theorem mkEt61 {K : PySem.W.Frag} {h : Heap} {mg : Str → Option Value} {xV BV xB xO xNA xNP xX xNW xNK xS xR xF xT xH xD : Addr} (X : K.In h) (G : h.Ns mainGlobals mg)
    (aB : PySem.W.nsIn K mainGlobals "BookError" = some (some (.ref xB)))
    (aO : PySem.W.nsIn K mainGlobals "NoBook" = some (some (.ref xO)))
    (aNA : PySem.W.nsIn K mainGlobals "NoAmount" = some (some (.ref xNA)))
    (aNP : PySem.W.nsIn K mainGlobals "NoStep" = some (some (.ref xNP)))
    (aX : PySem.W.nsIn K mainGlobals "NoText" = some (some (.ref xX)))
    (aNW : PySem.W.nsIn K mainGlobals "NoRow" = some (some (.ref xNW)))
    (aNK : PySem.W.nsIn K mainGlobals "NoBack" = some (some (.ref xNK)))
    (aS : PySem.W.nsIn K mainGlobals "NoSuch" = some (some (.ref xS)))
    (aR : PySem.W.nsIn K mainGlobals "NoRing" = some (some (.ref xR)))
    (aF : PySem.W.nsIn K mainGlobals "Full" = some (some (.ref xF)))
    (aT : PySem.W.nsIn K mainGlobals "TooMuch" = some (some (.ref xT)))
    (aH : PySem.W.nsIn K mainGlobals "Short" = some (some (.ref xH)))
    (aD : PySem.W.nsIn K mainGlobals "Behind" = some (some (.ref xD)))
    (nL : PySem.W.nsIn K mainGlobals "LookupError" = some none)
    (nA : PySem.W.nsIn K mainGlobals "ArithmeticError" = some none)
    (nR : PySem.W.nsIn K mainGlobals "RuntimeError" = some none)
    (nV : PySem.W.nsIn K mainGlobals "ValueError" = some none)
    (pV : ClsP K mg "NoVector" xV BV)
    (kV : PySem.W.kitOne K (.ref xV) (.type "ValueError") = some true)
    (kR : PySem.W.kitOne K (.ref xV) (.type "RuntimeError") = some false)
    (kO : PySem.W.kitOne K (.ref xV) (.ref xO) = some false)
    (kNA : PySem.W.kitOne K (.ref xV) (.ref xNA) = some false)
    (kNP : PySem.W.kitOne K (.ref xV) (.ref xNP) = some false)
    (kX : PySem.W.kitOne K (.ref xV) (.ref xX) = some false)
    (kNW : PySem.W.kitOne K (.ref xV) (.ref xNW) = some false)
    (kNK : PySem.W.kitOne K (.ref xV) (.ref xNK) = some false)
    (kL : PySem.W.kitOne K (.ref xV) (.type "LookupError") = some false)
    (kA : PySem.W.kitOne K (.ref xV) (.type "ArithmeticError") = some false) : ∃ a : Ea61, Et61 K mg a ∧ ClsP K mg "NoVector" a.V a.B := by
  have eB := (PySem.W.mg_of X G aB).symm.trans pV.gB
  cases eB
  exact ⟨⟨BV, xO, xS, xX, xR, xF, xT, xH, xD, xNA, xNP, xNW, xNK, xV⟩, ⟨PySem.W.mg_of X G aB, PySem.W.mg_of X G aO, PySem.W.mg_of X G aNA, PySem.W.mg_of X G aNP, PySem.W.mg_of X G aX, PySem.W.mg_of X G aNW, PySem.W.mg_of X G aNK, PySem.W.mg_of X G aS, PySem.W.mg_of X G aR, PySem.W.mg_of X G aF, PySem.W.mg_of X G aT, PySem.W.mg_of X G aH, PySem.W.mg_of X G aD, PySem.W.mg_none_of X G nL, PySem.W.mg_none_of X G nA, PySem.W.mg_none_of X G nR, PySem.W.mg_none_of X G nV, pV.kit, kV, kR, kit_cons kO (kit_cons kNA (kit_cons kNP (kit_cons kX (kit_cons kNW (kit_cons kNK (kit_cons kL (kit_cons kA rfl)))))))⟩, pV⟩
end Rc

namespace Rc
open PySem PySem.Spec PyProof.Rows L2
set_option maxHeartbeats 0 in
theorem all_mk {l : PySem.W.OpenLaw} {w : World} {K : PySem.W.Frag} {h : Heap} {mg : Str → Option Value} {fa C : Addr} (X : K.In h)
    (hfa : mg "law" = some (.ref fa))
    (TC : TopB K mg C)
    (d_is_name : DefOf X mg "is_name" (topS 18))
    (d_is_whole : DefOf X mg "is_whole" (topS 19))
    (d_is_amount : DefOf X mg "is_amount" (topS 20))
    (d_check_persons : DefOf X mg "check_persons" (topS 24))
    (d_check_amount : DefOf X mg "check_amount" (topS 25))
    (d_split_notes : DefOf X mg "split_notes" (topS 26))
    (d_with_changed : DefOf X mg "with_changed" (topS 27))
    (d_is_vector : DefOf X mg "is_vector" (topS 30))
    (d_check_vector : DefOf X mg "check_vector" (topS 31))
    (d_fallen_of : DefOf X mg "fallen_of" (topS 32))
    (d_ends_by : DefOf X mg "ends_by" (topS 33))
    (d_is_covered : DefOf X mg "is_covered" (topS 34))
    (d_l_pot : DefOf X mg "_law_pot" (topS 36))
    (d_l_take : DefOf X mg "_law_take" (topS 37))
    (d_l_name : DefOf X mg "_law_name" (topS 38))
    (d_l_names : DefOf X mg "_law_names" (topS 39))
    (d_l_among : DefOf X mg "_law_among" (topS 40))
    (d_l_amount : DefOf X mg "_law_amount" (topS 41))
    (d_l_model : DefOf X mg "_law_model" (topS 42))
    (d_l_parted : DefOf X mg "_law_parted" (topS 43))
    (d_l_left : DefOf X mg "_law_left" (topS 44))
    (d_l_cash : DefOf X mg "_law_cash" (topS 45))
    (d_l_next : DefOf X mg "_law_next" (topS 46))
    (d_l_trail : DefOf X mg "_law_trail" (topS 47))
    (d_l_ring : DefOf X mg "_law_ring" (topS 48))
    (d_l_deeds : DefOf X mg "_law_deeds" (topS 49))
    (d_l_done : DefOf X mg "_law_done" (topS 50))
    (d_l_booked : DefOf X mg "_law_booked" (topS 51))
    (d_l_alike : DefOf X mg "_law_alike" (topS 52))
    (d_l_fall : DefOf X mg "_law_fall" (topS 53))
    (d_l_most : DefOf X mg "_law_most" (topS 54))
    (d_l_least : DefOf X mg "_law_least" (topS 55))
    (d_l_copied : DefOf X mg "_law_copied" (topS 56))
    (d_l_drawn : DefOf X mg "_law_drawn" (topS 57))
    (d_l_step : DefOf X mg "_law_step" (topS 58))
    (d_l_went : DefOf X mg "_law_went" (topS 59))
    (d_l_shares : DefOf X mg "_law_shares" (topS 60))
    (d_l_ends : DefOf X mg "_law_ends" (topS 61))
    (d_l_walked : DefOf X mg "_law_walked" (topS 62))
    (d_l_begun : DefOf X mg "_law_begun" (topS 63))
    (d_l_no_shares : DefOf X mg "_law_no_shares" (topS 64))
    (d_l_is : DefOf X mg "_law_is" (topS 65))
    (d_l_tried : DefOf X mg "_law_tried" (topS 66))
    (d_l_right : DefOf X mg "_law_right" (topS 67))
    (d_law : DefOf X mg "law" (topS 68))
    (m_init : MethOf K C "__init__" "Book.__init__" (inBook 0))
    (m_with_these : MethOf K C "with_these" "Book.with_these" (inBook 1))
    (m_has : MethOf K C "has" "Book.has" (inBook 4))
    (m_place_of : MethOf K C "place_of" "Book.place_of" (inBook 2))
    (m_persons : MethOf K C "persons" "Book.persons" (inBook 3))
    (m_given : MethOf K C "given" "Book.given" (inBook 5))
    (m_fallen : MethOf K C "fallen" "Book.fallen" (inBook 6))
    (m_notes : MethOf K C "notes" "Book.notes" (inBook 7))
    (m_pile : MethOf K C "pile" "Book.pile" (inBook 8))
    (m_fallen_to : MethOf K C "fallen_to" "Book.fallen_to" (inBook 10))
    (m_cash : MethOf K C "cash" "Book.cash" (inBook 11))
    (m_put : MethOf K C "put" "Book.put" (inBook 12))
    (m_give : MethOf K C "give" "Book.give" (inBook 13))
    (m_key : MethOf K C "key" "Book.key" (inBook 16))
    (m_whole_of : MethOf K C "whole_of" "Book.whole_of" (inBook 9))
    (m_may_fall : MethOf K C "may_fall" "Book.may_fall" (inBook 14))
    (m_let_fall : MethOf K C "let_fall" "Book.let_fall" (inBook 15))
    (c_LETTERS : ConOf mg "LETTERS" (.str "abcdefghijklmnopqrstuvwxyz"))
    (c_LONGEST : ConOf mg "LONGEST" (.int 8))
    (c_MOST : ConOf mg "MOST" (.int 60))
    (c_MOST_PERSONS : ConOf mg "MOST_PERSONS" (.int 12))
    (B : Blt mg)
    (B2 : Blt2 mg)
    (B3 : Blt3 mg)
    (xEt : ∃ a : Ea61, Et61 K mg a ∧ ClsP K mg "NoVector" a.V a.B) :
    ∃ fd : FuncData, (∀ (s : Shared) (v : Value), BindsTo s fd ⟨[v], []⟩ [("_law_script", v)]) ∧ ∀ base : Heap, K.In base → base.Ns mainGlobals mg → FnG l.prog w K mg base CX0 12 fa fd ["_law_script"] (spLaw K) := by
  obtain ⟨f_is_name, fd_is_name, F_is_name, g_is_name⟩ := d_is_name
  obtain ⟨f_is_whole, fd_is_whole, F_is_whole, g_is_whole⟩ := d_is_whole
  obtain ⟨f_is_amount, fd_is_amount, F_is_amount, g_is_amount⟩ := d_is_amount
  obtain ⟨f_check_persons, fd_check_persons, F_check_persons, g_check_persons⟩ := d_check_persons
  obtain ⟨f_check_amount, fd_check_amount, F_check_amount, g_check_amount⟩ := d_check_amount
  obtain ⟨f_split_notes, fd_split_notes, F_split_notes, g_split_notes⟩ := d_split_notes
  obtain ⟨f_with_changed, fd_with_changed, F_with_changed, g_with_changed⟩ := d_with_changed
  obtain ⟨f_is_vector, fd_is_vector, F_is_vector, g_is_vector⟩ := d_is_vector
  obtain ⟨f_check_vector, fd_check_vector, F_check_vector, g_check_vector⟩ := d_check_vector
  obtain ⟨f_fallen_of, fd_fallen_of, F_fallen_of, g_fallen_of⟩ := d_fallen_of
  obtain ⟨f_ends_by, fd_ends_by, F_ends_by, g_ends_by⟩ := d_ends_by
  obtain ⟨f_is_covered, fd_is_covered, F_is_covered, g_is_covered⟩ := d_is_covered
  obtain ⟨f_l_pot, fd_l_pot, F_l_pot, g_l_pot⟩ := d_l_pot
  obtain ⟨f_l_take, fd_l_take, F_l_take, g_l_take⟩ := d_l_take
  obtain ⟨f_l_name, fd_l_name, F_l_name, g_l_name⟩ := d_l_name
  obtain ⟨f_l_names, fd_l_names, F_l_names, g_l_names⟩ := d_l_names
  obtain ⟨f_l_among, fd_l_among, F_l_among, g_l_among⟩ := d_l_among
  obtain ⟨f_l_amount, fd_l_amount, F_l_amount, g_l_amount⟩ := d_l_amount
  obtain ⟨f_l_model, fd_l_model, F_l_model, g_l_model⟩ := d_l_model
  obtain ⟨f_l_parted, fd_l_parted, F_l_parted, g_l_parted⟩ := d_l_parted
  obtain ⟨f_l_left, fd_l_left, F_l_left, g_l_left⟩ := d_l_left
  obtain ⟨f_l_cash, fd_l_cash, F_l_cash, g_l_cash⟩ := d_l_cash
  obtain ⟨f_l_next, fd_l_next, F_l_next, g_l_next⟩ := d_l_next
  obtain ⟨f_l_trail, fd_l_trail, F_l_trail, g_l_trail⟩ := d_l_trail
  obtain ⟨f_l_ring, fd_l_ring, F_l_ring, g_l_ring⟩ := d_l_ring
  obtain ⟨f_l_deeds, fd_l_deeds, F_l_deeds, g_l_deeds⟩ := d_l_deeds
  obtain ⟨f_l_done, fd_l_done, F_l_done, g_l_done⟩ := d_l_done
  obtain ⟨f_l_booked, fd_l_booked, F_l_booked, g_l_booked⟩ := d_l_booked
  obtain ⟨f_l_alike, fd_l_alike, F_l_alike, g_l_alike⟩ := d_l_alike
  obtain ⟨f_l_fall, fd_l_fall, F_l_fall, g_l_fall⟩ := d_l_fall
  obtain ⟨f_l_most, fd_l_most, F_l_most, g_l_most⟩ := d_l_most
  obtain ⟨f_l_least, fd_l_least, F_l_least, g_l_least⟩ := d_l_least
  obtain ⟨f_l_copied, fd_l_copied, F_l_copied, g_l_copied⟩ := d_l_copied
  obtain ⟨f_l_drawn, fd_l_drawn, F_l_drawn, g_l_drawn⟩ := d_l_drawn
  obtain ⟨f_l_step, fd_l_step, F_l_step, g_l_step⟩ := d_l_step
  obtain ⟨f_l_went, fd_l_went, F_l_went, g_l_went⟩ := d_l_went
  obtain ⟨f_l_shares, fd_l_shares, F_l_shares, g_l_shares⟩ := d_l_shares
  obtain ⟨f_l_ends, fd_l_ends, F_l_ends, g_l_ends⟩ := d_l_ends
  obtain ⟨f_l_walked, fd_l_walked, F_l_walked, g_l_walked⟩ := d_l_walked
  obtain ⟨f_l_begun, fd_l_begun, F_l_begun, g_l_begun⟩ := d_l_begun
  obtain ⟨f_l_no_shares, fd_l_no_shares, F_l_no_shares, g_l_no_shares⟩ := d_l_no_shares
  obtain ⟨f_l_is, fd_l_is, F_l_is, g_l_is⟩ := d_l_is
  obtain ⟨f_l_tried, fd_l_tried, F_l_tried, g_l_tried⟩ := d_l_tried
  obtain ⟨f_l_right, fd_l_right, F_l_right, g_l_right⟩ := d_l_right
  obtain ⟨f_law, fd_law, F_law, g_law⟩ := d_law
  obtain ⟨f_init, fd_init, F_init, M_init⟩ := m_init
  obtain ⟨f_with_these, fd_with_these, F_with_these, M_with_these⟩ := m_with_these
  obtain ⟨f_has, fd_has, F_has, M_has⟩ := m_has
  obtain ⟨f_place_of, fd_place_of, F_place_of, M_place_of⟩ := m_place_of
  obtain ⟨f_persons, fd_persons, F_persons, M_persons⟩ := m_persons
  obtain ⟨f_given, fd_given, F_given, M_given⟩ := m_given
  obtain ⟨f_fallen, fd_fallen, F_fallen, M_fallen⟩ := m_fallen
  obtain ⟨f_notes, fd_notes, F_notes, M_notes⟩ := m_notes
  obtain ⟨f_pile, fd_pile, F_pile, M_pile⟩ := m_pile
  obtain ⟨f_fallen_to, fd_fallen_to, F_fallen_to, M_fallen_to⟩ := m_fallen_to
  obtain ⟨f_cash, fd_cash, F_cash, M_cash⟩ := m_cash
  obtain ⟨f_put, fd_put, F_put, M_put⟩ := m_put
  obtain ⟨f_give, fd_give, F_give, M_give⟩ := m_give
  obtain ⟨f_key, fd_key, F_key, M_key⟩ := m_key
  obtain ⟨f_whole_of, fd_whole_of, F_whole_of, M_whole_of⟩ := m_whole_of
  obtain ⟨f_may_fall, fd_may_fall, F_may_fall, M_may_fall⟩ := m_may_fall
  obtain ⟨f_let_fall, fd_let_fall, F_let_fall, M_let_fall⟩ := m_let_fall
  obtain ⟨u_LETTERS, g_LETTERS, t_LETTERS, rfl⟩ := c_LETTERS
  obtain ⟨u_LONGEST, g_LONGEST, t_LONGEST, rfl⟩ := c_LONGEST
  obtain ⟨u_MOST, g_MOST, t_MOST, rfl⟩ := c_MOST
  obtain ⟨u_MOST_PERSONS, g_MOST_PERSONS, t_MOST_PERSONS, rfl⟩ := c_MOST_PERSONS
  obtain ⟨EA, ET, PVV⟩ := xEt
  have e := hfa.symm.trans g_law
  cases e
  refine ⟨fd_law, fun s v => ?_, fun base _ _ => ?_⟩
  · obtain ⟨oc, od, kV, doc, pm, an, cdv, ct, osl, rfl, lk, hcd⟩ := F_law.ex
    exact .of_eq rfl
  · have T := TC.T
    have NM : Has l.prog w K mg base 1 "is_name" ["thing"] (spBool K nameD) f_is_name fd_is_name := ⟨ok_name F_is_name B ⟨t_LETTERS, g_LETTERS⟩ ⟨t_LONGEST, g_LONGEST⟩, g_is_name, F_is_name.kp, (bind1 F_is_name fun _ _ _ _ _ _ _ => rfl)⟩
    have WH : Has l.prog w K mg base 1 "is_whole" ["thing"] (spBool K wholeD) f_is_whole fd_is_whole := ⟨ok_whole F_is_whole B, g_is_whole, F_is_whole.kp, (bind1 F_is_whole fun _ _ _ _ _ _ _ => rfl)⟩
    have AMT : Has l.prog w K mg base 2 "is_amount" ["thing"] (spBool K amountD) f_is_amount fd_is_amount := ⟨ok_amount F_is_amount F_is_whole (bind1 F_is_whole fun _ _ _ _ _ _ _ => rfl) g_is_whole B, g_is_amount, F_is_amount.kp, (bind1 F_is_amount fun _ _ _ _ _ _ _ => rfl)⟩
    have CKP : Has l.prog w K mg base 2 "check_persons" ["persons"] (spCheckP K) f_check_persons fd_check_persons := ⟨ok_checkP F_check_persons B B3 ⟨t_MOST_PERSONS, g_MOST_PERSONS⟩ NM, g_check_persons, F_check_persons.kp, (bind1 F_check_persons fun _ _ _ _ _ _ _ => rfl)⟩
    have CKA : Has l.prog w K mg base 3 "check_amount" ["amount"] (spCheckA K) f_check_amount fd_check_amount := ⟨ok_checkA F_check_amount AMT, g_check_amount, F_check_amount.kp, (bind1 F_check_amount fun _ _ _ _ _ _ _ => rfl)⟩
    have CHG : Has l.prog w K mg base 1 "with_changed" ["row", "place", "thing"] (spChg K) f_with_changed fd_with_changed := ⟨ok_chg F_with_changed, g_with_changed, F_with_changed.kp, (bind3 F_with_changed fun _ _ _ _ _ _ _ _ _ => rfl)⟩
    have SPL : Has l.prog w K mg base 1 "split_notes" ["notes", "fallen"] (spSplit K) f_split_notes fd_split_notes := ⟨ok_split F_split_notes B2, g_split_notes, F_split_notes.kp, (bind2 F_split_notes fun _ _ _ _ _ _ _ _ => rfl)⟩
    have GI : FnOk l.prog w K mg base CX0 3 f_init fd_init ["self", "persons"] (spInit K C) := ok_init F_init T B B3 CKP
    have bI : Binds K fd_init ["self", "persons"] [] := (bind2 F_init fun _ _ _ _ _ _ _ _ => rfl)
    have MK : Mk K C f_init := ⟨TC.makes, M_init.at_, M_init.fn, TC.kp⟩
    have WT : HasM l.prog w K mg base C 5 "with_these" ["self", "gifts", "stacks", "drops"] (spWith K C) f_with_these fd_with_these := ⟨ok_with F_with_these T B3 MK TC.g GI bI, M_with_these, (bind4 F_with_these fun _ _ _ _ _ _ _ _ _ _ => rfl)⟩
    have HS : HasM l.prog w K mg base C 2 "has" ["self", "who"] (spHas K C) f_has fd_has := ⟨ok_has F_has T NM, M_has, (bind2 F_has fun _ _ _ _ _ _ _ _ => rfl)⟩
    have PL : HasM l.prog w K mg base C 3 "place_of" ["self", "who"] (spPlace K C) f_place_of fd_place_of := ⟨ok_place F_place_of T HS, M_place_of, (bind2 F_place_of fun _ _ _ _ _ _ _ _ => rfl)⟩
    have PS : HasM l.prog w K mg base C 1 "persons" ["self"] (spPersons K C) f_persons fd_persons := ⟨ok_persons F_persons T B3, M_persons, (bind1 F_persons fun _ _ _ _ _ _ _ => rfl)⟩
    have GV : HasM l.prog w K mg base C 4 "given" ["self", "who"] (spNum K C Bk.gifts) f_given fd_given := ⟨ok_given F_given T PL, M_given, (bind2 F_given fun _ _ _ _ _ _ _ _ => rfl)⟩
    have FL : HasM l.prog w K mg base C 4 "fallen" ["self", "who"] (spNum K C Bk.drops) f_fallen fd_fallen := ⟨ok_fallen F_fallen T PL, M_fallen, (bind2 F_fallen fun _ _ _ _ _ _ _ _ => rfl)⟩
    have NT : HasM l.prog w K mg base C 4 "notes" ["self", "who"] (spRow K C fun l _ => l) f_notes fd_notes := ⟨ok_notes F_notes T B3 PL, M_notes, (bind2 F_notes fun _ _ _ _ _ _ _ _ => rfl)⟩
    have PI : HasM l.prog w K mg base C 5 "pile" ["self", "who"] (spRow K C leftN) f_pile fd_pile := ⟨ok_pile F_pile T SPL NT FL, M_pile, (bind2 F_pile fun _ _ _ _ _ _ _ _ => rfl)⟩
    have FT : HasM l.prog w K mg base C 4 "fallen_to" ["self", "who"] (spCalc K C fun M _ z => fallTo M z) f_fallen_to fd_fallen_to := ⟨ok_fallTo F_fallen_to T B3 PL SPL, M_fallen_to, (bind2 F_fallen_to fun _ _ _ _ _ _ _ _ => rfl)⟩
    have CS : HasM l.prog w K mg base C 5 "cash" ["self", "who"] (spCalc K C cashM) f_cash fd_cash := ⟨ok_cash F_cash T GV FT FL, M_cash, (bind2 F_cash fun _ _ _ _ _ _ _ _ => rfl)⟩
    have PU : HasM l.prog w K mg base C 6 "put" ["self", "who", "to", "amount"] (spPut K C) f_put fd_put := ⟨ok_put F_put T B B3 ⟨t_MOST, g_MOST⟩ PL CKA CHG WT, M_put, (bind4 F_put fun _ _ _ _ _ _ _ _ _ _ => rfl)⟩
    have GE : HasM l.prog w K mg base C 6 "give" ["self", "who", "amount"] (spGive K C) f_give fd_give := ⟨ok_give F_give T PL CKA CHG WT, M_give, (bind3 F_give fun _ _ _ _ _ _ _ _ _ => rfl)⟩
    have KY : HasM l.prog w K mg base C 1 "key" ["self"] (spKey K C) f_key fd_key := ⟨ok_key F_key T, M_key, (bind1 F_key fun _ _ _ _ _ _ _ => rfl)⟩
    have WO : HasM l.prog w K mg base C 5 "whole_of" ["self", "who"] (spCalc K C fun M j _ => wholeN (M.stacks.getD j [])) f_whole_of fd_whole_of := ⟨ok_whOf F_whole_of T B3 NT, M_whole_of, (bind2 F_whole_of fun _ _ _ _ _ _ _ _ => rfl)⟩
    have MF : HasM l.prog w K mg base C 6 "may_fall" ["self", "more"] (spMayF K C) f_may_fall fd_may_fall := ⟨ok_mayF F_may_fall T B B3 HS WH FL WO, M_may_fall, (bind2 F_may_fall fun _ _ _ _ _ _ _ _ => rfl)⟩
    have LF : HasM l.prog w K mg base C 7 "let_fall" ["self", "more"] (spLetF K C) f_let_fall fd_let_fall := ⟨ok_letF F_let_fall T B3 MF FL WT CS, M_let_fall, (bind2 F_let_fall fun _ _ _ _ _ _ _ _ => rfl)⟩
    have TK : HasTake l.prog w K mg base f_l_take fd_l_take := ⟨ok_take F_l_take B2, g_l_take, F_l_take.kp, (bind2 F_l_take fun _ _ _ _ _ _ _ _ => rfl)⟩
    have AM : HasAmong l.prog w K mg base f_l_among fd_l_among := ⟨ok_among F_l_among B TK, g_l_among, F_l_among.kp, (bind2 F_l_among fun _ _ _ _ _ _ _ _ => rfl)⟩
    have LP : Has l.prog w K mg base 3 "_law_pot" ["_law_script", "_law_k"] (spPot K) f_l_pot fd_l_pot := ⟨ok_pot F_l_pot B B2, g_l_pot, F_l_pot.kp, (bind2 F_l_pot fun _ _ _ _ _ _ _ _ => rfl)⟩
    have LNM : Has l.prog w K mg base 2 "_law_name" ["_law_pot_here", "_law_used"] spLNm f_l_name fd_l_name := ⟨ok_lnm F_l_name B B2 TK, g_l_name, F_l_name.kp, (bind2 F_l_name fun _ _ _ _ _ _ _ _ => rfl)⟩
    have LNS : Has l.prog w K mg base 3 "_law_names" ["_law_pot_here", "_law_many"] spLNms f_l_names fd_l_names := ⟨ok_lnms F_l_names B2 LNM, g_l_names, F_l_names.kp, (bind2 F_l_names fun _ _ _ _ _ _ _ _ => rfl)⟩
    have LAM : Has l.prog w K mg base 2 "_law_amount" ["_law_pot_here", "_law_size"] spLAm f_l_amount fd_l_amount := ⟨ok_lam F_l_amount TK, g_l_amount, F_l_amount.kp, (bind2 F_l_amount fun _ _ _ _ _ _ _ _ => rfl)⟩
    have LMD : Has l.prog w K mg base 1 "_law_model" ["_law_names_here"] (spLMd K) f_l_model fd_l_model := ⟨ok_lmd F_l_model B3, g_l_model, F_l_model.kp, (bind1 F_l_model fun _ _ _ _ _ _ _ => rfl)⟩
    have LPT : Has l.prog w K mg base 1 "_law_parted" ["_law_model_here", "_law_owner"] (spLPt K) f_l_parted fd_l_parted := ⟨ok_lpt F_l_parted B B2, g_l_parted, F_l_parted.kp, (bind2 F_l_parted fun _ _ _ _ _ _ _ _ => rfl)⟩
    have LLF : Has l.prog w K mg base 2 "_law_left" ["_law_model_here", "_law_owner"] (spLLf K) f_l_left fd_l_left := ⟨ok_llf F_l_left LPT, g_l_left, F_l_left.kp, (bind2 F_l_left fun _ _ _ _ _ _ _ _ => rfl)⟩
    have LNX : Has l.prog w K mg base 3 "_law_next" ["_law_model_here", "_law_owner"] (spLNx K) f_l_next fd_l_next := ⟨ok_lnx F_l_next LLF, g_l_next, F_l_next.kp, (bind2 F_l_next fun _ _ _ _ _ _ _ _ => rfl)⟩
    have LTR : Has l.prog w K mg base 4 "_law_trail" ["_law_model_here", "_law_owner"] (spLTr K) f_l_trail fd_l_trail := ⟨ok_ltr F_l_trail LNX, g_l_trail, F_l_trail.kp, (bind2 F_l_trail fun _ _ _ _ _ _ _ _ => rfl)⟩
    have LRG : Has l.prog w K mg base 5 "_law_ring" ["_law_model_here", "_law_owner"] (spLRg K) f_l_ring fd_l_ring := ⟨ok_lrg F_l_ring B2 LNX LTR, g_l_ring, F_l_ring.kp, (bind2 F_l_ring fun _ _ _ _ _ _ _ _ => rfl)⟩
    have LCS : Has l.prog w K mg base 2 "_law_cash" ["_law_model_here", "_law_owner"] (spLCs K) f_l_cash fd_l_cash := ⟨ok_lcs F_l_cash B3 LPT, g_l_cash, F_l_cash.kp, (bind2 F_l_cash fun _ _ _ _ _ _ _ _ => rfl)⟩
    have LDS : Has l.prog w K mg base 3 "_law_deeds" ["_law_pot_here", "_law_names_here", "_law_many", "_law_size"] (spLDs K) f_l_deeds fd_l_deeds := ⟨ok_lds F_l_deeds B2 TK AM LAM, g_l_deeds, F_l_deeds.kp, (bind4 F_l_deeds fun _ _ _ _ _ _ _ _ _ _ => rfl)⟩
    have LDN : Has l.prog w K mg base 1 "_law_done" ["_law_model_here", "_law_deed"] (spLDn K) f_l_done fd_l_done := ⟨ok_ldn F_l_done, g_l_done, F_l_done.kp, (bind2 F_l_done fun _ _ _ _ _ _ _ _ => rfl)⟩
    have LBK : Has l.prog w K mg base 7 "_law_booked" ["_law_tome", "_law_deeds_here"] (spLBk K C) f_l_booked fd_l_booked := ⟨ok_lbk F_l_booked T GE PU, g_l_booked, F_l_booked.kp, (bind2 F_l_booked fun _ _ _ _ _ _ _ _ => rfl)⟩
    have LAL : HasG l.prog w K mg base 6 "_law_alike" ["_law_model_here", "_law_tome"] (spLAl K C) f_l_alike fd_l_alike := ⟨ok_lal F_l_alike T B2 PS GV FL CS NT PI LCS LLF, g_l_alike, F_l_alike.kp, (bind2 F_l_alike fun _ _ _ _ _ _ _ _ => rfl)⟩
    have LFL : Has l.prog w K mg base 1 "_law_fall" ["_law_model_here", "_law_owner", "_law_coins"] (spLFl K) f_l_fall fd_l_fall := ⟨ok_lfl F_l_fall, g_l_fall, F_l_fall.kp, (bind3 F_l_fall fun _ _ _ _ _ _ _ _ _ => rfl)⟩
    have LMO : Has l.prog w K mg base 3 "_law_most" ["_law_model_here", "_law_owner"] (spLMo K) f_l_most fd_l_most := ⟨ok_lmo F_l_most B2 LLF LCS, g_l_most, F_l_most.kp, (bind2 F_l_most fun _ _ _ _ _ _ _ _ => rfl)⟩
    have LLS : Has l.prog w K mg base 3 "_law_least" ["_law_model_here", "_law_ring_here"] (spLLs K) f_l_least fd_l_least := ⟨ok_lls F_l_least B2 LLF, g_l_least, F_l_least.kp, (bind2 F_l_least fun _ _ _ _ _ _ _ _ => rfl)⟩
    have LCP : Has l.prog w K mg base 2 "_law_copied" ["_law_model_here"] (spLCp K) f_l_copied fd_l_copied := ⟨ok_lcp F_l_copied B3 LMD, g_l_copied, F_l_copied.kp, (bind1 F_l_copied fun _ _ _ _ _ _ _ => rfl)⟩
    have LDR : Has l.prog w K mg base 4 "_law_drawn" ["_law_pot_here", "_law_persons", "_law_many", "_law_size"] (spLDr K) f_l_drawn fd_l_drawn := ⟨ok_ldr F_l_drawn LNS LDS LMD LDN, g_l_drawn, F_l_drawn.kp, (bind4 F_l_drawn fun _ _ _ _ _ _ _ _ _ _ => rfl)⟩
    have LSP : Has l.prog w K mg base 6 "_law_step" ["_law_pot_here", "_law_model_here"] (spLSp K) f_l_step fd_l_step := ⟨ok_lsp F_l_step B2 TK AM LRG LLS LMO, g_l_step, F_l_step.kp, (bind2 F_l_step fun _ _ _ _ _ _ _ _ => rfl)⟩
    have LWN : Has l.prog w K mg base 6 "_law_went" ["_law_model_here", "_law_step_here"] (spLWn K) f_l_went fd_l_went := ⟨ok_lwn F_l_went LRG LFL, g_l_went, F_l_went.kp, (bind2 F_l_went fun _ _ _ _ _ _ _ _ => rfl)⟩
    have ISV : Has l.prog w K mg base 6 "is_vector" ["book", "thing"] (spIsV K C (.bl true)) f_is_vector fd_is_vector := ⟨ok_isV F_is_vector T B B3 PS HS WH WO, g_is_vector, F_is_vector.kp, (bind2 F_is_vector fun _ _ _ _ _ _ _ _ => rfl)⟩
    have CKV : Has l.prog w K mg base 7 "check_vector" ["book", "thing"] (spIsV K C .non) f_check_vector fd_check_vector := ⟨ok_ckV F_check_vector ISV, g_check_vector, F_check_vector.kp, (bind2 F_check_vector fun _ _ _ _ _ _ _ _ => rfl)⟩
    have ENB : Has l.prog w K mg base 8 "ends_by" ["book", "vector"] (spEnB K C) f_ends_by fd_ends_by := ⟨ok_enB F_ends_by T CKV PS GV SPL NT, g_ends_by, F_ends_by.kp, (bind2 F_ends_by fun _ _ _ _ _ _ _ _ => rfl)⟩
    have ISC : Has l.prog w K mg base 9 "is_covered" ["book", "vector"] (spIsC K C) f_is_covered fd_is_covered := ⟨ok_isC F_is_covered B ENB, g_is_covered, F_is_covered.kp, (bind2 F_is_covered fun _ _ _ _ _ _ _ _ => rfl)⟩
    have FAO : Has l.prog w K mg base 5 "fallen_of" ["book"] (spFaO K C) f_fallen_of fd_fallen_of := ⟨ok_faO F_fallen_of T PS FL, g_fallen_of, F_fallen_of.kp, (bind1 F_fallen_of fun _ _ _ _ _ _ _ => rfl)⟩
    have LSA : Has l.prog w K mg base 2 "_law_shares" ["_law_pot_here", "_law_model_here"] (spLSa K) f_l_shares fd_l_shares := ⟨ok_lsa F_l_shares B B2 B3 TK, g_l_shares, F_l_shares.kp, (bind2 F_l_shares fun _ _ _ _ _ _ _ _ => rfl)⟩
    have LEN : Has l.prog w K mg base 3 "_law_ends" ["_law_model_here", "_law_shares_here"] (spLEn K) f_l_ends fd_l_ends := ⟨ok_len F_l_ends B3 LCP LCS, g_l_ends, F_l_ends.kp, (bind2 F_l_ends fun _ _ _ _ _ _ _ _ => rfl)⟩
    have LWK : Has l.prog w K mg base 7 "_law_walked" ["_law_pot_here", "_law_model_here", "_law_most_here"] (spLWk K) f_l_walked fd_l_walked := ⟨ok_lwk F_l_walked B2 TK LSP LWN, g_l_walked, F_l_walked.kp, (bind3 F_l_walked fun _ _ _ _ _ _ _ _ _ => rfl)⟩
    have LBG : Has l.prog w K mg base 8 "_law_begun" ["_law_pot_here"] (spLBg K C) f_l_begun fd_l_begun := ⟨ok_lbg F_l_begun B TK LDR LBK MK TC.g GI bI, g_l_begun, F_l_begun.kp, (bind1 F_l_begun fun _ _ _ _ _ _ _ => rfl)⟩
    have ISN : Has l.prog w K mg base 6 "is_vector" ["book", "thing"] (spNIs K C) f_is_vector fd_is_vector := ⟨no_isV F_is_vector T B B3 PS HS WH WO, g_is_vector, F_is_vector.kp, (bind2 F_is_vector fun _ _ _ _ _ _ _ _ => rfl)⟩
    have CKN : HasX l.prog w K mg base 7 "check_vector" ["book", "thing"] (spNVe K C EA.V) f_check_vector fd_check_vector := ⟨no_ckV F_check_vector PVV ISN, g_check_vector, F_check_vector.kp, (bind2 F_check_vector fun _ _ _ _ _ _ _ _ => rfl)⟩
    have ENN : HasX l.prog w K mg base 8 "ends_by" ["book", "vector"] (spNVe K C EA.V) f_ends_by fd_ends_by := ⟨no_enB F_ends_by CKN, g_ends_by, F_ends_by.kp, (bind2 F_ends_by fun _ _ _ _ _ _ _ _ => rfl)⟩
    have ICN : HasX l.prog w K mg base 9 "is_covered" ["book", "vector"] (spNVe K C EA.V) f_is_covered fd_is_covered := ⟨no_isC F_is_covered ENN, g_is_covered, F_is_covered.kp, (bind2 F_is_covered fun _ _ _ _ _ _ _ _ => rfl)⟩
    have LNS61 : Has l.prog w K mg base 3 "_law_no_shares" ["_law_pot_here", "_law_model_here", "_law_shares_here"] (spLNs61 K) f_l_no_shares fd_l_no_shares := ⟨ok_lns61 F_l_no_shares B B2 B3 TK AM, g_l_no_shares, F_l_no_shares.kp, (bind3 F_l_no_shares fun _ _ _ _ _ _ _ _ _ => rfl)⟩
    have LIS : HasG l.prog w K mg base 1 "_law_is" ["_law_told", "_law_due"] spLIs f_l_is fd_l_is := ⟨ok_lis F_l_is B B2 B3, g_l_is, F_l_is.kp, (bind2 F_l_is fun _ _ _ _ _ _ _ _ => rfl)⟩
    have LTD : Has l.prog w K mg base 10 "_law_tried" ["_law_made", "_law_thing", "_law_which"] (spLTd K C) f_l_tried fd_l_tried := ⟨ok_ltd F_l_tried B ET PVV ENN ICN, g_l_tried, F_l_tried.kp, (bind3 F_l_tried fun _ _ _ _ _ _ _ _ _ => rfl)⟩
    have LRT : HasG l.prog w K mg base 11 "_law_right" ["_law_pot_here", "_law_model_here", "_law_made"] (spLRt61 K C) f_l_right fd_l_right := ⟨ok_lrt61 F_l_right B B2 LSA LEN ENB (kbRv2 F_ends_by fun _ _ _ _ _ _ _ _ => rfl) LIS LNS61 LTD LAL, g_l_right, F_l_right.kp, (bind3 F_l_right fun _ _ _ _ _ _ _ _ _ => rfl)⟩
    exact ok_law F_law T B B2 B3 LP LBG LWK LF FAO (kbOne F_fallen_of fun _ _ _ _ _ _ _ => rfl) LIS ENB CS LRT
end Rc

set_option pp.maxSteps 300
set_option pp.deepTerms false
open PySem PySem.W PyProof.Rows
set_option maxHeartbeats 0 in
theorem PySem.Challenge.cw_ringclear_k61_ends_of_vectors_holds : PySem.Challenge.rw_ringclear_k61_ends_of_vectors.Holds := by
  w_on; o_law; k_head; (case hw => w_witness2)
  k_fill
  refine Rc.walk_ofG (l := PySem.Challenge.rw_ringclear_k61_ends_of_vectors) (n := 63) (k := 12) (x := "_law_script") (CX := fun _ => L2.CX0) (sp := fun w => Rc.spLaw _) rfl (by decide) rfl ⟨rfl, by decide, by decide⟩ (fun w h Y => PySem.W.kIn_of Y) ?F (fun _ _ a ns hl _ hS => ⟨a, ns, rfl, hS, hl, fun _ => rfl⟩) (fun _ _ _ _ _ h => h)
  case F =>
    intro w mg fa h KX G hmg
    refine' Rc.all_mk KX hmg ?TC ?d_is_name ?d_is_whole ?d_is_amount ?d_check_persons ?d_check_amount ?d_split_notes ?d_with_changed ?d_is_vector ?d_check_vector ?d_fallen_of ?d_ends_by ?d_is_covered ?d_l_pot ?d_l_take ?d_l_name ?d_l_names ?d_l_among ?d_l_amount ?d_l_model ?d_l_parted ?d_l_left ?d_l_cash ?d_l_next ?d_l_trail ?d_l_ring ?d_l_deeds ?d_l_done ?d_l_booked ?d_l_alike ?d_l_fall ?d_l_most ?d_l_least ?d_l_copied ?d_l_drawn ?d_l_step ?d_l_went ?d_l_shares ?d_l_ends ?d_l_walked ?d_l_begun ?d_l_no_shares ?d_l_is ?d_l_tried ?d_l_right ?d_law ?m_init ?m_with_these ?m_has ?m_place_of ?m_persons ?m_given ?m_fallen ?m_notes ?m_pile ?m_fallen_to ?m_cash ?m_put ?m_give ?m_key ?m_whole_of ?m_may_fall ?m_let_fall ?c_LETTERS ?c_LONGEST ?c_MOST ?c_MOST_PERSONS ?B ?B2 ?B3 ?xEt
    case TC => (refine' Rc.mkTop KX G ?tcA ?tcPg ?tcHd ?tcPo ?tcSa ?tcMk ?tcKc ?tcN1 ?tcN2 ?tcN3 ?tcN4; (case tcA => k_is); (case tcPg => k_is); (case tcHd => k_is); (case tcPo => k_is); (case tcSa => k_is); (case tcMk => k_is); (case tcKc => k_is); (case tcN1 => k_is); (case tcN2 => k_is); (case tcN3 => k_is); (case tcN4 => k_is))
    case c_LETTERS => (refine' Rc.con_of KX G ?ca_LETTERS ?cr_LETTERS; (case ca_LETTERS => k_is); (case cr_LETTERS => exact ⟨_, rfl⟩))
    case c_LONGEST => (refine' Rc.con_of KX G ?ca_LONGEST ?cr_LONGEST; (case ca_LONGEST => k_is); (case cr_LONGEST => exact ⟨_, rfl⟩))
    case c_MOST => (refine' Rc.con_of KX G ?ca_MOST ?cr_MOST; (case ca_MOST => k_is); (case cr_MOST => exact ⟨_, rfl⟩))
    case c_MOST_PERSONS => (refine' Rc.con_of KX G ?ca_MOST_PERSONS ?cr_MOST_PERSONS; (case ca_MOST_PERSONS => k_is); (case cr_MOST_PERSONS => exact ⟨_, rfl⟩))
    case B => (refine' ⟨PySem.W.mg_none_of KX G ?Bz0, PySem.W.mg_none_of KX G ?Bz1, PySem.W.mg_none_of KX G ?Bz2, PySem.W.mg_none_of KX G ?Bz3, PySem.W.mg_none_of KX G ?Bz4, PySem.W.mg_none_of KX G ?Bz5⟩; (case Bz0 => k_is); (case Bz1 => k_is); (case Bz2 => k_is); (case Bz3 => k_is); (case Bz4 => k_is); (case Bz5 => k_is))
    case B2 => (refine' ⟨PySem.W.mg_none_of KX G ?B2z0, PySem.W.mg_none_of KX G ?B2z1, PySem.W.mg_none_of KX G ?B2z2, PySem.W.mg_none_of KX G ?B2z3, PySem.W.mg_none_of KX G ?B2z4, PySem.W.mg_none_of KX G ?B2z5⟩; (case B2z0 => k_is); (case B2z1 => k_is); (case B2z2 => k_is); (case B2z3 => k_is); (case B2z4 => k_is); (case B2z5 => k_is))
    case B3 => (refine' ⟨PySem.W.mg_none_of KX G ?B3z0, PySem.W.mg_none_of KX G ?B3z1, PySem.W.mg_none_of KX G ?B3z2, PySem.W.mg_none_of KX G ?B3z3, PySem.W.mg_none_of KX G ?B3z4, PySem.W.mg_none_of KX G ?B3z5⟩; (case B3z0 => k_is); (case B3z1 => k_is); (case B3z2 => k_is); (case B3z3 => k_is); (case B3z4 => k_is); (case B3z5 => k_is))
    case d_is_name => (refine' Rc.mkDef KX G ?a_d_is_name ?l_d_is_name ?c_d_is_name ?k_d_is_name; (case a_d_is_name => k_is); (case l_d_is_name => k_is); (case c_d_is_name => k_is); (case k_d_is_name => k_is))
    case d_is_whole => (refine' Rc.mkDef KX G ?a_d_is_whole ?l_d_is_whole ?c_d_is_whole ?k_d_is_whole; (case a_d_is_whole => k_is); (case l_d_is_whole => k_is); (case c_d_is_whole => k_is); (case k_d_is_whole => k_is))
    case d_is_amount => (refine' Rc.mkDef KX G ?a_d_is_amount ?l_d_is_amount ?c_d_is_amount ?k_d_is_amount; (case a_d_is_amount => k_is); (case l_d_is_amount => k_is); (case c_d_is_amount => k_is); (case k_d_is_amount => k_is))
    case d_check_persons => (refine' Rc.mkDef KX G ?a_d_check_persons ?l_d_check_persons ?c_d_check_persons ?k_d_check_persons; (case a_d_check_persons => k_is); (case l_d_check_persons => k_is); (case c_d_check_persons => k_is); (case k_d_check_persons => k_is))
    case d_check_amount => (refine' Rc.mkDef KX G ?a_d_check_amount ?l_d_check_amount ?c_d_check_amount ?k_d_check_amount; (case a_d_check_amount => k_is); (case l_d_check_amount => k_is); (case c_d_check_amount => k_is); (case k_d_check_amount => k_is))
    case d_split_notes => (refine' Rc.mkDef KX G ?a_d_split_notes ?l_d_split_notes ?c_d_split_notes ?k_d_split_notes; (case a_d_split_notes => k_is); (case l_d_split_notes => k_is); (case c_d_split_notes => k_is); (case k_d_split_notes => k_is))
    case d_with_changed => (refine' Rc.mkDef KX G ?a_d_with_changed ?l_d_with_changed ?c_d_with_changed ?k_d_with_changed; (case a_d_with_changed => k_is); (case l_d_with_changed => k_is); (case c_d_with_changed => k_is); (case k_d_with_changed => k_is))
    case d_is_vector => (refine' Rc.mkDef KX G ?a_d_is_vector ?l_d_is_vector ?c_d_is_vector ?k_d_is_vector; (case a_d_is_vector => k_is); (case l_d_is_vector => k_is); (case c_d_is_vector => k_is); (case k_d_is_vector => k_is))
    case d_check_vector => (refine' Rc.mkDef KX G ?a_d_check_vector ?l_d_check_vector ?c_d_check_vector ?k_d_check_vector; (case a_d_check_vector => k_is); (case l_d_check_vector => k_is); (case c_d_check_vector => k_is); (case k_d_check_vector => k_is))
    case d_fallen_of => (refine' Rc.mkDef KX G ?a_d_fallen_of ?l_d_fallen_of ?c_d_fallen_of ?k_d_fallen_of; (case a_d_fallen_of => k_is); (case l_d_fallen_of => k_is); (case c_d_fallen_of => k_is); (case k_d_fallen_of => k_is))
    case d_ends_by => (refine' Rc.mkDef KX G ?a_d_ends_by ?l_d_ends_by ?c_d_ends_by ?k_d_ends_by; (case a_d_ends_by => k_is); (case l_d_ends_by => k_is); (case c_d_ends_by => k_is); (case k_d_ends_by => k_is))
    case d_is_covered => (refine' Rc.mkDef KX G ?a_d_is_covered ?l_d_is_covered ?c_d_is_covered ?k_d_is_covered; (case a_d_is_covered => k_is); (case l_d_is_covered => k_is); (case c_d_is_covered => k_is); (case k_d_is_covered => k_is))
    case d_l_pot => (refine' Rc.mkDef KX G ?a_d_l_pot ?l_d_l_pot ?c_d_l_pot ?k_d_l_pot; (case a_d_l_pot => k_is); (case l_d_l_pot => k_is); (case c_d_l_pot => k_is); (case k_d_l_pot => k_is))
    case d_l_take => (refine' Rc.mkDef KX G ?a_d_l_take ?l_d_l_take ?c_d_l_take ?k_d_l_take; (case a_d_l_take => k_is); (case l_d_l_take => k_is); (case c_d_l_take => k_is); (case k_d_l_take => k_is))
    case d_l_name => (refine' Rc.mkDef KX G ?a_d_l_name ?l_d_l_name ?c_d_l_name ?k_d_l_name; (case a_d_l_name => k_is); (case l_d_l_name => k_is); (case c_d_l_name => k_is); (case k_d_l_name => k_is))
    case d_l_names => (refine' Rc.mkDef KX G ?a_d_l_names ?l_d_l_names ?c_d_l_names ?k_d_l_names; (case a_d_l_names => k_is); (case l_d_l_names => k_is); (case c_d_l_names => k_is); (case k_d_l_names => k_is))
    case d_l_among => (refine' Rc.mkDef KX G ?a_d_l_among ?l_d_l_among ?c_d_l_among ?k_d_l_among; (case a_d_l_among => k_is); (case l_d_l_among => k_is); (case c_d_l_among => k_is); (case k_d_l_among => k_is))
    case d_l_amount => (refine' Rc.mkDef KX G ?a_d_l_amount ?l_d_l_amount ?c_d_l_amount ?k_d_l_amount; (case a_d_l_amount => k_is); (case l_d_l_amount => k_is); (case c_d_l_amount => k_is); (case k_d_l_amount => k_is))
    case d_l_model => (refine' Rc.mkDef KX G ?a_d_l_model ?l_d_l_model ?c_d_l_model ?k_d_l_model; (case a_d_l_model => k_is); (case l_d_l_model => k_is); (case c_d_l_model => k_is); (case k_d_l_model => k_is))
    case d_l_parted => (refine' Rc.mkDef KX G ?a_d_l_parted ?l_d_l_parted ?c_d_l_parted ?k_d_l_parted; (case a_d_l_parted => k_is); (case l_d_l_parted => k_is); (case c_d_l_parted => k_is); (case k_d_l_parted => k_is))
    case d_l_left => (refine' Rc.mkDef KX G ?a_d_l_left ?l_d_l_left ?c_d_l_left ?k_d_l_left; (case a_d_l_left => k_is); (case l_d_l_left => k_is); (case c_d_l_left => k_is); (case k_d_l_left => k_is))
    case d_l_cash => (refine' Rc.mkDef KX G ?a_d_l_cash ?l_d_l_cash ?c_d_l_cash ?k_d_l_cash; (case a_d_l_cash => k_is); (case l_d_l_cash => k_is); (case c_d_l_cash => k_is); (case k_d_l_cash => k_is))
    case d_l_next => (refine' Rc.mkDef KX G ?a_d_l_next ?l_d_l_next ?c_d_l_next ?k_d_l_next; (case a_d_l_next => k_is); (case l_d_l_next => k_is); (case c_d_l_next => k_is); (case k_d_l_next => k_is))
    case d_l_trail => (refine' Rc.mkDef KX G ?a_d_l_trail ?l_d_l_trail ?c_d_l_trail ?k_d_l_trail; (case a_d_l_trail => k_is); (case l_d_l_trail => k_is); (case c_d_l_trail => k_is); (case k_d_l_trail => k_is))
    case d_l_ring => (refine' Rc.mkDef KX G ?a_d_l_ring ?l_d_l_ring ?c_d_l_ring ?k_d_l_ring; (case a_d_l_ring => k_is); (case l_d_l_ring => k_is); (case c_d_l_ring => k_is); (case k_d_l_ring => k_is))
    case d_l_deeds => (refine' Rc.mkDef KX G ?a_d_l_deeds ?l_d_l_deeds ?c_d_l_deeds ?k_d_l_deeds; (case a_d_l_deeds => k_is); (case l_d_l_deeds => k_is); (case c_d_l_deeds => k_is); (case k_d_l_deeds => k_is))
    case d_l_done => (refine' Rc.mkDef KX G ?a_d_l_done ?l_d_l_done ?c_d_l_done ?k_d_l_done; (case a_d_l_done => k_is); (case l_d_l_done => k_is); (case c_d_l_done => k_is); (case k_d_l_done => k_is))
    case d_l_booked => (refine' Rc.mkDef KX G ?a_d_l_booked ?l_d_l_booked ?c_d_l_booked ?k_d_l_booked; (case a_d_l_booked => k_is); (case l_d_l_booked => k_is); (case c_d_l_booked => k_is); (case k_d_l_booked => k_is))
    case d_l_alike => (refine' Rc.mkDef KX G ?a_d_l_alike ?l_d_l_alike ?c_d_l_alike ?k_d_l_alike; (case a_d_l_alike => k_is); (case l_d_l_alike => k_is); (case c_d_l_alike => k_is); (case k_d_l_alike => k_is))
    case d_l_fall => (refine' Rc.mkDef KX G ?a_d_l_fall ?l_d_l_fall ?c_d_l_fall ?k_d_l_fall; (case a_d_l_fall => k_is); (case l_d_l_fall => k_is); (case c_d_l_fall => k_is); (case k_d_l_fall => k_is))
    case d_l_most => (refine' Rc.mkDef KX G ?a_d_l_most ?l_d_l_most ?c_d_l_most ?k_d_l_most; (case a_d_l_most => k_is); (case l_d_l_most => k_is); (case c_d_l_most => k_is); (case k_d_l_most => k_is))
    case d_l_least => (refine' Rc.mkDef KX G ?a_d_l_least ?l_d_l_least ?c_d_l_least ?k_d_l_least; (case a_d_l_least => k_is); (case l_d_l_least => k_is); (case c_d_l_least => k_is); (case k_d_l_least => k_is))
    case d_l_copied => (refine' Rc.mkDef KX G ?a_d_l_copied ?l_d_l_copied ?c_d_l_copied ?k_d_l_copied; (case a_d_l_copied => k_is); (case l_d_l_copied => k_is); (case c_d_l_copied => k_is); (case k_d_l_copied => k_is))
    case d_l_drawn => (refine' Rc.mkDef KX G ?a_d_l_drawn ?l_d_l_drawn ?c_d_l_drawn ?k_d_l_drawn; (case a_d_l_drawn => k_is); (case l_d_l_drawn => k_is); (case c_d_l_drawn => k_is); (case k_d_l_drawn => k_is))
    case d_l_step => (refine' Rc.mkDef KX G ?a_d_l_step ?l_d_l_step ?c_d_l_step ?k_d_l_step; (case a_d_l_step => k_is); (case l_d_l_step => k_is); (case c_d_l_step => k_is); (case k_d_l_step => k_is))
    case d_l_went => (refine' Rc.mkDef KX G ?a_d_l_went ?l_d_l_went ?c_d_l_went ?k_d_l_went; (case a_d_l_went => k_is); (case l_d_l_went => k_is); (case c_d_l_went => k_is); (case k_d_l_went => k_is))
    case d_l_shares => (refine' Rc.mkDef KX G ?a_d_l_shares ?l_d_l_shares ?c_d_l_shares ?k_d_l_shares; (case a_d_l_shares => k_is); (case l_d_l_shares => k_is); (case c_d_l_shares => k_is); (case k_d_l_shares => k_is))
    case d_l_ends => (refine' Rc.mkDef KX G ?a_d_l_ends ?l_d_l_ends ?c_d_l_ends ?k_d_l_ends; (case a_d_l_ends => k_is); (case l_d_l_ends => k_is); (case c_d_l_ends => k_is); (case k_d_l_ends => k_is))
    case d_l_walked => (refine' Rc.mkDef KX G ?a_d_l_walked ?l_d_l_walked ?c_d_l_walked ?k_d_l_walked; (case a_d_l_walked => k_is); (case l_d_l_walked => k_is); (case c_d_l_walked => k_is); (case k_d_l_walked => k_is))
    case d_l_begun => (refine' Rc.mkDef KX G ?a_d_l_begun ?l_d_l_begun ?c_d_l_begun ?k_d_l_begun; (case a_d_l_begun => k_is); (case l_d_l_begun => k_is); (case c_d_l_begun => k_is); (case k_d_l_begun => k_is))
    case d_l_no_shares => (refine' Rc.mkDef KX G ?a_d_l_no_shares ?l_d_l_no_shares ?c_d_l_no_shares ?k_d_l_no_shares; (case a_d_l_no_shares => k_is); (case l_d_l_no_shares => k_is); (case c_d_l_no_shares => k_is); (case k_d_l_no_shares => k_is))
    case d_l_is => (refine' Rc.mkDef KX G ?a_d_l_is ?l_d_l_is ?c_d_l_is ?k_d_l_is; (case a_d_l_is => k_is); (case l_d_l_is => k_is); (case c_d_l_is => k_is); (case k_d_l_is => k_is))
    case d_l_tried => (refine' Rc.mkDef KX G ?a_d_l_tried ?l_d_l_tried ?c_d_l_tried ?k_d_l_tried; (case a_d_l_tried => k_is); (case l_d_l_tried => k_is); (case c_d_l_tried => k_is); (case k_d_l_tried => k_is))
    case d_l_right => (refine' Rc.mkDef KX G ?a_d_l_right ?l_d_l_right ?c_d_l_right ?k_d_l_right; (case a_d_l_right => k_is); (case l_d_l_right => k_is); (case c_d_l_right => k_is); (case k_d_l_right => k_is))
    case d_law => (refine' Rc.mkDef KX G ?a_d_law ?l_d_law ?c_d_law ?k_d_law; (case a_d_law => k_is); (case l_d_law => k_is); (case c_d_law => k_is); (case k_d_law => k_is))
    case m_init => (refine' Rc.mkMeth ?a_m_init ?i_m_init ?l_m_init ?c_m_init ?k_m_init; (case a_m_init => k_is); (case i_m_init => k_is); (case l_m_init => k_is); (case c_m_init => k_is); (case k_m_init => k_is))
    case m_with_these => (refine' Rc.mkMeth ?a_m_with_these ?i_m_with_these ?l_m_with_these ?c_m_with_these ?k_m_with_these; (case a_m_with_these => k_is); (case i_m_with_these => k_is); (case l_m_with_these => k_is); (case c_m_with_these => k_is); (case k_m_with_these => k_is))
    case m_has => (refine' Rc.mkMeth ?a_m_has ?i_m_has ?l_m_has ?c_m_has ?k_m_has; (case a_m_has => k_is); (case i_m_has => k_is); (case l_m_has => k_is); (case c_m_has => k_is); (case k_m_has => k_is))
    case m_place_of => (refine' Rc.mkMeth ?a_m_place_of ?i_m_place_of ?l_m_place_of ?c_m_place_of ?k_m_place_of; (case a_m_place_of => k_is); (case i_m_place_of => k_is); (case l_m_place_of => k_is); (case c_m_place_of => k_is); (case k_m_place_of => k_is))
    case m_persons => (refine' Rc.mkMeth ?a_m_persons ?i_m_persons ?l_m_persons ?c_m_persons ?k_m_persons; (case a_m_persons => k_is); (case i_m_persons => k_is); (case l_m_persons => k_is); (case c_m_persons => k_is); (case k_m_persons => k_is))
    case m_given => (refine' Rc.mkMeth ?a_m_given ?i_m_given ?l_m_given ?c_m_given ?k_m_given; (case a_m_given => k_is); (case i_m_given => k_is); (case l_m_given => k_is); (case c_m_given => k_is); (case k_m_given => k_is))
    case m_fallen => (refine' Rc.mkMeth ?a_m_fallen ?i_m_fallen ?l_m_fallen ?c_m_fallen ?k_m_fallen; (case a_m_fallen => k_is); (case i_m_fallen => k_is); (case l_m_fallen => k_is); (case c_m_fallen => k_is); (case k_m_fallen => k_is))
    case m_notes => (refine' Rc.mkMeth ?a_m_notes ?i_m_notes ?l_m_notes ?c_m_notes ?k_m_notes; (case a_m_notes => k_is); (case i_m_notes => k_is); (case l_m_notes => k_is); (case c_m_notes => k_is); (case k_m_notes => k_is))
    case m_pile => (refine' Rc.mkMeth ?a_m_pile ?i_m_pile ?l_m_pile ?c_m_pile ?k_m_pile; (case a_m_pile => k_is); (case i_m_pile => k_is); (case l_m_pile => k_is); (case c_m_pile => k_is); (case k_m_pile => k_is))
    case m_fallen_to => (refine' Rc.mkMeth ?a_m_fallen_to ?i_m_fallen_to ?l_m_fallen_to ?c_m_fallen_to ?k_m_fallen_to; (case a_m_fallen_to => k_is); (case i_m_fallen_to => k_is); (case l_m_fallen_to => k_is); (case c_m_fallen_to => k_is); (case k_m_fallen_to => k_is))
    case m_cash => (refine' Rc.mkMeth ?a_m_cash ?i_m_cash ?l_m_cash ?c_m_cash ?k_m_cash; (case a_m_cash => k_is); (case i_m_cash => k_is); (case l_m_cash => k_is); (case c_m_cash => k_is); (case k_m_cash => k_is))
    case m_put => (refine' Rc.mkMeth ?a_m_put ?i_m_put ?l_m_put ?c_m_put ?k_m_put; (case a_m_put => k_is); (case i_m_put => k_is); (case l_m_put => k_is); (case c_m_put => k_is); (case k_m_put => k_is))
    case m_give => (refine' Rc.mkMeth ?a_m_give ?i_m_give ?l_m_give ?c_m_give ?k_m_give; (case a_m_give => k_is); (case i_m_give => k_is); (case l_m_give => k_is); (case c_m_give => k_is); (case k_m_give => k_is))
    case m_key => (refine' Rc.mkMeth ?a_m_key ?i_m_key ?l_m_key ?c_m_key ?k_m_key; (case a_m_key => k_is); (case i_m_key => k_is); (case l_m_key => k_is); (case c_m_key => k_is); (case k_m_key => k_is))
    case m_whole_of => (refine' Rc.mkMeth ?a_m_whole_of ?i_m_whole_of ?l_m_whole_of ?c_m_whole_of ?k_m_whole_of; (case a_m_whole_of => k_is); (case i_m_whole_of => k_is); (case l_m_whole_of => k_is); (case c_m_whole_of => k_is); (case k_m_whole_of => k_is))
    case m_may_fall => (refine' Rc.mkMeth ?a_m_may_fall ?i_m_may_fall ?l_m_may_fall ?c_m_may_fall ?k_m_may_fall; (case a_m_may_fall => k_is); (case i_m_may_fall => k_is); (case l_m_may_fall => k_is); (case c_m_may_fall => k_is); (case k_m_may_fall => k_is))
    case m_let_fall => (refine' Rc.mkMeth ?a_m_let_fall ?i_m_let_fall ?l_m_let_fall ?c_m_let_fall ?k_m_let_fall; (case a_m_let_fall => k_is); (case i_m_let_fall => k_is); (case l_m_let_fall => k_is); (case c_m_let_fall => k_is); (case k_m_let_fall => k_is))
    case xEt => (refine' Rc.mkEt61 KX G ?xsu_aB ?xsu_aO ?xsu_aNA ?xsu_aNP ?xsu_aX ?xsu_aNW ?xsu_aNK ?xsu_aS ?xsu_aR ?xsu_aF ?xsu_aT ?xsu_aH ?xsu_aD ?xsu_nL ?xsu_nA ?xsu_nR ?xsu_nV (Rc.mkClsP KX G ?xsV_a ?xsV_a1 ?xsV_a2 ?xsV_a3 ?xsV_a4 ?xsV_a5 ?xsV_a6 ?xsV_a7 ?xsV_a8 ?xsV_a9 ?xsV_b1 ?xsV_b2 ?xsV_b3 ?xsV_b4 ?xsV_b5) ?xsu_kV ?xsu_kR ?xsu_kO ?xsu_kNA ?xsu_kNP ?xsu_kX ?xsu_kNW ?xsu_kNK ?xsu_kL ?xsu_kA; (case xsV_a => (first | k_is | kit_is)); (case xsV_a1 => k_exc); (case xsV_a2 => (first | k_is | kit_is)); (case xsV_a3 => (first | k_is | kit_is)); (case xsV_a4 => (first | k_is | kit_is)); (case xsV_a5 => (first | k_is | kit_is)); (case xsV_a6 => (first | k_is | kit_is)); (case xsV_a7 => (first | k_is | kit_is)); (case xsV_a8 => (first | k_is | kit_is)); (case xsV_a9 => (first | k_is | kit_is)); (case xsV_b1 => (first | k_is | kit_is)); (case xsV_b2 => (first | k_is | kit_is)); (case xsV_b3 => (first | k_is | kit_is)); (case xsV_b4 => (first | k_is | kit_is)); (case xsV_b5 => (first | k_is | kit_is)); (case xsu_aB => (first | k_is | kit_is)); (case xsu_aO => (first | k_is | kit_is)); (case xsu_aNA => (first | k_is | kit_is)); (case xsu_aNP => (first | k_is | kit_is)); (case xsu_aX => (first | k_is | kit_is)); (case xsu_aNW => (first | k_is | kit_is)); (case xsu_aNK => (first | k_is | kit_is)); (case xsu_aS => (first | k_is | kit_is)); (case xsu_aR => (first | k_is | kit_is)); (case xsu_aF => (first | k_is | kit_is)); (case xsu_aT => (first | k_is | kit_is)); (case xsu_aH => (first | k_is | kit_is)); (case xsu_aD => (first | k_is | kit_is)); (case xsu_nL => (first | k_is | kit_is)); (case xsu_nA => (first | k_is | kit_is)); (case xsu_nR => (first | k_is | kit_is)); (case xsu_nV => (first | k_is | kit_is)); (case xsu_kV => (first | k_is | kit_is)); (case xsu_kR => (first | k_is | kit_is)); (case xsu_kO => (first | k_is | kit_is)); (case xsu_kNA => (first | k_is | kit_is)); (case xsu_kNP => (first | k_is | kit_is)); (case xsu_kX => (first | k_is | kit_is)); (case xsu_kNW => (first | k_is | kit_is)); (case xsu_kNK => (first | k_is | kit_is)); (case xsu_kL => (first | k_is | kit_is)); (case xsu_kA => (first | k_is | kit_is)))

